import PyProof.Rows.All
import Wide.All
import OpenK.AllK
import Wide.FinOn
import Lean
import PyProof.EqAt
import PyProof.EqKinds
import PyProof.TupleCall
import PySem.Challenge.RW_brooktally_k36_reasons_by_sets
set_option Elab.async false
set_option linter.all false
set_option maxRecDepth 100000
set_option maxHeartbeats 4000000
namespace L2
open PySem PySem.Spec PyProof.Rows
abbrev Key:=Sum Int Str
def DV:Key→Value→Bool
 | .inl k,v=>Value.isInt k v
 | .inr x,v=>Value.isStrOf x v
def Wu (w:World):Key→Int
 | .inl k=>hashInt k
 | .inr x=>hashStr w x
theorem A1:∀{k:Key}{v:Value},DV k v=true→(∃i t,k=Sum.inl i/\v=Value.int i t)\/(∃x t,k=Sum.inr x/\v=Value.str x t)
 | .inl i,v,h=>by
  obtain ⟨t,e⟩:=Value.isInt_shape (k:=i) (v:=v) h
  exact .inl ⟨i,t,rfl,e⟩
 | .inr x,v,h=>by
  obtain ⟨t,e⟩:=Value.isStrOf_shape (x:=x) (v:=v) h
  exact .inr ⟨x,t,rfl,e⟩
theorem Hb (i:Int) (t:Tok):DV (.inl i) (.int i t)=true:=by simp [DV,Value.isInt]
theorem Ha (x:Str) (t:Tok):DV (.inr x) (.str x t)=true:=by simp [DV,Value.isStrOf]
theorem VR (a b:Int):decide ((Sum.inl a:Key)=Sum.inl b)=(a==b):=by
 by_cases e:a=b
 ·subst e;simp
 ·have h:¬ (Sum.inl a:Key)=Sum.inl b:=fun q=>e (Sum.inl.inj q)
  rw [decide_eq_false h]
  exact (beq_eq_false_iff_ne.mpr e).symm
theorem VO (a b:Str):decide ((Sum.inr a:Key)=Sum.inr b)=decide (a=b):=by
 by_cases e:a=b
 ·subst e;simp
 ·have h:¬ (Sum.inr a:Key)=Sum.inr b:=fun q=>e (Sum.inr.inj q)
  rw [decide_eq_false h,decide_eq_false e]
theorem VQ (a:Int) (b:Str):decide ((Sum.inl a:Key)=Sum.inr b)=false:=decide_eq_false (fun q=>nomatch q)
theorem VP (a:Str) (b:Int):decide ((Sum.inr a:Key)=Sum.inl b)=false:=decide_eq_false (fun q=>nomatch q)
def Ah (prog:Program) (w:World):PySem.KeyKind prog w Key where
 is:=DV
 hash:=Wu w
 inj:=fun v a b ha hb=>by
  rcases A1 ha with ⟨i,t,rfl,rfl⟩|⟨x,t,rfl,rfl⟩
  ·rcases A1 hb with ⟨j,u,rfl,e⟩|⟨y,u,rfl,e⟩
   ·injection e with e1 _;rw [e1]
   ·exact nomatch e
  ·rcases A1 hb with ⟨j,u,rfl,e⟩|⟨y,u,rfl,e⟩
   ·exact nomatch e
   ·injection e with e1 _;rw [e1]
 byValue:=fun k v h=>by
  rcases A1 h with ⟨i,t,rfl,rfl⟩|⟨x,t,rfl,rfl⟩ <;> rfl
 pyHash:=fun hv h=>by
  rcases A1 hv with ⟨i,t,rfl,rfl⟩|⟨x,t,rfl,rfl⟩
  ·exact wpAny_pyHash_int h
  ·exact wpAny_pyHash_str h
 eqBool:=fun hu hv h=>by
  rcases A1 hu with ⟨i,t,rfl,rfl⟩|⟨x,t,rfl,rfl⟩
  ·rcases A1 hv with ⟨j,u,rfl,rfl⟩|⟨y,u,rfl,rfl⟩
   ·rw [VR] at h;exact wpAny_eqBool_int h
   ·rw [VQ] at h;exact SeqAt.EqAt.int_str i t y u _ _ _ _ h
  ·rcases A1 hv with ⟨j,u,rfl,rfl⟩|⟨y,u,rfl,rfl⟩
   ·rw [VP] at h;exact SeqAt.EqAt.str_int x t j u _ _ _ _ h
   ·rw [VO] at h;exact wpAny_eqBool_str h
 «strs»:=fun k x t v h=>by
  rcases A1 h with ⟨i,u,rfl,e⟩|⟨y,u,rfl,e⟩
  ·exact nomatch e
  ·injection e with e1 _
   subst e1
   cases v <;> rfl
theorem M6 (prog:Program) (w:World) (i:Int) (t:Tok):(Ah prog w).is (.inl i) (.int i t)=true:=Hb i t
theorem M5 (prog:Program) (w:World) (x:Str) (t:Tok):(Ah prog w).is (.inr x) (.str x t)=true:=Ha x t
end L2
namespace L2
open PySem PySem.Spec PyProof.Rows
inductive V where
 | non|bl (b:Bool)|int (i:Int)|str (x:Str)|byt (b:Array UInt8)|flt (b:UInt64)|ref (a:Addr)|ty (n:String)
 deriving DecidableEq
def RelV:V→Value→Prop
 | .non,u=>u=Value.none
 | .bl b,u=>u=Value.bool b
 | .int i,u=>∃t,u=Value.int i t
 | .str x,u=>∃t,u=Value.str x t
 | .byt b,u=>∃t,u=Value.bytes b t
 | .flt b,u=>∃t,u=Value.float b t
 | .ref a,u=>u=Value.ref a
 | .ty n,u=>u=Value.type n
abbrev Vals:List V→List Value→Prop:=Paired RelV
theorem Vals.length {xs:List V}{us:List Value}(r:Vals xs us):xs.length=us.length:=Paired.length r
theorem Vals.get:∀{xs:List V}{us:List Value}{i:Nat}{x:V},Vals xs us→xs[i]?=some x→∃u,us[i]?=some u/\RelV x u
 | _,_,_,_,.nil,e=>by simp at e
 | _,_,0,_,.cons r _,e=>by simp at e;subst e;exact ⟨_,rfl,r⟩
 | _,_,i+1,x,.cons _ t,e=>by
  obtain ⟨u,h1,h2⟩:=Vals.get (i:=i) (x:=x) t (by simpa using e)
  exact ⟨u,by simpa using h1,h2⟩
theorem Vals.append:∀{xs ys:List V}{us ws:List Value},Vals xs us→Vals ys ws→Vals (xs++ys) (us++ws)
 | _,_,_,_,.nil,s=>s
 | _,_,_,_,.cons r t,s=>.cons r (Vals.append t s)
theorem Vals.take:∀{xs:List V}{us:List Value}(n:Nat),Vals xs us→Vals (xs.take n) (us.take n)
 | _,_,0,_=>.nil
 | _,_,_+1,.nil=>.nil
 | _,_,n+1,.cons r t=>.cons r (Vals.take n t)
theorem Vals.drop:∀{xs:List V}{us:List Value}(n:Nat),Vals xs us→Vals (xs.drop n) (us.drop n)
 | _,_,0,r=>r
 | _,_,_+1,.nil=>.nil
 | _,_,n+1,.cons _ t=>Vals.drop n t
def E6:Option V→Option Value→Prop
 | some v,some u=>RelV v u
 | none,none=>True
 | _,_=>False
def KV {κ:Type}:List (κ×V)→List (κ×Value)→Prop:=Paired fun (p:κ×V) (q:κ×Value)=>p.1=q.1/\RelV p.2 q.2
def kV:Key→V
 | .inl i=>.int i
 | .inr x=>.str x
inductive HO where
 | lst (xs:List V)
 | tup (xs:List V)
 | dK (kvs:List (Key×V))|dT (kvs:List (List Key×V))
 | set (S:Int→Bool) (n:Nat)
 | ins (C dx:Addr) (fs:List (Str×V))
 | own (x:Addr)
 | xd (fs:List (Str×V))
 | met (f x:Addr)
 | rng (lo hi:Int)
 | frz (o:Obj) (u:HO)
 | tbl (ps:Array Value)
 | ext (φ:Heap→Prop)
abbrev Hp:=Addr→Option HO
def upd (H:Hp) (a:Addr) (o:HO):Hp:=fun b=>if b=a then some o else H b
theorem AE {H:Hp}{a:Addr}{o:HO}:upd H a o a=some o:=by unfold upd;rw [if_pos rfl]
theorem AO {H:Hp}{a b:Addr}{o:HO}(h:b≠a):upd H a o b=H b:=by unfold upd;rw [if_neg h]
theorem WD {H:Hp}{a b:Addr}{o u:HO}(h:H a=some o) (h':H b=some u) (d:o≠u):a≠b:=by
 intro e;subst e;rw [h] at h';exact d (Option.some.inj h')
theorem AM {H:Hp}{a b:Addr}{o:HO}(h:H a=some o) (h':H b=none):a≠b:=by
 intro e;subst e;rw [h] at h';cases h'
section
variable (P:Program) (w:World)
def BB (H:Hp) (h:Heap) (a:Addr):HO→Prop
 | .lst xs=>xs.length≤sizeLine/\∃(its:List Value) (n:Nat),Vals xs its/\h.get? a=some { cls:=.type "list", data:=.seq its.toArray n }
 | .tup xs=>xs.length≤sizeLine/\∃its:List Value,Vals xs its/\IsTup h a its.toArray
 | .dK kvs=>kvs.length≤sizeLine/\(a==sysModules)=false/\∃vs,KV kvs vs/\h.DictOf (Ah P w) a vs
 | .dT kvs=>kvs.length≤sizeLine/\(a==sysModules)=false/\∃xs:List (List Key×Addr×Value),
   Paired (fun (p:List Key×V) (q:List Key×Addr×Value)=>p.1=q.1/\H q.2.1=some (.tup (p.1.map kV))/\RelV p.2 q.2.2) kvs xs /\
   ∃o es ep,h.get? a=some o/\o.ExactDict/\o.data=.dict es ep/\es.toList=xs.map (entryOfKey (tupleKind (Ah P w)))/\(xs.map (·.1)).Nodup
 | .set S n=>h.SetOf (intKind P w) a S n
 | .ins C dx fs=>H dx=some (.own a)/\fs.length≤1000/\dx≠a/\h.get? a=some (PySem.W.instObj C dx) /\
   ∃mA,h.Ns1 dx mA/\(∀f,E6 (fs.lookup f) (mA f))/\PySem.Within mA (fs.map (·.1))
 | .own _=>∃o,h.get? a=some o
 | .xd fs=>∃mA,h.Ns1 a mA/\∀f,E6 (fs.lookup f) (mA f)
 | .rng lo hi=>∃t u v,h.get? a=some { cls:=.type "range", data:=.fields #[.int lo t,.int hi u,.int 1 v] }
 | .frz o u=>h.get? a=some o/\BB H h a u
 | .tbl ps=>h.get? a=some { cls:=.none,data:=.fields ps }
 | .met f x=>h.get? a=some (PySem.W.methodObj (.ref f) (.ref x))
 | .ext φ=>φ h/\(∃o,h.get? a=some o)/\∀h1 h2:Heap,φ h1→(∀o,h1.get? a=some o→h2.get? a=some o)→φ h2
def HOk (H:Hp) (h:Heap):Prop:=∀a o,H a=some o→BB P w H h a o
end
section
variable {P:Program}{w:World}{H H':Hp}{h h':Heap}{a:Addr}{o:HO}
theorem BB.lt (x:BB P w H h a o):a<h.objs.size:=by
 cases o with
 | lst xs=>obtain ⟨_,_,_,_,e⟩:=x;exact Heap.lt_size e
 | tup xs=>obtain ⟨_,_,_,p⟩:=x;exact p.lt
 | dK kvs=>obtain ⟨_,_,_,_,o,_,_,e,_⟩:=x;exact Heap.lt_size e
 | dT kvs=>obtain ⟨_,_,_,_,o,_,_,e,_⟩:=x;exact Heap.lt_size e
 | set S n=>obtain ⟨o,_,_,_,e,_⟩:=x;exact Heap.lt_size e
 | ins C dx fs=>obtain ⟨_,_,_,e,_⟩:=x;exact Heap.lt_size e
 | own y=>obtain ⟨_,e⟩:=x;exact Heap.lt_size e
 | xd fs=>obtain ⟨_,⟨_,_,_,e,_⟩,_⟩:=x;exact Heap.lt_size e
 | rng lo hi=>obtain ⟨_,_,_,e⟩:=x;exact Heap.lt_size e
 | frz ob u=>obtain ⟨e,_⟩:=x;exact Heap.lt_size e
 | tbl ps=>exact Heap.lt_size (show h.get? a=some _ from x)
 | met f y=>exact Heap.lt_size (show h.get? a=some _ from x)
 | ext φ=>obtain ⟨_,⟨_,e⟩,_⟩:=x;exact Heap.lt_size e
theorem Paired.VL {α β:Type}{F G:α→β→Prop}:∀{l₁:List α}{l₂:List β},Paired F l₁ l₂→(∀a b,F a b→G a b)→Paired G l₁ l₂
 | _,_,.nil,_=>.nil
 | _,_,.cons r t,f=>.cons (f _ _ r) (Paired.VL t f)
theorem BB.Nm (x:BB P w H h a o) (k:∀b u,(b=a\/H b=some (.own a))→h.get? b=some u→h'.get? b=some u)
  (ho:∀b,H b=some (.own a)→H' b=some (.own a)) (ht:∀b xs,H b=some (.tup xs)→H' b=some (.tup xs)):BB P w H' h' a o:=by
 induction o with
 | lst xs=>obtain ⟨z,its,n,r,e⟩:=x;exact ⟨z,its,n,r,k _ _ (.inl rfl) e⟩
 | tup xs=>obtain ⟨z,its,r,ob,e,c⟩:=x;exact ⟨z,its,r,ob,k _ _ (.inl rfl) e,c⟩
 | dK kvs=>obtain ⟨z,y,vs,r,ob,es,ep,e,c⟩:=x;exact ⟨z,y,vs,r,ob,es,ep,k _ _ (.inl rfl) e,c⟩
 | dT kvs =>
  obtain ⟨z,y,xs,r,ob,es,ep,e,c⟩:=x
  exact ⟨z,y,xs,Paired.VL r fun p q z=>⟨z.1,ht _ _ z.2.1,z.2.2⟩,ob,es,ep,k _ _ (.inl rfl) e,c⟩
 | set S n=>obtain ⟨ob,es,ep,t,e,c⟩:=x;exact ⟨ob,es,ep,t,k _ _ (.inl rfl) e,c⟩
 | ins C dx fs =>
  obtain ⟨d,z,ne,e,mA,⟨od,es,ep,e2,c⟩,r⟩:=x
  exact ⟨ho _ d,z,ne,k _ _ (.inl rfl) e,mA,⟨od,es,ep,k _ _ (.inr d) e2,c⟩,r⟩
 | own y=>obtain ⟨ob,e⟩:=x;exact ⟨ob,k _ _ (.inl rfl) e⟩
 | xd fs=>obtain ⟨mA,⟨od,es,ep,e,c⟩,r⟩:=x;exact ⟨mA,⟨od,es,ep,k _ _ (.inl rfl) e,c⟩,r⟩
 | rng lo hi=>obtain ⟨t,u,v,e⟩:=x;exact ⟨t,u,v,k _ _ (.inl rfl) e⟩
 | frz ob u ih=>obtain ⟨e,q⟩:=x;exact ⟨k _ _ (.inl rfl) e,ih q⟩
 | tbl ps =>
  have e:h.get? a=some { cls:=.none,data:=.fields ps }:=x
  show h'.get? a=some { cls:=.none,data:=.fields ps }
  exact k a _ (.inl rfl) e
 | met f y =>
  have e:h.get? a=some (PySem.W.methodObj (.ref f) (.ref y)):=x
  show h'.get? a=some (PySem.W.methodObj (.ref f) (.ref y))
  exact k a _ (.inl rfl) e
 | ext φ=>obtain ⟨p,⟨o,e⟩,st⟩:=x;exact ⟨st _ _ p fun o q=>k _ _ (.inl rfl) q,⟨o,k _ _ (.inl rfl) e⟩,st⟩
theorem HOk.lt (x:HOk P w H h) (e:H a=some o):a<h.objs.size:=(x a o e).lt
theorem HOk.fresh (x:HOk P w H h) (e:h.objs.size≤a):H a=none:=by
 cases q:H a with
 | none=>rfl
 | some u=>exact absurd (Nat.lt_of_lt_of_le (x.lt q) e) (Nat.lt_irrefl _)
theorem HOk.kept (x:HOk P w H h) (k:∀b u,h.get? b=some u→h'.get? b=some u):HOk P w H h':=fun a o e =>
 (x a o e).Nm (fun b u _ q=>k b u q) (fun _ q=>q) fun _ _ q=>q
theorem HOk.laid (x:HOk P w H h) (k:∀b u,h.get? b=some u→h'.get? b=some u) (hp:h.objs.size≤a) (new:BB P w (upd H a o) h' a o):HOk P w (upd H a o) h':=fun b u e=>by
 have hn:=x.fresh hp
 by_cases hb:b=a
 ·subst hb;rw [AE] at e;cases e;exact new
 ·rw [AO hb] at e
  exact (x b u e).Nm (fun c v _ q=>k c v q) (fun c q=>by rw [AO (AM q hn)];exact q) fun c xs q=>by rw [AO (AM q hn)];exact q
end
def Rd (H:Hp) (a:Addr) (u:HO):Prop:=H a=some u\/∃o,H a=some (.frz o u)
theorem Rd.ok {P:Program}{w:World}{H:Hp}{h:Heap}{a:Addr}{u:HO}(r:Rd H a u) (x:HOk P w H h):BB P w H h a u:=by
 rcases r with r|⟨o,r⟩
 ·exact x a u r
 ·obtain ⟨_,q⟩:=x a _ r
  exact q
def Mut:Option HO→Prop
 | some (.lst _)=>True
 | some (.dK _)=>True
 | some (.dT _)=>True
 | some (.set _ _)=>True
 | some (.ins _ _ _)=>True
 | some (.ext _)=>True
 | _=>False
section
variable {P:Program}{w:World}{H:Hp}{h h':Heap}{x e:Addr}{o':HO}
theorem HOk.write (ok:HOk P w H h) (mu:Mut (H x)) (he:e=x\/H e=some (.own x)) (k:∀b u,b≠e→h.get? b=some u→h'.get? b=some u) (heo:∃u,h'.get? e=some u)
  (new:BB P w (upd H x o') h' x o'):HOk P w (upd H x o') h':=fun b u q=>by
 have nown:∀c y,H c=some (.own y)→c≠x:=fun c y r z=>by subst z;rw [r] at mu;exact mu
 have ntup:∀c xs,H c=some (.tup xs)→c≠x:=fun c xs r z=>by subst z;rw [r] at mu;exact mu
 by_cases hb:b=x
 ·subst hb;rw [AE] at q;cases q;exact new
 ·rw [AO hb] at q
  by_cases hbe:b=e
  ·have q':H b=some (.own x):=by
    rcases he with z|z
    ·exact absurd (hbe.trans z) hb
    ·rw [hbe];exact z
   rw [q] at q';cases q'
   obtain ⟨v,hv⟩:=heo
   exact ⟨v,by rw [hbe];exact hv⟩
  ·refine (ok b u q).Nm (fun c v hc r=>k c v ?_ r) (fun c r=>by rw [AO (nown c b r)];exact r) fun c xs r=>by rw [AO (ntup c xs r)];exact r
   rcases hc with rfl|hc
   ·exact hbe
   ·rintro rfl
    rcases he with z|z
    ·exact nown c b hc z
    ·rw [hc] at z;cases z;exact hb rfl
end
structure Un (fs ex:List Addr) (H H':Hp) (h h':Heap):Prop where
 keep:∀b o,h.get? b=some o→H b=none→b∉fs→b∉ex→h'.get? b=some o
 slot:∀b o,h.get? b=some o→H b=none→b∈fs→b∉ex→∃sl,h'.get? b=some { o with slots:=sl }
 free:∀b o,h.get? b=some o→H b=none→b∉ex→H' b=none
 there:∀b o,h.get? b=some o→b∉ex→∃o',h'.get? b=some o'
 LY:∀b xs,H b=some (.tup xs)→H' b=some (.tup xs)
 KO:∀b o u,H b=some (.frz o u)→H' b=some (.frz o u)
 La:∀b ps,H b=some (.tbl ps)→∃more,H' b=some (.tbl (ps++more))
section
variable {fs fs' ex ex':List Addr}{H H1 H2:Hp}{h h1 h2 h':Heap}{a x e:Addr}{o:HO}
theorem Un.any (u:Un fs ex H H1 h h1) {b:Addr} {ob:Obj} (q:h.get? b=some ob) (n:H b=none) (hx:b∉ex):∃sl,h1.get? b=some { ob with slots:=sl }:=by
 by_cases hb:b∈fs
 ·exact u.slot b ob q n hb hx
 ·exact ⟨ob.slots,u.keep b ob q n hb hx⟩
theorem Un.kept (k:∀b u,h.get? b=some u→h'.get? b=some u):Un fs ex H H h h' :=
 ⟨fun b ob q _ _ _=>k b ob q,fun b ob q _ _ _=>⟨ob.slots,k b ob q⟩,fun _ _ _ n _=>n,fun b ob q _=>⟨ob,k b ob q⟩,fun _ _ q=>q,fun _ _ _ q=>q,fun _ ps q=>⟨#[],by rw [q];simp⟩⟩
theorem Un.refl:Un fs ex H H h h:=Un.kept fun _ _ q=>q
theorem Un.laid (k:∀b u,h.get? b=some u→h'.get? b=some u) (hp:h.objs.size≤a) (hn:H a=none):Un fs ex H (upd H a o) h h' where
 keep:=fun b u q _ _ _=>k b u q
 slot:=fun b u q _ _ _=>⟨u.slots,k b u q⟩
 free:=fun b u q n _=>by rw [AO (Nat.ne_of_lt (Nat.lt_of_lt_of_le (Heap.lt_size q) hp))];exact n
 there:=fun b u q _=>⟨u,k b u q⟩
 LY:=fun b xs q=>by rw [AO (AM q hn)];exact q
 KO:=fun b u xs q=>by rw [AO (AM q hn)];exact q
 La:=fun b ps q=>⟨#[],by rw [AO (AM q hn),q];simp⟩
theorem Un.write (mu:Mut (H x)) (he:e=x\/H e=some (.own x)) (k:∀b u,b≠e→h.get? b=some u→h'.get? b=some u) (heo:∃u,h'.get? e=some u):Un fs ex H (upd H x o) h h':=by
 have hx:∀b,H b=none→b≠x:=fun b n z=>by subst z;rw [n] at mu;exact mu
 have hb:∀b,H b=none→b≠e:=fun b n z=>by
  subst z
  rcases he with r|r
  ·exact hx b n r
  ·rw [n] at r;cases r
 have hm:∀b u,H b=some u→¬ Mut (some u)→b≠x:=fun b u q nm z=>by subst z;rw [q] at mu;exact nm mu
 refine ⟨fun b u q n _ _=>k b u (hb b n) q,fun b u q n _ _=>⟨u.slots,k b u (hb b n) q⟩,fun b u q n _=>by rw [AO (hx b n)];exact n,fun b u q _=>?_,
  fun b xs q=>by rw [AO (hm b _ q fun z=>z)];exact q,fun b u xs q=>by rw [AO (hm b _ q fun z=>z)];exact q,fun b ps q=>⟨#[],by rw [AO (hm b _ q fun z=>z),q];simp⟩⟩
 by_cases hbe:b=e
 ·subst hbe;exact heo
 ·exact ⟨u,k b u hbe q⟩
end
def trk (h:Heap) (H:Hp):List Addr:=(List.range h.objs.size).filter fun a=>(H a).isSome
def MG (h:Heap) (H:Hp):Heap:=PySem.W.hideAll h (trk h H)
theorem QN (h:Heap) (H:Hp):(MG h H).objs.size=h.objs.size:=PySem.W.hideAll_size _ _
theorem SV {h:Heap}{H:Hp}{b:Addr}{o:Obj}(e:h.get? b=some o) (n:H b=none):(MG h H).get? b=some o :=
 PySem.W.hideAll_get _ e fun hm=>by
  have q:(H b).isSome=true:=(List.mem_filter.mp hm).2
  rw [n] at q;simp at q
theorem Ti {h:Heap}{H:Hp}{b:Addr}{o:Obj}(e:(MG h H).get? b=some o):h.get? b=some o/\H b=none:=by
 have e':h.get? b=some o:=PySem.W.of_hideAll (trk h H) e
 refine ⟨e',?_⟩
 cases q:H b with
 | none=>rfl
 | some x =>
  have hm:b∈trk h H:=List.mem_filter.mpr ⟨List.mem_range.mpr (Heap.lt_size e'),by simp [q]⟩
  have z:(MG h H).get? b=none:=PySem.W.hideAll_none (trk h H) hm
  rw [z] at e;cases e
def UE (g h:Heap) (L:Addr):List (Addr×Obj):=(List.range h.objs.size).filterMap fun a=>if a=L\/(g.get? a).isSome=true then none else (h.get? a).map fun o=>(a,o)
def rest (g h:Heap) (L d:Addr):List (Addr×Obj):=(UE g h L).filter fun p=>decide (p.1≠d)
end L2
namespace L2
open PySem PySem.Spec PyProof.Rows
structure Mod (K:PySem.W.Frag) (mg:Str→Option Value) (base:Heap):Prop where
 kin:K.In base
 glob:base.Ns mainGlobals mg
 blt:∃mb,base.Ns builtinsNs mb/\∀x:Str,x ≠ "__name__" → mb x=bootBuiltins x
 nolimit:base.NoLimit
structure Cx where
 prog:Program
 w:World
 K:PySem.W.Frag
 mg:Str→Option Value
 base:Heap
 A:Around
 N:List Str
 s₀:Shared
 H₀:Hp
 env:Env
 outer:List Env
 stack:List Env
 ex:List Addr
 fn:Str→Bool
 calm:Bool
 pn:List (Addr×Obj)
 xe:Value→Shared→Prop
def frs (l:List Env):List Addr:=l.filterMap (·.frame)
abbrev Cx.fs (X:Cx):List Addr:=frs X.outer
def Vis (sc:Scope) (x:Str):Prop:=sc.names.lookup x=some .local\/sc.names.lookup x=some .cell\/sc.names.lookup x=some .free
def Loc (sc:Scope) (x:Str):Prop:=sc.names.lookup x=some .local\/sc.names.lookup x=some .cell
def Look (env:Env) (h:Heap) (m:Str→Option Value) (x:Str) (u:Value):Prop :=
 (env.kindOf x=some .local/\m x=some u)\/((env.kindOf x=some .cell\/env.kindOf x=some .free)/\∃c,env.cells.lookup x=some c/\h.IsCell c (some u))
structure Cx.Ok (X:Cx):Prop where
 mod:Mod X.K X.mg X.base
 kind:X.env.scope.kind=.function
 glob:X.env.globals=mainGlobals
 blt:X.env.builtins=builtinsNs
 above:X.s₀.heap.objs.size≤X.env.locals
 inj:∀x y c,X.env.cells.lookup x=some c→X.env.cells.lookup y=some c→x=y
 has:∀x,(X.env.kindOf x=some .cell\/X.env.kindOf x=some .free)→∃c,X.env.cells.lookup x=some c
 cab:∀x c,X.fn x=true→X.env.cells.lookup x=some c→X.s₀.heap.objs.size≤c
 hd:X.calm=true→X.A.handled=none
 frames:X.A.frames=some X.stack
 stk:X.stack=X.outer\/(X.stack=X.env::X.outer/\X.env.frame=some X.env.locals)
 exf:∀b∈X.ex,b≠X.env.locals/\∀x c,X.env.cells.lookup x=some c→c≠b
 bs:∀b o,X.base.get? b=some o→X.s₀.heap.get? b=some o/\X.H₀ b=none
 bsz:X.base.objs.size≤X.s₀.heap.objs.size
 R4:∀b o,X.base.get? b=some o→b∉X.ex
 Se:∀b∈X.ex,b∉X.fs
 IG:X.s₀.heap.FunFrames X.base X.outer
 frf:∀b∈X.fs,X.H₀ b=none
structure Inv (X:Cx) (pins:List (Addr×Obj)) (σ:List (Option V)) (H:Hp) (s:Shared):Prop where
 ok:X.Ok
 os:s.os=X.s₀.os
 bare:AllBare s.gens
 base:Un X.fs X.ex X.H₀ H X.s₀.heap s.heap
 loc:∃m,s.heap.Ns X.env.locals m/\∀(i:Nat) (x:Str) (v:V),X.N[i]?=some x→σ[i]?=some (some v)→Vis X.env.scope x→∃u,RelV v u/\Look X.env s.heap m x u
 cell:∀x c,X.env.cells.lookup x=some c→∃v,s.heap.IsCell c v
 free:H X.env.locals=none
 Fx:∀x c,X.env.cells.lookup x=some c→H c=none
 pin:∀p∈X.pn++pins,s.heap.get? p.1=some p.2/\H p.1=none/\p.1≠X.env.locals/\p.1∉X.fs/\∀v,p.2.data≠.cell v
 hok:HOk X.prog X.w H s.heap
 len:σ.length=X.N.length
section
variable {X:Cx}{pins:List (Addr×Obj)}{σ:List (Option V)}{H H':Hp}{s:Shared}{h':Heap}
theorem Cx.Ok.Wr (ok:X.Ok) {b:Addr}{o:Obj}(e:X.base.get? b=some o):b∉X.fs:=fun hb=>by
 have:=(ok.IG.mem hb).1
 rw [e] at this;cases this
theorem Inv.bs (I:Inv X pins σ H s):∀b o,X.base.get? b=some o→s.heap.get? b=some o/\H b=none:=fun b o e =>
 ⟨I.base.keep b o (I.ok.bs b o e).1 (I.ok.bs b o e).2 (I.ok.Wr e) (I.ok.R4 b o e),I.base.free b o (I.ok.bs b o e).1 (I.ok.bs b o e).2 (I.ok.R4 b o e)⟩
theorem Inv.bk (I:Inv X pins σ H s):∀b o,X.base.get? b=some o→s.heap.get? b=some o:=fun b o e=>(I.bs b o e).1
theorem Inv.mod (I:Inv X pins σ H s):Mod X.K X.mg X.base:=I.ok.mod
theorem Inv.kIn (I:Inv X pins σ H s):X.K.In s.heap:=I.ok.mod.kin.keeps I.bk
theorem Inv.lt (I:Inv X pins σ H s):X.env.locals<s.heap.objs.size:=let ⟨_,hn,_⟩:=I.loc;hn.lt
theorem Inv.sz (I:Inv X pins σ H s):X.s₀.heap.objs.size≤s.heap.objs.size:=Nat.le_trans I.ok.above (Nat.le_of_lt I.lt)
theorem Inv.Wq (I:Inv X pins σ H s) {a:Addr}(h:s.heap.objs.size≤a):a∉X.fs:=fun hb=>by
 obtain ⟨_,o,ho,_⟩:=I.ok.IG.mem hb
 exact absurd (Nat.lt_of_lt_of_le (Heap.lt_size ho) (Nat.le_trans I.sz h)) (Nat.lt_irrefl _)
theorem Inv.cne (I:Inv X pins σ H s):∀x c,X.env.cells.lookup x=some c→c≠X.env.locals:=fun x c e z=>by
 obtain ⟨v,o,ho,hd⟩:=I.cell x c e
 obtain ⟨m,⟨o',es,ep,ho',hd',_⟩,_⟩:=I.loc
 rw [z,ho'] at ho;cases ho;rw [hd'] at hd;cases hd
theorem Inv.IG (I:Inv X pins σ H s):s.heap.FunFrames X.base X.outer:=by
 have all:∀(l:List Env),(∀b∈frs l,b∈X.fs)→X.s₀.heap.FunFrames X.base l→s.heap.FunFrames X.base l:=by
  intro l
  induction l with
  | nil=>intro _ _;trivial
  | cons env r ih =>
   intro hs hl
   obtain ⟨hk,⟨L,o,hf,hn,ho,hd⟩,hr⟩:=hl
   have hL:L∈X.fs:=hs L (by unfold frs;rw [List.filterMap_cons,hf];exact List.mem_cons_self)
   obtain ⟨sl,e⟩:=I.base.slot L o ho (I.ok.frf L hL) hL fun z=>I.ok.Se L z hL
   exact ⟨hk,⟨L,_,hf,hn,e,hd⟩,ih (fun b hb=>hs b (by unfold frs;rw [List.filterMap_cons,hf];exact List.mem_cons_of_mem _ hb)) hr⟩
 exact all X.outer (fun _ hb=>hb) I.ok.IG
theorem Inv.stack (I:Inv X pins σ H s):s.heap.FunFrames X.base X.stack:=by
 rcases I.ok.stk with e|⟨e,hf⟩
 ·rw [e];exact I.IG
 ·rw [e]
  obtain ⟨m,hn,_⟩:=I.loc
  refine .cons (by rw [I.ok.kind];decide) hf hn ?_ I.IG
  exact Heap.get?_none_of_le (Nat.le_trans I.ok.bsz I.ok.above)
theorem Inv.Lb (I:Inv X pins σ H s):∀b∈frs X.stack,b∈X.env.locals::X.fs:=fun b hb=>by
 rcases I.ok.stk with e|⟨e,hf⟩
 ·rw [e] at hb;exact List.mem_cons_of_mem _ hb
 ·rw [e] at hb
  unfold frs at hb
  rw [List.filterMap_cons,hf] at hb
  exact hb
theorem Inv.Oa (I:Inv X pins σ H s):∀b∈frs X.stack,H b=none:=fun b hb=>by
 rcases List.mem_cons.mp (I.Lb b hb) with e|hb
 ·rw [e];exact I.free
 ·obtain ⟨_,o,ho,_⟩:=I.ok.IG.mem hb
  exact I.base.free b o ho (I.ok.frf b hb) fun z=>I.ok.Se b z hb
theorem Inv.step {g':Array GenState}{t':Nat}{d':Drawn}{ch:List Addr}(I:Inv X pins σ H s)
  (hch:∀b∈ch,(b∈X.ex\/X.s₀.heap.objs.size≤b)/\b≠X.env.locals/\(∀x c,X.env.cells.lookup x=some c→c≠b)/\∀p∈X.pn++pins,p.1≠b)
  (keep:∀b o,b≠X.env.locals→b∉X.fs→b∉ch→s.heap.get? b=some o→H b=none→h'.get? b=some o)
  (slot:∀b o,b≠X.env.locals→b∈X.fs→b∉ch→s.heap.get? b=some o→H b=none→∃sl,h'.get? b=some { o with slots:=sl }) (free:∀b o,b∉ch→s.heap.get? b=some o→H b=none→H' b=none)
  (there:∀b o,b∉ch→s.heap.get? b=some o→∃o',h'.get? b=some o')
  (LY:∀b xs,H b=some (.tup xs)→H' b=some (.tup xs)) (KO:∀b o u,H b=some (.frz o u)→H' b=some (.frz o u)) (La:∀b ps,H b=some (.tbl ps)→∃more,H' b=some (.tbl (ps++more)))
  (ns:∀m,s.heap.Ns X.env.locals m→h'.Ns X.env.locals m) (hok:HOk X.prog X.w H' h') (hg:AllBare g') :
  Inv X pins σ H' { s with heap:=h',gens:=g',drawn:=d',toks:=t' }:=by
 have neL:∀b o,X.s₀.heap.get? b=some o→b≠X.env.locals:=fun b o e=>Nat.ne_of_lt (Nat.lt_of_lt_of_le (Heap.lt_size e) I.ok.above)
 have neC:∀b o,X.s₀.heap.get? b=some o→b∉X.ex→b∉ch:=fun b o e hx hb=>by
  rcases (hch b hb).1 with z|z
  ·exact hx z
  ·exact absurd (Nat.lt_of_lt_of_le (Heap.lt_size e) z) (Nat.lt_irrefl _)
 have cellK:∀x c,X.env.cells.lookup x=some c→∀v,s.heap.IsCell c v→h'.IsCell c v:=fun x c e v ⟨o,ho,hd⟩=>by
  have nch:c∉ch:=fun z=>(hch c z).2.2.1 x c e rfl
  by_cases hc:c∈X.fs
  ·obtain ⟨sl,q⟩:=slot c o (I.cne x c e) hc nch ho (I.Fx x c e)
   exact ⟨_,q,hd⟩
  ·exact ⟨o,keep c o (I.cne x c e) hc nch ho (I.Fx x c e),hd⟩
 refine ⟨I.ok,I.os,hg,⟨fun b o e n hb hx=>?_,fun b o e n hb hx=>?_,fun b o e n hx=>?_,fun b o e hx=>?_,fun b xs e=>LY b xs (I.base.LY b xs e),fun b o xs e=>KO b o xs (I.base.KO b o xs e),fun b ps e=>?_⟩,?_,fun x c e=>?_,?_,fun x c e=>?_,fun p hp=>?_,hok,I.len⟩
 ·exact keep b o (neL b o e) hb (neC b o e hx) (I.base.keep b o e n hb hx) (I.base.free b o e n hx)
 ·obtain ⟨sl,e1⟩:=I.base.slot b o e n hb hx
  obtain ⟨sl',e2⟩:=slot b _ (neL b o e) hb (neC b o e hx) e1 (I.base.free b o e n hx)
  exact ⟨sl',e2⟩
 ·obtain ⟨o',e1⟩:=I.base.there b o e hx
  exact free b o' (neC b o e hx) e1 (I.base.free b o e n hx)
 ·obtain ⟨o',e1⟩:=I.base.there b o e hx
  exact there b o' (neC b o e hx) e1
 ·obtain ⟨m1,e1⟩:=I.base.La b ps e
  obtain ⟨m2,e2⟩:=La b _ e1
  exact ⟨m1++m2,by rw [e2,Array.append_assoc]⟩
 ·obtain ⟨m,hn,hl⟩:=I.loc
  refine ⟨m,ns m hn,fun i x v e1 e2 e3=>?_⟩
  obtain ⟨u,r,l⟩:=hl i x v e1 e2 e3
  refine ⟨u,r,?_⟩
  rcases l with l|⟨k,c,e,z⟩
  ·exact .inl l
  ·exact .inr ⟨k,c,e,cellK x c e _ z⟩
 ·obtain ⟨v,z⟩:=I.cell x c e
  exact ⟨v,cellK x c e v z⟩
 ·obtain ⟨m,⟨o,_,_,ho,_⟩,_⟩:=I.loc
  exact free _ o (fun z=>(hch _ z).2.1 rfl) ho I.free
 ·obtain ⟨v,o,ho,hd⟩:=I.cell x c e
  exact free c o (fun z=>(hch c z).2.2.1 x c e rfl) ho (I.Fx x c e)
 ·obtain ⟨e,n,ne,nf,d⟩:=I.pin p hp
  have nch:p.1∉ch:=fun z=>(hch p.1 z).2.2.2 p hp rfl
  exact ⟨keep p.1 p.2 ne nf nch e n,free p.1 p.2 nch e n,ne,nf,d⟩
theorem Inv.un {t':Nat} (I:Inv X pins σ H s) (u:Un X.fs [] H H' s.heap h') (hok:HOk X.prog X.w H' h'):Inv X pins σ H' { s with heap:=h',toks:=t' }:=by
 obtain ⟨m,⟨o,es,ep,ho,r⟩,_⟩:=id I.loc
 obtain ⟨sl,hL⟩:=u.any ho I.free (by simp)
 exact I.step (g':=s.gens) (d':=s.drawn) (ch:=[]) (fun _ z=>nomatch z) (fun b o _ hb _ e n=>u.keep b o e n hb (by simp)) (fun b o _ hb _ e n=>u.slot b o e n hb (by simp)) (fun b o _ e n=>u.free b o e n (by simp)) (fun b o _ e=>u.there b o e (by simp)) u.LY u.KO u.La (fun m' hm=>by
  obtain ⟨o',es',ep',ho',r'⟩:=hm
  rw [ho] at ho';cases ho'
  exact ⟨_,es',ep',hL,r'⟩) hok I.bare
theorem Inv.call {g':Array GenState}{t':Nat}{d':Drawn}{ch:List Addr}(I:Inv X pins σ H s) (u:Un (frs X.stack) ch H H' s.heap h') (hok:HOk X.prog X.w H' h') (hg:AllBare g')
  (hch:∀b∈ch,(b∈X.ex\/X.s₀.heap.objs.size≤b)/\b≠X.env.locals/\(∀x c,X.env.cells.lookup x=some c→c≠b)/\∀p∈X.pn++pins,p.1≠b) :
  Inv X pins σ H' { s with heap:=h',gens:=g',drawn:=d',toks:=t' }:=by
 obtain ⟨m,⟨o,es,ep,ho,r⟩,_⟩:=id I.loc
 obtain ⟨sl,hL⟩:=u.any ho I.free fun z=>(hch _ z).2.1 rfl
 exact I.step (ch:=ch) hch (fun b o hL hb hc e n=>u.keep b o e n (fun z=>(List.mem_cons.mp (I.Lb b z)).elim hL hb) hc) (fun b o _ _ hc e n=>u.any e n hc) (fun b o hc e n=>u.free b o e n hc) (fun b o hc e=>u.there b o e hc) u.LY u.KO u.La (fun m' hm=>by
  obtain ⟨o',es',ep',ho',r'⟩:=hm
  rw [ho] at ho';cases ho'
  exact ⟨_,es',ep',hL,r'⟩) hok hg
theorem Inv.turned {t':Nat}{it:Addr}(I:Inv X pins σ H s) (k:∀b o,b≠it→s.heap.get? b=some o→h'.get? b=some o) (hn:H it=none) (hL:it≠X.env.locals)
  (h1:it∈X.ex\/X.s₀.heap.objs.size≤it) (h2:∀x c,X.env.cells.lookup x=some c→c≠it) (h3:∀p∈X.pn++pins,p.1≠it):Inv X pins σ H { s with heap:=h',toks:=t' }:=by
 have nit:∀b u,H b=some u→b≠it:=fun b u e z=>by rw [z,hn] at e;cases e
 refine I.step (g':=s.gens) (d':=s.drawn) (ch:=[it]) (fun b hb=>?_) (fun b o _ _ hc e _=>k b o (fun z=>hc (by simp [z])) e) (fun b o _ _ hc e _=>⟨o.slots,k b o (fun z=>hc (by simp [z])) e⟩) (fun _ _ _ _ n=>n)
  (fun b o hc e=>⟨o,k b o (fun z=>hc (by simp [z])) e⟩) (fun _ _ e=>e) (fun _ _ _ e=>e) (fun b ps e=>⟨#[],by rw [e];simp⟩) (fun m hm=>?_) (fun b u e=>?_) I.bare
 ·have e:b=it:=by simpa using hb
  subst e
  exact ⟨h1,hL,h2,h3⟩
 ·obtain ⟨o,es,ep,ho,r⟩:=hm
  exact ⟨o,es,ep,k _ o (Ne.symm hL) ho,r⟩
 ·refine (I.hok b u e).Nm (fun c v hc q=>k c v ?_ q) (fun _ q=>q) fun _ _ q=>q
  rcases hc with z|z
  ·rw [z];exact nit b u e
  ·exact nit c _ z
theorem Inv.tok (I:Inv X pins σ H s) (t:Nat):Inv X pins σ H { s with toks:=t }:=I.un (h':=s.heap) (t':=t) Un.refl I.hok
theorem Inv.kept {t':Nat} (I:Inv X pins σ H s) (k:∀b u,s.heap.get? b=some u→h'.get? b=some u):Inv X pins σ H { s with heap:=h',toks:=t' }:=I.un (Un.kept k) (I.hok.kept k)
theorem Inv.laid {a:Addr}{o:HO}{t':Nat}(I:Inv X pins σ H s) (k:∀b u,s.heap.get? b=some u→h'.get? b=some u) (hp:s.heap.objs.size≤a) (new:BB X.prog X.w (upd H a o) h' a o) :
  Inv X pins σ (upd H a o) { s with heap:=h',toks:=t' }:=I.un (Un.laid k hp (I.hok.fresh hp)) (I.hok.laid k hp new)
theorem Inv.write {x e:Addr}{o:HO}{t':Nat}(I:Inv X pins σ H s) (mu:Mut (H x)) (he:e=x\/H e=some (.own x)) (k:∀b u,b≠e→s.heap.get? b=some u→h'.get? b=some u) (heo:∃u,h'.get? e=some u)
  (new:BB X.prog X.w (upd H x o) h' x o):Inv X pins σ (upd H x o) { s with heap:=h',toks:=t' }:=I.un (Un.write mu he k heo) (I.hok.write mu he k heo new)
theorem Inv.Ga {pins':List (Addr×Obj)}(I:Inv X pins σ H s) (h:∀p∈pins',s.heap.get? p.1=some p.2/\H p.1=none/\p.1≠X.env.locals/\p.1∉X.fs/\∀v,p.2.data≠.cell v):Inv X pins' σ H s :=
 ⟨I.ok,I.os,I.bare,I.base,I.loc,I.cell,I.free,I.Fx,fun p hp=>(List.mem_append.mp hp).elim (fun z=>I.pin p (List.mem_append_left _ z)) (h p),I.hok,I.len⟩
theorem My {N:List Str}(hN:N.Nodup) {i j:Nat}{x:Str}(a:N[i]?=some x) (b:N[j]?=some x):i=j:=by
 obtain ⟨h1,e1⟩:=List.getElem?_eq_some_iff.mp a
 obtain ⟨h2,e2⟩:=List.getElem?_eq_some_iff.mp b
 exact (List.getElem_inj hN).mp (e1.trans e2.symm)
theorem Ki {M:Model}{A:Around}{E:Value→Shared→Prop}{i:Nat}{x:Str}{v:V}{u:Value}{Q:Unit→Shared→Prop}(I:Inv X pins σ H s) (hN:X.N.Nodup) (hi:X.N[i]?=some x) (hx:Loc X.env.scope x) (r:RelV v u)
  (h:∀s',Inv X pins (σ.set i (some v)) H s'→(∃a,Heap.SameBut a s.heap s'.heap/\(a=X.env.locals\/X.env.cells.lookup x=some a))→Q () s') (hf:X.fn x=true\/X.env.scope.names.lookup x=some .local:=by first|exact .inl rfl|exact .inr rfl|assumption):wpAny M A (storeName X.env x u) Q E s:=by
 obtain ⟨m,hn,hl⟩:=id I.loc
 have hcls:(X.env.scope.kind==.class||(X.env.scope.kind==.module&&X.env.locals != X.env.globals))=false:=by rw [I.ok.kind];rfl
 have hiσ:i < σ.length:=by rw [I.len];exact (List.getElem?_eq_some_iff.mp hi).1
 have cne:=I.cne
 have tracked:∀{a:Addr} {h':Heap},(∃o,s.heap.get? a=some o/\H a=none)→Heap.SameBut a s.heap h'→HOk X.prog X.w H h':=fun {a h'} ha hs b ob e=>by
  obtain ⟨_,_,hfree⟩:=ha
  refine (I.hok b ob e).Nm (fun c w' hc q=>(hs.2 c ?_).trans q) (fun _ q=>q) fun _ _ q=>q
  rintro rfl
  rcases hc with rfl|hc
  ·rw [hfree] at e;cases e
  ·rw [hfree] at hc;cases hc
 rcases hx with hk|hk
 ·refine wpAny_storeName_local hk hn (fun h' hn' hs=>?_) hcls
  obtain ⟨oL,_,_,hoL,_⟩:=id hn
  refine h _ ⟨I.ok,I.os,I.bare,⟨fun b o e n hb hx=>?_,fun b o e n hb hx=>?_,I.base.free,fun b o e hx=>?_,I.base.LY,I.base.KO,I.base.La⟩,⟨_,hn',fun j y v' e1 e2 e3=>?_⟩,fun y c e=>?_,I.free,I.Fx,fun p hp=>?_,tracked ⟨oL,hoL,I.free⟩ hs,by simpa using I.len⟩ ⟨_,hs,.inl rfl⟩
  ·exact (hs.2 b (Nat.ne_of_lt (Nat.lt_of_lt_of_le (Heap.lt_size e) I.ok.above))).trans (I.base.keep b o e n hb hx)
  ·obtain ⟨sl,e1⟩:=I.base.slot b o e n hb hx
   exact ⟨sl,(hs.2 b (Nat.ne_of_lt (Nat.lt_of_lt_of_le (Heap.lt_size e) I.ok.above))).trans e1⟩
  ·obtain ⟨o',e1⟩:=I.base.there b o e hx
   exact ⟨o',(hs.2 b (Nat.ne_of_lt (Nat.lt_of_lt_of_le (Heap.lt_size e) I.ok.above))).trans e1⟩
  ·by_cases hj:j=i
   ·subst hj
    rw [hi] at e1;cases e1
    rw [List.getElem?_set_self hiσ] at e2
    cases e2
    exact ⟨u,r,.inl ⟨hk,by simp⟩⟩
   ·rw [List.getElem?_set_ne (Ne.symm hj)] at e2
    obtain ⟨u',r',q⟩:=hl j y v' e1 e2 e3
    refine ⟨u',r',?_⟩
    rcases q with ⟨k,e⟩|⟨k,c,e,z⟩
    ·refine .inl ⟨k,?_⟩
     have:y≠x:=fun e=>hj (My hN e1 (e ▸ hi))
     simp [this,e]
    ·exact .inr ⟨k,c,e,z.sameBut hs (cne y c e)⟩
  ·obtain ⟨w',z⟩:=I.cell y c e
   exact ⟨w',z.sameBut hs (cne y c e)⟩
  ·obtain ⟨e,n,ne,nf,d⟩:=I.pin p hp
   exact ⟨(hs.2 p.1 ne).trans e,n,ne,nf,d⟩
 ·have hfn:X.fn x=true:=by
   rcases hf with z|z
   ·exact z
   ·rw [z] at hk;cases hk
  obtain ⟨c,hc⟩:=I.ok.has x (.inl hk)
  obtain ⟨w',z⟩:=I.cell x c hc
  refine wpAny_storeName_cell I.ok.kind hk hc z (fun h' hc' hs=>?_)
  obtain ⟨oc,hoc,hocd⟩:=id z
  refine h { s with heap:=h' } ⟨I.ok,I.os,I.bare,⟨fun b o e n hb hx=>?_,fun b o e n hb hx=>?_,I.base.free,fun b o e hx=>?_,I.base.LY,I.base.KO,I.base.La⟩,⟨m,hn.sameBut hs (Ne.symm (cne x c hc)),fun j y v' e1 e2 e3=>?_⟩,fun y c' e=>?_,I.free,I.Fx,fun p hp=>?_,tracked ⟨oc,hoc,I.Fx x c hc⟩ hs,by simpa using I.len⟩ ⟨c,hs,.inr hc⟩
  ·exact (hs.2 b (Nat.ne_of_lt (Nat.lt_of_lt_of_le (Heap.lt_size e) (I.ok.cab x c hfn hc)))).trans (I.base.keep b o e n hb hx)
  ·obtain ⟨sl,e1⟩:=I.base.slot b o e n hb hx
   exact ⟨sl,(hs.2 b (Nat.ne_of_lt (Nat.lt_of_lt_of_le (Heap.lt_size e) (I.ok.cab x c hfn hc)))).trans e1⟩
  ·obtain ⟨o',e1⟩:=I.base.there b o e hx
   exact ⟨o',(hs.2 b (Nat.ne_of_lt (Nat.lt_of_lt_of_le (Heap.lt_size e) (I.ok.cab x c hfn hc)))).trans e1⟩
  ·by_cases hj:j=i
   ·subst hj
    rw [hi] at e1;cases e1
    rw [List.getElem?_set_self hiσ] at e2
    cases e2
    exact ⟨u,r,.inr ⟨.inl hk,c,hc,hc'⟩⟩
   ·rw [List.getElem?_set_ne (Ne.symm hj)] at e2
    obtain ⟨u',r',q⟩:=hl j y v' e1 e2 e3
    refine ⟨u',r',?_⟩
    rcases q with q|⟨k,c',e,z'⟩
    ·exact .inl q
    ·refine .inr ⟨k,c',e,z'.sameBut hs ?_⟩
     rintro rfl
     exact hj (My hN e1 (I.ok.inj _ _ _ e hc ▸ hi))
  ·by_cases hcc:c'=c
   ·subst hcc;exact ⟨_,hc'⟩
   ·obtain ⟨w2,z2⟩:=I.cell y c' e
    exact ⟨w2,z2.sameBut hs hcc⟩
  ·obtain ⟨e,n,ne,nf,d⟩:=I.pin p hp
   refine ⟨(hs.2 p.1 ?_).trans e,n,ne,nf,d⟩
   intro q
   rw [q,hoc] at e
   have q':oc=p.2:=Option.some.inj e
   exact d w' (by rw [←q'];exact hocd)
theorem Mb {M:Model}{A:Around}{E:Value→Shared→Prop}{i:Nat}{x:Str}{v:V}{u:Value}{Q:Unit→Shared→Prop}(I:Inv X pins σ H s) (hN:X.N.Nodup) (hi:X.N[i]?=some x) (hx:Loc X.env.scope x) (r:RelV v u)
  (h:∀s',Inv X pins (σ.set i (some v)) H s'→Q () s') (hf:X.fn x=true\/X.env.scope.names.lookup x=some .local:=by first|exact .inl rfl|exact .inr rfl|assumption):wpAny M A (storeName X.env x u) Q E s :=
 Ki I hN hi hx r (fun s' I' _=>h s' I') hf
theorem Inv.UX {s':Shared}{ch:List Addr}(I:Inv X pins σ H s) (ho:s'.os=s.os) (u:Un (frs X.stack) ch H H' s.heap s'.heap) (hok:HOk X.prog X.w H' s'.heap) (hg:AllBare s'.gens)
  (hch:∀b∈ch,(b∈X.ex\/X.s₀.heap.objs.size≤b)/\b≠X.env.locals/\(∀x c,X.env.cells.lookup x=some c→c≠b)/\∀p∈X.pn++pins,p.1≠b):Inv X pins σ H' s':=by
 obtain ⟨h',g',d',t',o'⟩:=s'
 have e:o'=s.os:=ho
 subst e
 exact I.call (g':=g') (t':=t') (d':=d') u hok hg hch
end
abbrev XK:=Value→Option Addr→Hp→Prop
abbrev St:=List (Option V)
abbrev VK:=V→Hp→Prop
abbrev TE:=St→Hp→VK→Prop
abbrev TT:=St→Hp→(Bool→Hp→Prop)→Prop
abbrev TA:=St→Hp→(List V→Hp→Prop)→Prop
structure Ends where
 nx:St→Hp→Prop
 rt:VK
 bk:St→Hp→Prop:=fun _ _=>False
 ct:St→Hp→Prop:=fun _ _=>False
abbrev TS:=Ends→St→Hp→Prop
def EP (X:Cx) (pins:List (Addr×Obj)) (σ:St) (Q:VK) (u:Value) (s':Shared):Prop:=∃v H',Inv X pins σ H' s'/\RelV v u/\Q v H'
def TP (X:Cx) (pins:List (Addr×Obj)) (σ:St) (Q:Bool→Hp→Prop) (b:Bool) (s':Shared):Prop:=∃H',Inv X pins σ H' s'/\Q b H'
def AP (X:Cx) (pins:List (Addr×Obj)) (σ:St) (Q:List V→Hp→Prop) (us:List Value) (s':Shared):Prop:=∃vs H',Inv X pins σ H' s'/\Vals vs us/\Q vs H'
def SP (X:Cx) (pins:List (Addr×Obj)) (D:Ends) (f:Flow) (s':Shared):Prop :=
 match f with
 | .next=>∃σ' H',Inv X pins σ' H' s'/\D.nx σ' H'
 | .brk=>∃σ' H',Inv X pins σ' H' s'/\D.bk σ' H'
 | .cont=>∃σ' H',Inv X pins σ' H' s'/\D.ct σ' H'
 | .ret u=>∃v σ' H',Inv X pins σ' H' s'/\RelV v u/\D.rt v H'
def PE (X:Cx) (e:Expr) (t:TE):Prop :=
 ∀(pins:List (Addr×Obj)) (s:Shared) (σ:St) (H:Hp) (Q:VK),Inv X pins σ H s→t σ H Q→wpAny (model X.prog X.w) X.A (eval e X.env) (EP X pins σ Q) X.xe s
def PT (X:Cx) (e:Expr) (t:TT):Prop :=
 ∀(pins:List (Addr×Obj)) (s:Shared) (σ:St) (H:Hp) (Q:Bool→Hp→Prop),Inv X pins σ H s→t σ H Q→wpAny (model X.prog X.w) X.A (isTrue e X.env (eval e X.env)) (TP X pins σ Q) X.xe s
def PW (X:Cx) (e:Expr) (t:TT):Prop :=
 ∀(whole:Sem Value) (pins:List (Addr×Obj)) (s:Shared) (σ:St) (H:Hp) (Q:Bool→Hp→Prop),Inv X pins σ H s→t σ H Q→wpAny (model X.prog X.w) X.A (isTrue e X.env whole) (TP X pins σ Q) X.xe s
theorem PW.pt {X:Cx}{e:Expr}{t:TT}(h:PW X e t):PT X e t:=h _
def PA (X:Cx) (es:List Expr) (t:TA):Prop :=
 ∀(pos:Pos) (pins:List (Addr×Obj)) (s:Shared) (σ:St) (H:Hp) (Q:List V→Hp→Prop),Inv X pins σ H s→t σ H Q→wpAny (model X.prog X.w) X.A (spliced (backTo pos (starEach es X.env))) (AP X pins σ Q) X.xe s
def PS (X:Cx) (st:Stmt) (t:TS):Prop :=
 ∀(pins:List (Addr×Obj)) (s:Shared) (σ:St) (H:Hp) (D:Ends),Inv X pins σ H s→t D σ H→wpAny (model X.prog X.w) X.A (exec st X.env) (SP X pins D) X.xe s
def PSs (X:Cx) (st:List Stmt) (t:TS):Prop :=
 ∀(pins:List (Addr×Obj)) (s:Shared) (σ:St) (H:Hp) (D:Ends),Inv X pins σ H s→t D σ H→wpAny (model X.prog X.w) X.A (execs st X.env) (SP X pins D) X.xe s
theorem thn {α:Type}{t:Sem α}{Q Q':α→Shared→Prop}{M:Model}{A:Around}{E:Value→Shared→Prop}{s:Shared}(h:wpAny M A t Q E s) (hQ:∀a s,Q a s→Q' a s):wpAny M A t Q' E s:=wpAny_mono h hQ fun _ _ x=>x
end L2
namespace L2
open PySem PySem.Spec PyProof.Rows
section
variable {X:Cx}
def Vi (i:Nat):TE:=fun σ H Q=>∃v,σ[i]?=some (some v)/\Q v H
def tC (v:V):TE:=fun _ H Q=>Q v H
theorem Rh {i:Nat}{x:Str}{pos:Pos}(hN:X.N[i]?=some x) (hv:Vis X.env.scope x) (hd:(x==("__debug__" : Str))=false:=by decide) (hcd:(x==("__classdict__" : Str))=false:=by decide):PE X (.Name x pos) (Vi i):=by
 intro pins s σ H Q I h
 obtain ⟨v,e,h⟩:=h
 obtain ⟨m,hn,hl⟩:=I.loc
 obtain ⟨u,r,l⟩:=hl i x v hN e hv
 have fin:EP X pins σ Q u s:=⟨v,H,I,r,h⟩
 rcases l with ⟨hk,hm⟩|⟨hk,c,hc,hcell⟩
 ·exact wpAny_Name (wpAny_loadName_local I.ok.kind hk hn hm fin) hd
 ·rcases hk with hk|hk
  ·exact wpAny_Name (wpAny_loadName_cell I.ok.kind hk hc hcell fin) hd
  ·exact wpAny_Name (wpAny_loadName_free I.ok.kind hk hc hcell fin hcd) hd
theorem AB {i j pos}:PE X (.Constant (.int i) j pos) (tC (.int i)):=fun _ _ _ H _ I h=>wpAny_Constant_int ⟨.int i,H,I.tok _,⟨_,rfl⟩,h⟩
theorem FJ {b j pos}:PE X (.Constant (.bool b) j pos) (tC (.bl b)):=fun _ _ _ H _ I h=>Constant_bool ⟨.bl b,H,I,rfl,h⟩
theorem Ak {x j pos}:PE X (.Constant (.str x) j pos) (tC (.str x)):=fun _ _ _ H _ I h=>Calls.Constant_str ⟨.str x,H,I.tok _,⟨_,rfl⟩,h⟩
def Gl (X:Cx) (x:Str):Prop:=X.env.kindOf x=some .globalImplicit
theorem Ow {E:Value→Shared→Prop}{pins:List (Addr×Obj)}{s:Shared}{σ:St}{H:Hp}{x:Str}{u:Value}{pos:Pos}{Q:Value→Shared→Prop}(I:Inv X pins σ H s) (hg:Gl X x) (hm:X.mg x=some u) (h:Q u s)
  (hd:(x==("__debug__" : Str))=false:=by decide):wpAny (model X.prog X.w) X.A (eval (.Name x pos) X.env) Q E s :=
 Calls.Name_function_global I.ok.kind hg (Calls.loadGlobal_global (by rw [I.ok.glob];exact I.mod.glob.keeps I.bk) hm h) hd
theorem EH {E:Value→Shared→Prop}{pins:List (Addr×Obj)}{s:Shared}{σ:St}{H:Hp}{x:Str}{u:Value}{pos:Pos}{Q:Value→Shared→Prop}(I:Inv X pins σ H s) (hg:Gl X x) (hm:X.mg x=none) (hv:bootBuiltins x=some u) (h:Q u s)
  (hn:x ≠ "__name__" := by decide) (hd:(x==("__debug__" : Str))=false:=by decide):wpAny (model X.prog X.w) X.A (eval (.Name x pos) X.env) Q E s:=by
 obtain ⟨mb,h1,h2⟩:=I.mod.blt
 exact Calls.Name_function_global I.ok.kind hg (Calls.loadGlobal_builtin (by rw [I.ok.glob];exact I.mod.glob.keeps I.bk) hm (by rw [I.ok.blt];exact h1.keeps I.bk) ((h2 x hn).trans hv) h) hd
theorem Lu {x:Str}{v:V}{u:Value}{pos:Pos}(hg:Gl X x) (hm:X.mg x=some u) (r:RelV v u) (hd:(x==("__debug__" : Str))=false:=by decide):PE X (.Name x pos) (tC v) :=
 fun _ _ _ H _ I h=>Ow I hg hm ⟨v,H,I,r,h⟩ hd
theorem Ge {x:Str}{v:V}{u:Value}{pos:Pos}(hg:Gl X x) (hm:X.mg x=none) (hv:bootBuiltins x=some u) (r:RelV v u) (hn:x ≠ "__name__" := by decide) (hd:(x==("__debug__" : Str))=false:=by decide):PE X (.Name x pos) (tC v) :=
 fun _ _ _ H _ I h=>EH I hg hm hv ⟨v,H,I,r,h⟩ hn hd
variable {a b:Expr}{ta tb:TE}{pos:Pos}
def PC (X:Cx) (op:CmpOp) (a b:Expr) (t:TE):Prop :=
 ∀(pins:List (Addr×Obj)) (s:Shared) (σ:St) (H:Hp) (Q:VK),Inv X pins σ H s→t σ H Q →
  wpAny (model X.prog X.w) X.A (eval a X.env) (fun v s₁=>wpAny (model X.prog X.w) X.A (eval b X.env) (fun u s₂=>wpAny (model X.prog X.w) X.A (compareOp op v u) (EP X pins σ Q) X.xe s₂) X.xe s₁) X.xe s
def tB (t:TE):TT:=fun σ H Q=>t σ H fun x H1=>∃c,x=.bl c/\Q c H1
theorem FH {e:Expr}{t:TE}(h:PE X e t) (he:∀whole,isTrue e X.env whole=(do let v ← whole;standAt e.pos;holding [v] (truthy v)):=by intro _;rfl):PT X e (tB t):=by
 intro pins s σ H Q I hw
 refine isTrue_plain (thn (h pins s σ H _ I hw) fun v s1 ⟨x,H1,I1,r1,q1⟩=>?_) (he _)
 obtain ⟨d,rfl,q⟩:=q1
 cases r1
 exact wpAny_truthy_bool ⟨H1,I1,q⟩
variable {tA tB':TT}{rest:List Expr}
def Wg (t u:TT):TT:=fun σ H Q=>t σ H fun c H1=>if c=true then u σ H1 Q else Q false H1
def tOr (t u:TT):TT:=fun σ H Q=>t σ H fun c H1=>if c=true then Q true H1 else u σ H1 Q
def WZ (t:TT):TT:=fun σ H Q=>t σ H fun c H1=>Q (!c) H1
theorem IM (ha:PT X a tA):PW X (.BoolOp .And [a] pos) tA:=by
 intro wh pins s σ H Q I h
 refine isTrue_and (thn (ha pins s σ H Q I h) fun c s1 e=>?_)
 cases c with
 | true=>exact isTrue_and_nil e
 | false=>exact e
theorem JJ (ha:PT X a tA):PW X (.BoolOp .Or [a] pos) tA:=by
 intro wh pins s σ H Q I h
 refine isTrue_or (thn (ha pins s σ H Q I h) fun c s1 e=>?_)
 cases c with
 | false=>exact isTrue_or_nil e
 | true=>exact e
theorem Ln (ha:PT X a tA) (hb:PW X (.BoolOp .And (b::rest) pos) tB'):PW X (.BoolOp .And (a::b::rest) pos) (Wg tA tB'):=by
 intro wh pins s σ H Q I h
 refine isTrue_and (thn (ha pins s σ H _ I h) fun c s1 ⟨H1,I1,q1⟩=>?_)
 cases c with
 | true=>exact hb wh pins s1 σ H1 Q I1 q1
 | false=>exact ⟨H1,I1,q1⟩
theorem Kq (ha:PT X a tA) (hb:PW X (.BoolOp .Or (b::rest) pos) tB'):PW X (.BoolOp .Or (a::b::rest) pos) (tOr tA tB'):=by
 intro wh pins s σ H Q I h
 refine isTrue_or (thn (ha pins s σ H _ I h) fun c s1 ⟨H1,I1,q1⟩=>?_)
 cases c with
 | true=>exact ⟨H1,I1,q1⟩
 | false=>exact hb wh pins s1 σ H1 Q I1 q1
theorem JK (ha:PT X a tA):PT X (.UnaryOp .Not a pos) (WZ tA):=by
 intro pins s σ H Q I h
 exact isTrue_not (ha pins s σ H (fun c H1=>Q (!c) H1) I h)
def Vt (ta tb:TE):TE:=fun σ H Q=>ta σ H fun x H1=>∃c,x=.bl c/\if c=true then tb σ H1 Q else Q (.bl false) H1
theorem U5 {op}{t:TE}(h:PE X a t):PE X (.BoolOp op [a] pos) t:=fun pins s σ H Q I hw=>BoolOp_one (h pins s σ H Q I hw)
theorem U7 (ha:PE X a ta) (hb:PE X (.BoolOp .And (b::rest) pos) tb):PE X (.BoolOp .And (a::b::rest) pos) (Vt ta tb):=by
 intro pins s σ H Q I h
 refine BoolOp_and (thn (ha pins s σ H _ I h) fun v s1 ⟨x,H1,I1,r1,q1⟩=>?_)
 obtain ⟨c,rfl,q1⟩:=q1
 cases r1
 refine wpAny_truthy_bool ?_
 cases c with
 | true=>exact hb pins s1 σ H1 Q I1 q1
 | false=>exact ⟨.bl false,H1,I1,rfl,q1⟩
def tIf (t:TT) (ta tb:TE):TE:=fun σ H Q=>t σ H fun c H1=>if c=true then ta σ H1 Q else tb σ H1 Q
theorem Mq {c:Expr}(hc:PT X c tA) (ha:PE X a ta) (hb:PE X b tb):PE X (.IfExp c a b pos) (tIf tA ta tb):=by
 intro pins s σ H Q I h
 refine wpAny_IfExp (thn (hc pins s σ H _ I h) fun d s1 ⟨H1,I1,q1⟩=>?_)
 cases d with
 | true=>exact ha pins s1 σ H1 Q I1 q1
 | false=>exact hb pins s1 σ H1 Q I1 q1
end
end L2
namespace L2
open PySem PySem.Spec PyProof.Rows
def SqL (K:PySem.W.Frag) (H:Hp) (a:Addr) (xs:List V):Prop :=
 Rd H a (.lst xs) \/
  ∃(o:Obj) (its:Array Value) (n:Nat),K.lookup a=some o/\o.cls=.type "list" /\ o.dict=none/\o.data=.seq its n/\its.size≤sizeLine/\Vals xs its.toList
def SqT (K:PySem.W.Frag) (H:Hp) (a:Addr) (xs:List V):Prop :=
 Rd H a (.tup xs) \/
  ∃(o:Obj) (its:Array Value) (n:Nat),K.lookup a=some o/\o.cls=.type "tuple" /\ o.data=.seq its n/\its.size≤sizeLine/\Vals xs its.toList
def Wx:Value→Option V
 | .none=>some .non
 | .bool b=>some (.bl b)
 | .int i _=>some (.int i)
 | .str x _=>some (.str x)
 | .bytes b _=>some (.byt b)
 | .float b _=>some (.flt b)
 | .ref a=>some (.ref a)
 | .type n=>some (.ty n)
 | _=>none
theorem RelV.abs {x:V}{u:Value}(r:RelV x u):Wx u=some x:=by
 cases x with
 | non=>cases r;rfl
 | bl _=>cases r;rfl
 | int _=>obtain ⟨t,rfl⟩:=r;rfl
 | str _=>obtain ⟨t,rfl⟩:=r;rfl
 | byt _=>obtain ⟨t,rfl⟩:=r;rfl
 | flt _=>obtain ⟨t,rfl⟩:=r;rfl
 | ref _=>cases r;rfl
 | ty _=>cases r;rfl
theorem RelV.inj {x y:V}{u:Value}(r:RelV x u) (q:RelV y u):x=y:=Option.some.inj (r.abs.symm.trans q.abs)
theorem Vals.inj:∀{xs ys:List V}{us:List Value},Vals xs us→Vals ys us→xs=ys
 | _,_,_,.nil,.nil=>rfl
 | _,_,_,.cons r t,.cons r' t'=>by rw [r.inj r',Vals.inj t t']
section
variable {X:Cx}{pins:List (Addr×Obj)}{σ:St}{H:Hp}{s:Shared}{a:Addr}{xs ys:List V}
theorem SqL.of {K:PySem.W.Frag}(h:H a=some (.lst xs)):SqL K H a xs:=.inl (.inl h)
theorem SqT.of {K:PySem.W.Frag}(h:H a=some (.tup xs)):SqT K H a xs:=.inl (.inl h)
theorem Inv.list (I:Inv X pins σ H s) (h:SqL X.K H a xs):∃its:List Value,Vals xs its/\PlainL s.heap a its.toArray/\xs.length≤sizeLine:=by
 rcases h with h|⟨o,its,n,hk,hc,hd,hs,hz,r⟩
 ·obtain ⟨z,its,n,r,e⟩:=h.ok I.hok
  exact ⟨its,r,⟨_,n,e,rfl,rfl,rfl⟩,z⟩
 ·refine ⟨its.toList,r,⟨o,n,I.kIn a o hk,hc,hd,by simpa using hs⟩,?_⟩
  have e:=r.length
  simp only [Array.length_toList] at e
  omega
theorem Inv.tuple (I:Inv X pins σ H s) (h:SqT X.K H a xs):∃its:List Value,Vals xs its/\IsTup s.heap a its.toArray/\xs.length≤sizeLine:=by
 rcases h with h|⟨o,its,n,hk,hc,hs,hz,r⟩
 ·obtain ⟨z,its,r,p⟩:=h.ok I.hok
  exact ⟨its,r,p,z⟩
 ·refine ⟨its.toList,r,⟨o,I.kIn a o hk,hc,n,by simpa using hs⟩,?_⟩
  have e:=r.length
  simp only [Array.length_toList] at e
  omega
theorem Inv.NF (I:Inv X pins σ H s) (h:SqL X.K H a xs) (h':SqL X.K H a ys):xs=ys:=by
 obtain ⟨its,r,⟨o,n,e,_,_,d⟩,_⟩:=I.list h
 obtain ⟨its',r',⟨o',n',e',_,_,d'⟩,_⟩:=I.list h'
 rw [e] at e';cases e'
 rw [d] at d'
 injection d' with d1 _
 have:its=its':=by simpa using congrArg Array.toList d1
 subst this
 exact r.inj r'
theorem Inv.PU (I:Inv X pins σ H s) (h:SqT X.K H a xs) (h':SqT X.K H a ys):xs=ys:=by
 obtain ⟨its,r,⟨o,e,_,n,d⟩,_⟩:=I.tuple h
 obtain ⟨its',r',⟨o',e',_,n',d'⟩,_⟩:=I.tuple h'
 rw [e] at e';cases e'
 rw [d] at d'
 injection d' with d1 _
 have:its=its':=by simpa using congrArg Array.toList d1
 subst this
 exact r.inj r'
end
abbrev Cx.KA (X:Cx) (E:Value→Shared→Prop):Cx:={ X with xe:=E }
abbrev Cx.nox (X:Cx):Cx:=X.KA fun _ _=>False
theorem Cx.Ok.KA {X:Cx}(ok:X.Ok) (E:Value→Shared→Prop):(X.KA E).Ok :=
 ⟨ok.mod,ok.kind,ok.glob,ok.blt,ok.above,ok.inj,ok.has,ok.cab,ok.hd,ok.frames,ok.stk,ok.exf,ok.bs,ok.bsz,ok.R4,ok.Se,ok.IG,ok.frf⟩
theorem Cx.Ok.E9 {X:Cx}{E:Value→Shared→Prop}(ok:(X.KA E).Ok):X.Ok :=
 ⟨ok.mod,ok.kind,ok.glob,ok.blt,ok.above,ok.inj,ok.has,ok.cab,ok.hd,ok.frames,ok.stk,ok.exf,ok.bs,ok.bsz,ok.R4,ok.Se,ok.IG,ok.frf⟩
section
variable {X:Cx}{pins:List (Addr×Obj)}{σ:St}{H:Hp}{s:Shared}{E:Value→Shared→Prop}
theorem Inv.KA (I:Inv X pins σ H s) (E:Value→Shared→Prop):Inv (X.KA E) pins σ H s:=⟨I.ok.KA E,I.os,I.bare,I.base,I.loc,I.cell,I.free,I.Fx,I.pin,I.hok,I.len⟩
theorem Inv.E9 (I:Inv (X.KA E) pins σ H s):Inv X pins σ H s:=⟨I.ok.E9,I.os,I.bare,I.base,I.loc,I.cell,I.free,I.Fx,I.pin,I.hok,I.len⟩
theorem SP.E9 {D:Ends}{f:Flow}{s':Shared}(h:SP (X.KA E) pins D f s'):SP X pins D f s':=by
 cases f with
 | next=>obtain ⟨σ',H',I,q⟩:=h;exact ⟨σ',H',I.E9,q⟩
 | brk=>obtain ⟨σ',H',I,q⟩:=h;exact ⟨σ',H',I.E9,q⟩
 | cont=>obtain ⟨σ',H',I,q⟩:=h;exact ⟨σ',H',I.E9,q⟩
 | ret u=>obtain ⟨v,σ',H',I,r,q⟩:=h;exact ⟨v,σ',H',I.E9,r,q⟩
theorem PSs.nox {st:List Stmt}{t:TS}(h:PSs X.nox st t):PSs X st t:=fun pins s σ H D I hw =>
 wpAny_mono (h pins s σ H D (I.KA _) hw) (fun _ _ q=>q.E9) fun _ _ z=>False.elim z
end
section
variable {X:Cx}{st:Stmt}{rest:List Stmt}{t u:TS}{e:Expr}{te:TE}{pos:Pos}
def Vk:TS:=fun D σ H=>D.nx σ H
def WX (t u:TS):TS:=fun D σ H=>t { D with nx:=u D } σ H
theorem Al:PSs X [] Vk:=fun _ _ σ H _ I h=>wpAny_execs_nil ⟨σ,H,I,h⟩
theorem Ac (h1:PS X st t) (h2:PSs X rest u):PSs X (st::rest) (WX t u):=by
 intro pins s σ H D I h
 refine wpAny_execs_cons (thn (h1 pins s σ H { D with nx:=u D } I h) fun f s1 q=>?_)
 cases f with
 | next =>
  obtain ⟨σ',H',I',q⟩:=q
  exact h2 pins s1 σ' H' D I' q
 | ret v=>exact q
 | brk=>exact q
 | cont=>exact q
theorem AH (h1:PS X st t):PSs X [st] t:=by
 intro pins s σ H D I h
 refine wpAny_execs_cons (thn (h1 pins s σ H D I h) fun f s1 q=>?_)
 cases f with
 | next=>exact wpAny_execs_nil q
 | ret v=>exact q
 | brk=>exact q
 | cont=>exact q
theorem Inv.quiet {pins:List (Addr×Obj)}{σ:St}{H:Hp}{s:Shared}(I:Inv X pins σ H s):interactive X.env=false:=by simp [interactive,I.ok.kind]
def Vn (te:TE):TS:=fun D σ H=>te σ H fun _ H1=>D.nx σ H1
theorem Br (he:PE X e te) (hs:swapsWith e none pos.line X.env=pure false:=by rfl):PS X (.Expr e pos) (Vn te):=by
 intro pins s σ H D I h
 exact wpAny_Expr_any (thn (he pins s σ H _ I h) fun v s1 ⟨x,H1,I1,r1,q1⟩=>⟨σ,H1,I1,q1⟩) I.quiet hs
def WY (te:TE):TS:=fun D σ H=>te σ H D.rt
theorem AQ (he:PE X e te):PS X (.Return (some e) pos) (WY te):=by
 intro pins s σ H D I h
 exact wpAny_Return_some (thn (he pins s σ H _ I h) fun v s1 ⟨x,H1,I1,r1,q1⟩=>⟨x,σ,H1,I1,r1,q1⟩)
def Wd (c:TT) (t u:TS):TS:=fun D σ H=>c σ H fun b H1=>if b=true then t D σ H1 else u D σ H1
theorem A0 {c:Expr}{a b:List Stmt}{tc:TT}(hc:PT X c tc) (ha:PSs X a t) (hb:PSs X b u):PS X (.If c a b pos) (Wd tc t u):=by
 intro pins s σ H D I h
 refine wpAny_If (thn (hc pins s σ H _ I h) fun d s1 ⟨H1,I1,q1⟩=>?_)
 cases d with
 | true=>exact ha pins s1 σ H1 D I1 q1
 | false=>exact hb pins s1 σ H1 D I1 q1
end
abbrev TG:=V→St→Hp→(St→Hp→Prop)→Prop
abbrev TGs:=List V→St→Hp→(St→Hp→Prop)→Prop
def PG (X:Cx) (target:Expr) (t:TG):Prop :=
 ∀(pins:List (Addr×Obj)) (s:Shared) (σ:St) (H:Hp) (v:V) (u:Value) (Q:St→Hp→Prop),Inv X pins σ H s→RelV v u→t v σ H Q →
  wpAny (model X.prog X.w) X.A (assign target X.env u) (fun _ s'=>∃σ' H',Inv X pins σ' H' s'/\Q σ' H') X.xe s
def PGs (X:Cx) (ts:List Expr) (t:TGs):Prop :=
 ∀(pins:List (Addr×Obj)) (s:Shared) (σ:St) (H:Hp) (vs:List V) (us:List Value) (Q:St→Hp→Prop),Inv X pins σ H s→Vals vs us→t vs σ H Q →
  wpAny (model X.prog X.w) X.A (assignInOrder ((assignEach ts X.env).map (·.2)) us) (fun _ s'=>∃σ' H',Inv X pins σ' H' s'/\Q σ' H') X.xe s
section
variable {X:Cx}{pos:Pos}
def Ct (i:Nat):TG:=fun v σ H Q=>Q (σ.set i (some v)) H
theorem EA {i:Nat}{x:Str}(hN:X.N.Nodup) (hi:X.N[i]?=some x) (hx:Loc X.env.scope x) (hf:X.fn x=true\/X.env.scope.names.lookup x=some .local:=by first|exact .inl rfl|exact .inr rfl|assumption):PG X (.Name x pos) (Ct i):=by
 intro pins s σ H v u Q I r h
 exact wpAny_assign_Name (Mb I hN hi hx r (fun s' I'=>⟨_,H,I',h⟩) hf)
def VX:TGs:=fun vs σ H Q=>vs=[]/\Q σ H
def K8 (t:TG) (u:TGs):TGs:=fun vs σ H Q=>∃v r,vs=v::r/\t v σ H fun σ' H'=>u r σ' H' Q
theorem Eg:PGs X [] VX:=by
 intro pins s σ H vs us Q I r h
 obtain ⟨e,h⟩:=h
 subst e
 cases r
 exact assignInOrder_nil ⟨σ,H,I,h⟩
theorem A3 {e:Expr}{es:List Expr}{t:TG}{u:TGs}(h1:PG X e t) (h2:PGs X es u)
  (hs:(assignEach (e::es) X.env).map (·.2)=assign e X.env::(assignEach es X.env).map (·.2):=by rfl):PGs X (e::es) (K8 t u):=by
 intro pins s σ H vs us Q I r h
 obtain ⟨v,vr,e1,h⟩:=h
 subst e1
 cases r with
 | cons r rr =>
  rw [hs]
  refine assignInOrder_cons (thn (h1 pins s σ H _ _ _ I r h) fun _ s1 ⟨σ1,H1,I1,q1⟩=>?_)
  exact h2 pins s1 σ1 H1 _ _ Q I1 rr q1
def VW (K:PySem.W.Frag) (n:Nat) (t:TGs):TG:=fun v σ H Q=>∃a xs,v=.ref a/\SqT K H a xs/\xs.length=n/\t xs σ H Q
theorem F8 {es:List Expr}{k:Nat}{t:TGs}{n:Nat}(hc:X.calm=true) (h:PGs X es t)
  (hn:(assignEach es X.env).length=n:=by rfl) (hst:(assignEach es X.env).findIdx? (·.1)=none:=by rfl):PG X (.Tuple es k pos) (VW X.K n t):=by
 intro pins s σ H v u Q I r hw
 obtain ⟨a,xs,e1,hq,hl,hw⟩:=hw
 subst e1
 cases r
 obtain ⟨its,rv,ht,hz⟩:=I.tuple hq
 refine assign_Tuple_tuple (I.ok.hd hc) ht (by simp [hn,←hl,rv.length]) hst fun h' hx=>?_
 have I1:Inv X pins σ H { s with heap:=h' }:=I.kept (t':=s.toks) fun b o e=>hx b o (Nat.ne_of_lt (Heap.lt_size e)) e
 exact h pins _ σ H xs _ Q I1 (by simpa using rv) hw
def Q5 (te:TE) (g:TG):TS:=fun D σ H=>te σ H fun x H1=>g x σ H1 D.nx
theorem U3 {i:Nat}{x:Str}{e:Expr}{te:TE}{pos':Pos}(hN:X.N.Nodup) (hi:X.N[i]?=some x) (hx:Loc X.env.scope x) (he:PE X e te) (hs:swapsWith e (some (.Name x pos')) pos.line X.env=pure false:=by rfl) (hf:X.fn x=true\/X.env.scope.names.lookup x=some .local:=by first|exact .inl rfl|exact .inr rfl|assumption) :
  PS X (.Assign [.Name x pos'] e pos) (Q5 te (Ct i)):=by
 intro pins s σ H D I h
 refine wpAny_Assign_Name (thn (he pins s σ H _ I h) fun v s1 ⟨y,H1,I1,r1,q1⟩=>?_) hs
 exact Mb I1 hN hi hx r1 (fun s2 I2=>⟨_,H1,I2,q1⟩) hf
end
section
variable {X:Cx}{pos:Pos}
def Q3 (c:TT) (tb:TS):TS:=fun D σ H=>∃W:Nat→St→Hp→Prop,(∃m,W m σ H)/\∀m σ H,W m σ H →
 c σ H fun b H1=>if b=true then ∃N:St→Hp→Prop,(∀σ' H',N σ' H'→∃m',m'<m/\W m' σ' H')/\tb { D with nx:=N,ct:=N,bk:=D.nx } σ H1 else D.nx σ H1
theorem RV {c:Expr}{body:List Stmt}{tc:TT}{tb:TS}(hp:PassesOwn (model X.prog X.w) X.A X.env X.xe) (hc:PT X c tc) (hb:PSs X body tb):PS X (.While c body [] pos) (Q3 tc tb):=by
 intro pins s σ H D I h
 obtain ⟨W,⟨m0,w0⟩,turn⟩:=h
 refine wpAny_While (codeAny_whileLoop (fun n s'=>∃σ' H',Inv X pins σ' H' s'/\W n σ' H') ?_ m0 ⟨σ,H,I,w0⟩)
 rintro n s1 ⟨σ1,H1,I1,w1⟩
 refine wpAny_passesOwn hp (thn (hc pins s1 σ1 H1 _ I1 (turn n σ1 H1 w1)) fun b s2 ⟨H2,I2,q2⟩=>?_)
 cases b with
 | true =>
  obtain ⟨N,hN,q2⟩:=q2
  rw [if_pos rfl]
  refine wpAny_passesOwn hp (thn (hb pins s2 σ1 H2 _ I2 q2) fun f s3 q3=>?_)
  cases f with
  | next =>
   obtain ⟨σ3,H3,I3,n3⟩:=q3
   obtain ⟨m',hm,w3⟩:=hN σ3 H3 n3
   exact ⟨m',hm,σ3,H3,I3,w3⟩
  | cont =>
   obtain ⟨σ3,H3,I3,n3⟩:=q3
   obtain ⟨m',hm,w3⟩:=hN σ3 H3 n3
   exact ⟨m',hm,σ3,H3,I3,w3⟩
  | brk=>exact q3
  | ret v=>exact q3
 | false =>
  rw [if_neg Bool.false_ne_true]
  exact wpAny_execs_nil ⟨σ1,H2,I2,q2⟩
end
structure It where
 go:Nat→Hp→Prop
 yld:Nat→Hp→V→Hp→Prop
 stop:Nat→Hp→Prop
def OV (X:Cx) (pins:List (Addr×Obj)) (H:Hp) (b:Addr):Prop :=
 H b=none/\b≠X.env.locals/\b∉X.fs/\(b∈X.ex\/X.s₀.heap.objs.size≤b)/\(∀x c,X.env.cells.lookup x=some c→c≠b)/\∀p∈X.pn++pins,p.1≠b
theorem Inv.QO {X:Cx}{pins:List (Addr×Obj)}{σ:St}{H H':Hp}{s:Shared}{b:Addr}(I:Inv X pins σ H s) (hb:s.heap.objs.size≤b) (hn:H' b=none):OV X pins H' b:=by
 refine ⟨hn,Nat.ne_of_gt (Nat.lt_of_lt_of_le I.lt hb),I.Wq hb,.inr (Nat.le_trans I.sz hb),fun x c e z=>?_,fun p hp z=>?_⟩
 ·obtain ⟨v,q⟩:=I.cell x c e
  exact absurd (Nat.lt_of_lt_of_le q.lt (by rw [z];exact hb)) (Nat.lt_irrefl _)
 ·exact absurd (Nat.lt_of_lt_of_le (Heap.lt_size (I.pin p hp).1) (by rw [z];exact hb)) (Nat.lt_irrefl _)
structure Turn (P:Program) (w:World) (K:PySem.W.Frag) (tg:Expr) (J:It) (fp:List Addr) (it:Addr) (tn:Nat→Heap→Prop):Prop where
 mem:it∈fp
 obj:∀i h,tn i h→∀b∈fp,∃o,h.get? b=some o/\∀v,o.data≠.cell v
 keep:∀i h h',tn i h→(∀b∈fp,∀o,h.get? b=some o→h'.get? b=some o)→tn i h'
 item:∀(X:Cx),X.prog=P→X.w=w→X.K=K→X.calm=true→∀(i:Nat) (pins:List (Addr×Obj)) (s:Shared) (σ:St) (H:Hp) (E:Value→Shared→Prop),Inv X pins σ H s→(∀b∈fp,OV X pins H b)→tn i s.heap→J.go i H →
  wpAny (model P w) X.A (pyNext (.ref it)) (fun r s1=>∃u,r=some u /\
   wpAny (model P w) X.A (letOwnedTupleGo tg (.ref it) u) (fun _ s2=>∃x H',Inv X pins σ H' s2/\RelV x u/\J.yld i H x H'/\tn (i+1) s2.heap/\∀b∈fp,H' b=none) E s1) E s
 done:∀(X:Cx),X.prog=P→X.w=w→X.K=K→X.calm=true→∀(i:Nat) (pins:List (Addr×Obj)) (s:Shared) (σ:St) (H:Hp) (E:Value→Shared→Prop),Inv X pins σ H s→(∀b∈fp,OV X pins H b)→tn i s.heap→J.stop i H →
  wpAny (model P w) X.A (pyNext (.ref it)) (fun r s1=>r=none/\Inv X pins σ H s1) E s
 self:∀(A:Around) (i:Nat) (s:Shared) (Q:Value→Shared→Prop) (E:Value→Shared→Prop),tn i s.heap→Q (.ref it) s→wpAny (model P w) A (pyIter (.ref it)) Q E s
abbrev TI:=St→Hp→(It→Hp→Prop)→Prop
def PIE (X:Cx) (pins:List (Addr×Obj)) (σ:St) (tg:Expr) (R:It→Hp→Prop) (itv:Value) (s2:Shared):Prop :=
 ∃(it:Addr) (fp:List Addr) (tn:Nat→Heap→Prop) (J:It) (H':Hp),itv=.ref it/\Inv X pins σ H' s2/\Turn X.prog X.w X.K tg J fp it tn/\tn 0 s2.heap/\(∀b∈fp,OV X pins H' b)/\R J H'
def PI (X:Cx) (tg iter:Expr) (wi:TI):Prop :=
 ∀(pins:List (Addr×Obj)) (s:Shared) (σ:St) (H:Hp) (R:It→Hp→Prop),Inv X pins σ H s→wi σ H R →
  wpAny (model X.prog X.w) X.A (eval iter X.env) (fun v s1=>wpAny (model X.prog X.w) X.A (pyIter v) (PIE X pins σ tg R) X.xe s1) X.xe s
theorem O0 {M:Model}{A:Around}{E:Value→Shared→Prop}{s:Shared}{tg:Expr}{it:Addr}{u:Value}{o:Obj}{n:String}{vs:Array Value}{Q:Unit→Shared→Prop}(ho:s.heap.get? it=some o) (hc:o.cls=.type n) (hd:o.data=.fields vs)
    (hn:["enumerate", "zip", "dict_itemiterator", "dict_reverseitemiterator", "odict_iterator", "itertools.zip_longest", "itertools.pairwise"].contains n=false) (hQ:Q () s):wpAny M A (letOwnedTupleGo tg (.ref it) u) Q E s:=by
  unfold letOwnedTupleGo
  cases tg <;> first
    | exact wpAny_pure hQ
    | (cases u <;> first
        | exact wpAny_pure hQ
        | (refine wpAny_bind (wpAny_load ho ?_)
           rw [hc,hd]
           show wpAny M A (if (["enumerate", "zip", "dict_itemiterator", "dict_reverseitemiterator", "odict_iterator", "itertools.zip_longest", "itertools.pairwise"].contains n&&vs[0]?==some (rawInt _))=true then _ else _) Q E s
           rw [if_neg (by intro h;rw [hn,Bool.false_and] at h;cases h)]
           exact wpAny_pure hQ))
def Itl (K:PySem.W.Frag) (a:Addr):It :=
 ⟨fun i H=>∃xs x,SqL K H a xs/\xs[i]?=some x,fun i H x H'=>H'=H/\∀xs,SqL K H a xs→xs[i]?=some x,fun i H=>∃xs,SqL K H a xs/\xs.length≤i⟩
def Itt (K:PySem.W.Frag) (a:Addr):It :=
 ⟨fun i H=>∃xs x,SqT K H a xs/\xs[i]?=some x,fun i H x H'=>H'=H/\∀xs,SqT K H a xs→xs[i]?=some x,fun i H=>∃xs,SqT K H a xs/\xs.length≤i⟩
def Itr (lo:Int) (n:Nat):It:=⟨fun i _=>i<n,fun i H x H'=>H'=H/\x=.int (lo+i),fun i _=>n≤i⟩
theorem PN {P:Program}{w:World}{K:PySem.W.Frag}{tg:Expr}(a it:Addr):Turn P w K tg (Itl K a) [it] it (fun i h=>h.IsListIter it a i) where
 mem:=by simp
 obj:=fun i h st b hb=>by
  have e:b=it:=by simpa using hb
  subst e
  obtain ⟨o,e,c,d⟩:=st
  exact ⟨o,e,fun v z=>by rw [d] at z;cases z⟩
 keep:=fun i h h' st k=>st.at fun o e=>k it (by simp) o e
 item:=by
  intro X hP hw hK hc i pins s σ H E I hf st hg
  subst hP hw hK
  obtain ⟨xs,x,hq,hx⟩:=hg
  obtain ⟨its,rv,p,hz⟩:=I.list hq
  obtain ⟨u,hu,ru⟩:=rv.get hx
  obtain ⟨f0,f1,f2,f3,f4,f5⟩:=hf it (by simp)
  refine wpAny_pyNext_list_item st p.isList (x:=u) (by simpa using hu) fun h' st' sb=>?_
  have I1:Inv X pins σ H { s with heap:=h' }:=I.turned (t':=s.toks) (fun b o hb e=>(sb.2 b hb).trans e) f0 f1 f3 f4 f5
  obtain ⟨o,e,c,d⟩:=id st'
  exact ⟨u,rfl,O0 (s:={ s with heap:=h' }) e c d (by decide) ⟨x,H,I1,ru,⟨rfl,fun ys hy=>by rw [I.NF hy hq];exact hx⟩,st',fun b hb=>(hf b hb).1⟩⟩
 done:=by
  intro X hP hw hK hc i pins s σ H E I hf st hg
  subst hP hw hK
  obtain ⟨xs,hq,hx⟩:=hg
  obtain ⟨its,rv,p,hz⟩:=I.list hq
  obtain ⟨f0,f1,f2,f3,f4,f5⟩:=hf it (by simp)
  have hl:=rv.length
  exact wpAny_pyNext_list_end (I.ok.hd hc) st p.isList (by simp;omega) fun h' eb=>⟨rfl,I.turned (t':=s.toks) (fun b o hb e=>eb b o hb e) f0 f1 f3 f4 f5⟩
 self:=fun _ _ _ _ _ st h=>wpAny_pyIter_listiter st h
theorem Nh {P:Program}{w:World}{K:PySem.W.Frag}{tg:Expr}(a it:Addr):Turn P w K tg (Itt K a) [it] it (fun i h=>h.IsTupleIter it a i) where
 mem:=by simp
 obj:=fun i h st b hb=>by
  have e:b=it:=by simpa using hb
  subst e
  obtain ⟨o,e,c,d⟩:=st
  exact ⟨o,e,fun v z=>by rw [d] at z;cases z⟩
 keep:=fun i h h' st k=>st.at fun o e=>k it (by simp) o e
 item:=by
  intro X hP hw hK hc i pins s σ H E I hf st hg
  subst hP hw hK
  obtain ⟨xs,x,hq,hx⟩:=hg
  obtain ⟨its,rv,p,hz⟩:=I.tuple hq
  obtain ⟨u,hu,ru⟩:=rv.get hx
  obtain ⟨f0,f1,f2,f3,f4,f5⟩:=hf it (by simp)
  refine wpAny_pyNext_tuple_item st (show s.heap.IsTuple a its.toArray from p) (x:=u) (by simpa using hu) fun h' st' sb=>?_
  have I1:Inv X pins σ H { s with heap:=h' }:=I.turned (t':=s.toks) (fun b o hb e=>(sb.2 b hb).trans e) f0 f1 f3 f4 f5
  obtain ⟨o,e,c,d⟩:=id st'
  exact ⟨u,rfl,O0 (s:={ s with heap:=h' }) e c d (by decide) ⟨x,H,I1,ru,⟨rfl,fun ys hy=>by rw [I.PU hy hq];exact hx⟩,st',fun b hb=>(hf b hb).1⟩⟩
 done:=by
  intro X hP hw hK hc i pins s σ H E I hf st hg
  subst hP hw hK
  obtain ⟨xs,hq,hx⟩:=hg
  obtain ⟨its,rv,p,hz⟩:=I.tuple hq
  obtain ⟨f0,f1,f2,f3,f4,f5⟩:=hf it (by simp)
  have hl:=rv.length
  exact wpAny_pyNext_tuple_end (I.ok.hd hc) st (show s.heap.IsTuple a its.toArray from p) (by simp;omega) fun h' eb=>⟨rfl,I.turned (t':=s.toks) (fun b o hb e=>eb b o hb e) f0 f1 f3 f4 f5⟩
 self:=fun _ _ _ _ _ st h=>wpAny_pyIter_tupleiter st h
theorem Ni {P:Program}{w:World}{K:PySem.W.Frag}{tg:Expr}(it:Addr) (lo:Int) (n:Nat):Turn P w K tg (Itr lo n) [it] it (fun i h=>IsRangeIter h it (lo+(i:Nat) * 1) ((n:Int)-(i:Nat)) 1) where
 mem:=by simp
 obj:=fun i h st b hb=>by
  have e:b=it:=by simpa using hb
  subst e
  exact ⟨_,st,fun v z=>by
   have z':Data.fields _=Data.cell v:=z
   cases z'⟩
 keep:=fun i h h' st k=>k it (by simp) _ st
 item:=by
  intro X hP hw hK hc i pins s σ H E I hf st hg
  subst hP hw hK
  obtain ⟨f0,f1,f2,f3,f4,f5⟩:=hf it (by simp)
  have W:=Walks.range (prog:=X.prog) (w:=X.w) (I.ok.hd hc) it lo 1 n
  refine W.item i s _ _ hg st fun v h' tk hv st' kk=>?_
  obtain ⟨t,rfl⟩:=hv
  have I1:Inv X pins σ H { s with heap:=h',toks:=tk }:=I.turned (fun b o hb e=>kk b o (by simpa using hb) e) f0 f1 f3 f4 f5
  refine ⟨_,rfl,O0 (s:={ s with heap:=h',toks:=tk }) (n := "range_iterator") st' rfl rfl (by decide) ⟨.int (lo+i),H,I1,⟨t,?_⟩,⟨rfl,rfl⟩,st',fun b hb=>(hf b hb).1⟩⟩
  rw [Int.mul_one]
 done:=by
  intro X hP hw hK hc i pins s σ H E I hf st hg
  subst hP hw hK
  obtain ⟨f0,f1,f2,f3,f4,f5⟩:=hf it (by simp)
  exact wpAny_pyNext_range_end (I.ok.hd hc) st (by have:n≤i:=hg;omega) fun h' eb=>⟨rfl,I.turned (t':=s.toks) (fun b o hb e=>eb b o hb e) f0 f1 f3 f4 f5⟩
 self:=fun _ _ _ _ _ st h=>wpAny_pyIter_rangeiter st h
end L2
namespace L2
open PySem PySem.Spec PyProof.Rows
section
variable {X:Cx}{tg:Expr}
def UW (K:PySem.W.Frag) (tl:TE):TI:=fun σ H R=>tl σ H fun x H1=>∃a,x=.ref a/\(∃xs,SqL K H1 a xs)/\R (Itl K a) H1
def WI (K:PySem.W.Frag) (tl:TE):TI:=fun σ H R=>tl σ H fun x H1=>∃a,x=.ref a/\(∃xs,SqT K H1 a xs)/\R (Itt K a) H1
theorem Tc {l:Expr}{tl:TE}(hl:PE X l tl):PI X tg l (UW X.K tl):=by
 intro pins s σ H R I h
 refine thn (hl pins s σ H _ I h) fun v s1 ⟨x,H1,I1,r1,q1⟩=>?_
 obtain ⟨a,e,⟨xs,hq⟩,q⟩:=q1
 subst e
 cases r1
 obtain ⟨its,rv,p,hz⟩:=I1.list hq
 refine wpAny_pyIter_list p.isList ?_
 refine ⟨s1.heap.objs.size,[s1.heap.objs.size],_,_,H1,rfl,I1.kept (t':=s1.toks) fun b o e=>Heap.get?_push_of_some _ e,PN a _,⟨_,Heap.get?_push_size _ rfl,rfl,rfl⟩,fun b hb=>?_,q⟩
 have e:b=s1.heap.objs.size:=by simpa using hb
 subst e
 exact I1.QO (Nat.le_refl _) (I1.hok.fresh (Nat.le_refl _))
theorem U4 {l:Expr}{tl:TE}(hl:PE X l tl):PI X tg l (WI X.K tl):=by
 intro pins s σ H R I h
 refine thn (hl pins s σ H _ I h) fun v s1 ⟨x,H1,I1,r1,q1⟩=>?_
 obtain ⟨a,e,⟨xs,hq⟩,q⟩:=q1
 subst e
 cases r1
 obtain ⟨its,rv,p,hz⟩:=I1.tuple hq
 refine wpAny_pyIter_tuple (show s1.heap.IsTuple a its.toArray from p) ?_
 refine ⟨s1.heap.objs.size,[s1.heap.objs.size],_,_,H1,rfl,I1.kept (t':=s1.toks) fun b o e=>Heap.get?_push_of_some _ e,Nh a _,⟨_,Heap.get?_push_size _ rfl,rfl,rfl⟩,fun b hb=>?_,q⟩
 have e:b=s1.heap.objs.size:=by simpa using hb
 subst e
 exact I1.QO (Nat.le_refl _) (I1.hok.fresh (Nat.le_refl _))
theorem Mm {pins:List (Addr×Obj)}{σ:St}{H:Hp}{s:Shared}{R:It→Hp→Prop}{E:Value→Shared→Prop}{lo hi:Int}{t u v:Tok}{tk:Nat}(I:Inv X pins σ H s) (h1:-(2 ^ 62)≤lo) (h2:lo<2 ^ 62) (h3:-(2 ^ 62)≤hi) (h4:hi<2 ^ 62)
  (q:R (Itr lo (hi-lo).toNat) H):wpAny (model X.prog X.w) X.A (pyIter (.ref s.heap.objs.size)) (PIE X pins σ tg R) E { s with heap:=s.heap.push { cls:=.type "range", data:=.fields #[.int lo t,.int hi u,.int 1 v] },toks:=tk }:=by
 refine wpAny_pyIter_range (IsRange.new ..) (small_one h1 h2 h3 h4) ?_
 have I1:Inv X pins σ H { s with heap:=s.heap.push { cls:=.type "range", data:=.fields #[.int lo t,.int hi u,.int 1 v] },toks:=tk }:=I.kept fun b o e=>Heap.get?_push_of_some _ e
 refine ⟨(s.heap.push { cls:=.type "range", data:=.fields #[.int lo t,.int hi u,.int 1 v] }).objs.size,[(s.heap.push { cls:=.type "range", data:=.fields #[.int lo t,.int hi u,.int 1 v] }).objs.size],_,_,H,rfl,
  I1.kept (t':=tk) fun b o e=>Heap.get?_push_of_some _ e,Ni _ lo (hi-lo).toNat,?_,fun b hb=>?_,q⟩
 ·have e1:lo+((0:Nat):Int) * 1=lo:=by simp
  have e2:(((hi-lo).toNat:Nat):Int)-((0:Nat):Int)=Builtin.Range.rangeSize lo hi 1:=by rw [rangeSize_one];split <;> omega
  show IsRangeIter _ _ (lo+((0:Nat):Int) * 1) ((((hi-lo).toNat:Nat):Int)-((0:Nat):Int)) 1
  rw [e1,e2]
  exact Heap.get?_push_size _ rfl
 ·have e:b=(s.heap.push { cls:=.type "range", data:=.fields #[.int lo t,.int hi u,.int 1 v] }).objs.size:=by simpa using hb
  subst e
  exact I1.QO (Nat.le_refl _) (I1.hok.fresh (Nat.le_refl _))
def WK (ta:TA):TI:=fun σ H R=>ta σ H fun vs H1=>∃j:Int,vs=[.int j]/\-(2 ^ 62)≤j/\j<2 ^ 62/\R (Itr 0 j.toNat) H1
def WJ (ta:TA):TI:=fun σ H R=>ta σ H fun vs H1=>∃i j:Int,vs=[.int i,.int j]/\(-(2 ^ 62)≤i/\i<2 ^ 62/\-(2 ^ 62)≤j/\j<2 ^ 62)/\R (Itr i (j-i).toNat) H1
theorem Fc {a:Expr}{ta:TA}{p pos:Pos}(hg:Gl X "range") (hm:X.mg "range" = none) (ha:PA X [a] ta) (hs:starEach [a] X.env=[(false,eval a X.env)]:=by rfl):PI X tg (.Call (.Name "range" p) [a] [] pos) (WK ta):=by
 intro pins s σ H R I h
 refine Call_ (EH I hg hm boot_range (PyProof.Rows.callWith_type1 (thn (ha pos pins s σ H _ I h) fun us s1 ⟨vs,H1,I1,r1,q1⟩=>?_) hs rfl))
 obtain ⟨j,e,q1,q2,q⟩:=q1
 subst e
 cases r1 with
 | cons r rr =>
  cases rr
  obtain ⟨t,rfl⟩:=r
  exact call_range_1 (Mm I1 (by omega) (by omega) q1 q2 (by simpa using q))
theorem Pu {a b:Expr}{ta:TA}{p pos:Pos}(hg:Gl X "range") (hm:X.mg "range" = none) (ha:PA X [a,b] ta) (hs:starEach [a,b] X.env=[(false,eval a X.env),(false,eval b X.env)]:=by rfl) (hs2:starEach [b] X.env=[(false,eval b X.env)]:=by rfl) :
  PI X tg (.Call (.Name "range" p) [a,b] [] pos) (WJ ta):=by
 intro pins s σ H R I h
 refine Call_ (EH I hg hm boot_range (PyProof.Rows.callWith_type1 (thn (ha pos pins s σ H _ I h) fun us s1 ⟨vs,H1,I1,r1,q1⟩=>?_) (by rw [hs,hs2]) (by rw [hs2];rfl)))
 obtain ⟨i,j,e,⟨q1,q2,q3,q4⟩,q⟩:=q1
 subst e
 cases r1 with
 | cons r rr =>
  cases rr with
  | cons r' rr =>
   cases rr
   obtain ⟨t,rfl⟩:=r
   obtain ⟨t',rfl⟩:=r'
   exact call_range_2 (Mm I1 q1 q2 q3 q4 q)
def We (wi:TI) (g:TG) (tb:TS):TS:=fun D σ H=>wi σ H fun J H1=>∃W:Nat→Nat→St→Hp→Prop,(∃m,W 0 m σ H1)/\∀i m σ H,W i m σ H →
 (J.stop i H/\D.nx σ H)\/(J.go i H/\∃N:St→Hp→Prop,(∀σ' H',N σ' H'→∃m',m'<m/\W (i+1) m' σ' H')/\∀x H',J.yld i H x H'→g x σ H' fun σ2 H2=>tb { D with nx:=N,ct:=N,bk:=D.nx } σ2 H2)
def JN (fp:List Addr) (h:Heap):List (Addr×Obj):=fp.filterMap fun b=>(h.get? b).map fun o=>(b,o)
theorem GB {fp:List Addr}{h:Heap}{b:Addr}{o:Obj}(hb:b∈fp) (e:h.get? b=some o):(b,o)∈JN fp h:=List.mem_filterMap.mpr ⟨b,hb,by rw [e];rfl⟩
theorem P5 {fp:List Addr}{h:Heap}{p:Addr×Obj}(hp:p∈JN fp h):p.1∈fp/\h.get? p.1=some p.2:=by
 obtain ⟨b,hb,e⟩:=List.mem_filterMap.mp hp
 cases q:h.get? b with
 | none=>rw [q] at e;cases e
 | some o =>
  rw [q] at e
  have e':(b,o)=p:=Option.some.inj e
  subst e'
  exact ⟨hb,q⟩
theorem Inv.pinned {pins:List (Addr×Obj)}{σ:St}{H:Hp}{s:Shared}{fp:List Addr}(I:Inv X pins σ H s) (hf:∀b∈fp,OV X pins H b) (ho:∀b∈fp,∃o,s.heap.get? b=some o/\∀v,o.data≠.cell v):Inv X (pins++JN fp s.heap) σ H s :=
 I.Ga fun p hp=>(List.mem_append.mp hp).elim (fun z=>I.pin p (List.mem_append_right _ z)) fun z=>by
  obtain ⟨hb,e⟩:=P5 z
  obtain ⟨f0,f1,f2,_⟩:=hf p.1 hb
  obtain ⟨o,e',d⟩:=ho p.1 hb
  rw [e] at e';cases e'
  exact ⟨e,f0,f1,f2,d⟩
theorem Inv.Ig {pins pl:List (Addr×Obj)}{σ:St}{H:Hp}{s:Shared}(I:Inv X (pins++pl) σ H s):Inv X pins σ H s:=I.Ga fun p hp=>I.pin p (List.mem_append_right _ (List.mem_append_left _ hp))
theorem BQ {iter:Expr}{body:List Stmt}{wi:TI}{g:TG}{tb:TS}{pos:Pos}(hp:PassesOwn (model X.prog X.w) X.A X.env X.xe) (hc:X.calm=true) (hi:PI X tg iter wi) (hg:PG X tg g) (hb:PSs X body tb)
  (hs:∀x,foldedSetIterable iter X.env x=pure x:=by intro _;rfl):PS X (.For tg iter body [] pos) (We wi g tb):=by
 intro pins s σ H D I h
 refine wpAny_For (thn (hi pins s σ H _ I h) fun v s1 h1=>thn h1 fun itv s2 h2=>?_) hs
 obtain ⟨it,fp,tn,J,H2,e,I2,T,st2,f2,W,⟨m0,w0⟩,turn⟩:=h2
 subst e
 have stat:∀{H':Hp},(∀b∈fp,H' b=none)→∀b∈fp,OV X pins H' b:=fun hn b hb=>⟨hn b hb,(f2 b hb).2⟩
 refine codeAny_forLoop_any (fun n s'=>∃i σ' H',Inv X pins σ' H' s'/\tn i s'.heap/\(∀b∈fp,H' b=none)/\W i n σ' H') ?_ m0 ⟨0,σ,H2,I2,st2,fun b hb=>(f2 b hb).1,w0⟩
 rintro n s3 ⟨i,σ3,H3,I3,st3,fr3,w3⟩
 rcases turn i n σ3 H3 w3 with ⟨stop,qn⟩|⟨go,N,hN,step⟩
 ·refine wpAny_passesOwn hp (thn (T.done X rfl rfl rfl hc i pins s3 σ3 H3 X.xe I3 (stat fr3) st3 stop) fun r s4 ⟨hr,I4⟩=>?_)
  subst hr
  exact wpAny_execs_nil ⟨σ3,H3,I4,qn⟩
 ·refine wpAny_passesOwn hp (thn (T.item X rfl rfl rfl hc i pins s3 σ3 H3 X.xe I3 (stat fr3) st3 go) fun r s4 ⟨u,hr,h4⟩=>?_)
  subst hr
  refine wpAny_passesOwn hp (thn h4 fun _ s5 ⟨x,H5,I5,r5,y5,st5,fr5⟩=>?_)
  have I5':=I5.pinned (stat fr5) (T.obj _ _ st5)
  refine wpAny_passesOwn hp (thn (hg _ s5 σ3 H5 x u _ I5' r5 (step x H5 y5)) fun _ s6 ⟨σ6,H6,I6,q6⟩=>?_)
  refine wpAny_passesOwn hp (thn (hb _ s6 σ6 H6 _ I6 q6) fun f s7 q7=>?_)
  have again:∀{σ7:St} {H7:Hp},Inv X (pins++JN fp s5.heap) σ7 H7 s7→N σ7 H7→∃m,m<n/\∃i σ' H',Inv X pins σ' H' s7/\tn i s7.heap/\(∀b∈fp,H' b=none)/\W i m σ' H':=fun {σ7 H7} I7 n7=>by
   obtain ⟨m',hm,w7⟩:=hN σ7 H7 n7
   refine ⟨m',hm,i+1,σ7,H7,I7.Ig,T.keep _ _ _ st5 fun b hb o e=>(I7.pin (b,o) (List.mem_append_right _ (List.mem_append_right _ (GB hb e)))).1,fun b hb=>?_,w7⟩
   obtain ⟨o,e,d⟩:=T.obj _ _ st5 b hb
   exact (I7.pin (b,o) (List.mem_append_right _ (List.mem_append_right _ (GB hb e)))).2.1
  cases f with
  | next=>obtain ⟨σ7,H7,I7,n7⟩:=q7;exact again I7 n7
  | cont=>obtain ⟨σ7,H7,I7,n7⟩:=q7;exact again I7 n7
  | brk=>obtain ⟨σ7,H7,I7,q7⟩:=q7;exact ⟨σ7,H7,I7.Ig,q7⟩
  | ret v=>obtain ⟨x7,σ7,H7,I7,r7,q7⟩:=q7;exact ⟨x7,σ7,H7,I7.Ig,r7,q7⟩
end
theorem BO {K:PySem.W.Frag}{a:Addr}{xs:List V}{g:TG}{tb:TS}{D:Ends}{σ:St}{H:Hp}(Pv:Nat→St→Hp→Prop) (h0:Pv 0 σ H) (hl:∀i σ H,i≤xs.length→Pv i σ H→SqL K H a xs)
  (hs:∀i x σ H,xs[i]?=some x→Pv i σ H→g x σ H fun σ2 H2=>tb { D with nx:=Pv (i+1),ct:=Pv (i+1),bk:=D.nx } σ2 H2) (hd:∀σ H,Pv xs.length σ H→D.nx σ H) :
  ∃W:Nat→Nat→St→Hp→Prop,(∃m,W 0 m σ H)/\∀i m σ H,W i m σ H →
   ((Itl K a).stop i H/\D.nx σ H)\/((Itl K a).go i H/\∃N:St→Hp→Prop,(∀σ' H',N σ' H'→∃m',m'<m/\W (i+1) m' σ' H')/\∀x H',(Itl K a).yld i H x H'→g x σ H' fun σ2 H2=>tb { D with nx:=N,ct:=N,bk:=D.nx } σ2 H2):=by
 refine ⟨fun i m σ H=>m=xs.length-i/\i≤xs.length/\Pv i σ H,⟨xs.length,by simp,Nat.zero_le _,h0⟩,?_⟩
 rintro i m σ H ⟨rfl,hi,p⟩
 have q:=hl i σ H hi p
 by_cases hlt:i<xs.length
 ·refine .inr ⟨⟨xs,xs[i],q,by simp [hlt]⟩,Pv (i+1),fun σ' H' p'=>⟨xs.length-(i+1),by omega,rfl,hlt,p'⟩,fun x H' y=>?_⟩
  obtain ⟨e,y⟩:=y
  subst e
  exact hs i x σ _ (y xs q) p
 ·have e:i=xs.length:=by omega
  subst e
  exact .inl ⟨⟨xs,q,Nat.le_refl _⟩,hd σ H p⟩
theorem T7 {K:PySem.W.Frag}{a:Addr}{xs:List V}{g:TG}{tb:TS}{D:Ends}{σ:St}{H:Hp}(Pv:Nat→St→Hp→Prop) (h0:Pv 0 σ H) (hl:∀i σ H,i≤xs.length→Pv i σ H→SqT K H a xs)
  (hs:∀i x σ H,xs[i]?=some x→Pv i σ H→g x σ H fun σ2 H2=>tb { D with nx:=Pv (i+1),ct:=Pv (i+1),bk:=D.nx } σ2 H2) (hd:∀σ H,Pv xs.length σ H→D.nx σ H) :
  ∃W:Nat→Nat→St→Hp→Prop,(∃m,W 0 m σ H)/\∀i m σ H,W i m σ H →
   ((Itt K a).stop i H/\D.nx σ H)\/((Itt K a).go i H/\∃N:St→Hp→Prop,(∀σ' H',N σ' H'→∃m',m'<m/\W (i+1) m' σ' H')/\∀x H',(Itt K a).yld i H x H'→g x σ H' fun σ2 H2=>tb { D with nx:=N,ct:=N,bk:=D.nx } σ2 H2):=by
 refine ⟨fun i m σ H=>m=xs.length-i/\i≤xs.length/\Pv i σ H,⟨xs.length,by simp,Nat.zero_le _,h0⟩,?_⟩
 rintro i m σ H ⟨rfl,hi,p⟩
 have q:=hl i σ H hi p
 by_cases hlt:i<xs.length
 ·refine .inr ⟨⟨xs,xs[i],q,by simp [hlt]⟩,Pv (i+1),fun σ' H' p'=>⟨xs.length-(i+1),by omega,rfl,hlt,p'⟩,fun x H' y=>?_⟩
  obtain ⟨e,y⟩:=y
  subst e
  exact hs i x σ _ (y xs q) p
 ·have e:i=xs.length:=by omega
  subst e
  exact .inl ⟨⟨xs,q,Nat.le_refl _⟩,hd σ H p⟩
theorem Fh {lo:Int}{n:Nat}{g:TG}{tb:TS}{D:Ends}{σ:St}{H:Hp}(Pv:Nat→St→Hp→Prop) (h0:Pv 0 σ H)
  (hs:∀i σ H,i<n→Pv i σ H→g (.int (lo+i)) σ H fun σ2 H2=>tb { D with nx:=Pv (i+1),ct:=Pv (i+1),bk:=D.nx } σ2 H2) (hd:∀σ H,Pv n σ H→D.nx σ H) :
  ∃W:Nat→Nat→St→Hp→Prop,(∃m,W 0 m σ H)/\∀i m σ H,W i m σ H →
   ((Itr lo n).stop i H/\D.nx σ H)\/((Itr lo n).go i H/\∃N:St→Hp→Prop,(∀σ' H',N σ' H'→∃m',m'<m/\W (i+1) m' σ' H')/\∀x H',(Itr lo n).yld i H x H'→g x σ H' fun σ2 H2=>tb { D with nx:=N,ct:=N,bk:=D.nx } σ2 H2):=by
 refine ⟨fun i m σ H=>m=n-i/\i≤n/\Pv i σ H,⟨n,by simp,Nat.zero_le _,h0⟩,?_⟩
 rintro i m σ H ⟨rfl,hi,p⟩
 by_cases hlt:i<n
 ·refine .inr ⟨hlt,Pv (i+1),fun σ' H' p'=>⟨n-(i+1),by omega,rfl,hlt,p'⟩,fun x H' y=>?_⟩
  obtain ⟨e,y⟩:=y
  subst e y
  exact hs i σ _ hlt p
 ·have e:i=n:=by omega
  subst e
  exact .inl ⟨Nat.le_refl _,hd σ H p⟩
theorem Qr {c:TT}{tb:TS}{D:Ends}{σ:St}{H:Hp}(Pv:St→Hp→Prop) (μ:St→Hp→Nat) (h0:Pv σ H)
  (hs:∀σ H,Pv σ H→c σ H fun b H1=>if b=true then tb { D with nx:=fun σ' H'=>Pv σ' H'/\μ σ' H' < μ σ H,ct:=fun σ' H'=>Pv σ' H'/\μ σ' H' < μ σ H,bk:=D.nx } σ H1 else D.nx σ H1)
  (mono:∀σ H Q Q',(∀b H1,Q b H1→Q' b H1)→c σ H Q→c σ H Q'):Q3 c tb D σ H:=by
 refine ⟨fun m σ H=>m=μ σ H/\Pv σ H,⟨_,rfl,h0⟩,?_⟩
 rintro m σ H ⟨rfl,p⟩
 refine mono σ H _ _ (fun b H1 q=>?_) (hs σ H p)
 cases b with
 | true=>exact ⟨_,fun σ' H' ⟨p',l⟩=>⟨_,l,rfl,p'⟩,q⟩
 | false=>exact q
end L2
namespace L2
open PySem PySem.Spec PyProof.Rows
abbrev R2:=V→V→Hp→VK→Prop
def OpR (X:Cx) (f:Value→Value→Sem Value) (r:R2):Prop :=
 ∀(pins:List (Addr×Obj)) (s:Shared) (σ:St) (H:Hp) (x y:V) (v u:Value) (Q:VK),Inv X pins σ H s→RelV x v→RelV y u→r x y H Q →
  wpAny (model X.prog X.w) X.A (f v u) (EP X pins σ Q) X.xe s
def UnR (X:Cx) (f:Value→Sem Value) (r:V→Hp→VK→Prop):Prop :=
 ∀(pins:List (Addr×Obj)) (s:Shared) (σ:St) (H:Hp) (x:V) (v:Value) (Q:VK),Inv X pins σ H s→RelV x v→r x H Q →
  wpAny (model X.prog X.w) X.A (f v) (EP X pins σ Q) X.xe s
def CJ (X:Cx) (f:Value) (r:List V→Hp→VK→Prop):Prop :=
 ∀(pins:List (Addr×Obj)) (s:Shared) (σ:St) (H:Hp) (xs:List V) (us:List Value) (Q:VK),Inv X pins σ H s→Vals xs us→r xs H Q →
  wpAny (model X.prog X.w) X.A (call f us) (EP X pins σ Q) X.xe s
def Wy (X:Cx) (r:V→Hp→(Bool→Hp→Prop)→Prop):Prop :=
 ∀(pins:List (Addr×Obj)) (s:Shared) (σ:St) (H:Hp) (x:V) (v:Value) (Q:Bool→Hp→Prop),Inv X pins σ H s→RelV x v→r x H Q →
  wpAny (model X.prog X.w) X.A (truthy v) (TP X pins σ Q) X.xe s
def tOp (r:R2) (ta tb:TE):TE:=fun σ H Q=>ta σ H fun x H1=>tb σ H1 fun y H2=>r x y H2 Q
def tUn (r:V→Hp→VK→Prop) (ta:TE):TE:=fun σ H Q=>ta σ H fun x H1=>r x H1 Q
def rI (C:Int→Int→Prop) (g:Int→Int→V):R2:=fun x y H Q=>∃i j,x=.int i/\y=.int j/\C i j/\Q (g i j) H
def rI0 (g:Int→Int→V):R2:=fun x y H Q=>∃i j,x=.int i/\y=.int j/\Q (g i j) H
def rU (g:Int→V):V→Hp→VK→Prop:=fun x H Q=>∃i,x=.int i/\Q (g i) H
section
variable {X:Cx}{a b c:Expr}{ta tb tc:TE}{pos:Pos}
theorem Vd (ha:PE X a ta) (hb:PE X b tb) {pins:List (Addr×Obj)}{s:Shared}{σ:St}{H:Hp}{R:V→V→Hp→Prop}(I:Inv X pins σ H s)
  (h:ta σ H fun x H1=>tb σ H1 fun y H2=>R x y H2) {Q:Value→Shared→Prop} {f:Value→Value→Sem Value}
  (hf:∀v u s2 x y H2,Inv X pins σ H2 s2→RelV x v→RelV y u→R x y H2→wpAny (model X.prog X.w) X.A (f v u) Q X.xe s2) :
  wpAny (model X.prog X.w) X.A (eval a X.env) (fun v s₁=>wpAny (model X.prog X.w) X.A (eval b X.env) (fun u s₂=>wpAny (model X.prog X.w) X.A (f v u) Q X.xe s₂) X.xe s₁) X.xe s:=by
 refine thn (ha pins s σ H _ I h) fun v s1 ⟨x,H1,I1,r1,q1⟩=>?_
 refine thn (hb pins s1 σ H1 _ I1 q1) fun u s2 ⟨y,H2,I2,r2,q2⟩=>?_
 exact hf v u s2 x y H2 I2 r1 r2 q2
theorem AG {op:Operator}{r:R2}(ho:OpR X (binaryOp op) r) (ha:PE X a ta) (hb:PE X b tb):PE X (.BinOp a op b pos) (tOp r ta tb):=by
 intro pins s σ H Q I h
 exact wpAny_BinOp (Vd ha hb I h fun v u s2 x y H2 I2 rx ry q=>ho pins s2 σ H2 x y v u Q I2 rx ry q)
theorem Ks {op:UnaryOp}{r:V→Hp→VK→Prop}(ho:UnR X (unaryOp op) r) (ha:PE X a ta):PE X (.UnaryOp op a pos) (tUn r ta):=by
 intro pins s σ H Q I h
 exact UnaryOp_ (thn (ha pins s σ H _ I h) fun v s1 ⟨x,H1,I1,r1,q1⟩=>ho pins s1 σ H1 x v Q I1 r1 q1)
theorem opI {f:Value→Value→Sem Value}{C:Int→Int→Prop}{g:Int→Int→Int}
  (rule:∀(i j:Int) (t u:Tok) (s:Shared) (Q:Value→Shared→Prop) (E:Value→Shared→Prop),C i j→Q (.int (g i j) s.toks) { s with toks:=s.toks+1 }→wpAny (model X.prog X.w) X.A (f (.int i t) (.int j u)) Q E s) :
  OpR X f (rI C fun i j=>.int (g i j)):=by
 intro pins s σ H x y v u Q I rx ry h
 obtain ⟨i,j,rfl,rfl,hc,q⟩:=h
 obtain ⟨t,rfl⟩:=rx
 obtain ⟨t',rfl⟩:=ry
 exact rule i j t t' s _ _ hc ⟨.int (g i j),H,I.tok _,⟨_,rfl⟩,q⟩
theorem WC {f:Value→Value→Sem Value}{g:Int→Int→Int}
  (rule:∀(i j:Int) (t u:Tok) (s:Shared) (Q:Value→Shared→Prop) (E:Value→Shared→Prop),Q (.int (g i j) s.toks) { s with toks:=s.toks+1 }→wpAny (model X.prog X.w) X.A (f (.int i t) (.int j u)) Q E s) :
  OpR X f (rI0 fun i j=>.int (g i j)):=by
 intro pins s σ H x y v u Q I rx ry h
 obtain ⟨i,j,rfl,rfl,q⟩:=h
 obtain ⟨t,rfl⟩:=rx
 obtain ⟨t',rfl⟩:=ry
 exact rule i j t t' s _ _ ⟨.int (g i j),H,I.tok _,⟨_,rfl⟩,q⟩
theorem VC {f:Value→Value→Sem Value}{g:Int→Int→Bool}
  (rule:∀(i j:Int) (t u:Tok) (s:Shared) (Q:Value→Shared→Prop) (E:Value→Shared→Prop),Q (.bool (g i j)) s→wpAny (model X.prog X.w) X.A (f (.int i t) (.int j u)) Q E s) :
  OpR X f (rI0 fun i j=>.bl (g i j)):=by
 intro pins s σ H x y v u Q I rx ry h
 obtain ⟨i,j,rfl,rfl,q⟩:=h
 obtain ⟨t,rfl⟩:=rx
 obtain ⟨t',rfl⟩:=ry
 exact rule i j t t' s _ _ ⟨.bl (g i j),H,I,rfl,q⟩
def WU (i j:Int):Prop:=0<j/\j<1073741824
def W3 (i j:Int):Prop:=0≤j/\j≤1000000/\i.natAbs<2 ^ 64
def UI (i j:Int):Prop:=(-(2 ^ 64)<i/\i<2 ^ 64)\/(-(2 ^ 64)<j/\j<2 ^ 64)
theorem UI.ok {i j:Int}(h:UI i j):IntMulOk i j:=by
 rcases h with ⟨h1,h2⟩|⟨h1,h2⟩
 ·exact .of_left (intBits_le_64 h1 h2)
 ·exact .of_right (intBits_le_64 h1 h2)
theorem Eh:OpR X (binaryOp .Add) (rI0 fun i j=>.int (i+j)):=WC fun _ _ _ _ _ _ _ q=>add_int q
theorem Lw:OpR X (binaryOp .Sub) (rI0 fun i j=>.int (i-j)):=WC fun _ _ _ _ _ _ _ q=>sub_int q
theorem N0:OpR X (binaryOp .Mult) (rI UI fun i j=>.int (i * j)):=opI fun _ _ _ _ _ _ _ hc q=>mul_int q hc.ok
theorem Fd:OpR X (binaryOp .FloorDiv) (rI WU fun i j=>.int (i / j)):=opI fun i j _ _ _ _ _ hc q=>by
 have h1:(0:Int)<j:=hc.1
 have h2:j<1073741824:=hc.2
 exact floordiv_int (by omega) (by rw [Int.fdiv_eq_ediv_of_nonneg i (by omega)];exact q) (.inl (PyProof.noPylong_small (by omega)))
theorem JV:OpR X (binaryOp .Mod) (rI (fun _ j=>0<j) fun i j=>.int (i % j)):=opI fun i j _ _ _ _ _ hc q=>by
 have h1:(0:Int)<j:=hc
 exact mod_int' (by omega) (by rw [Int.fmod_eq_emod_of_nonneg i (by omega)];exact q)
theorem U8:OpR X (binaryOp .Pow) (rI W3 fun i j=>.int (i ^ j.toNat)):=opI fun _ _ _ _ _ _ _ hc q=>pow_int_small hc.1 hc.2.1 hc.2.2 q
theorem unI {f:Value→Sem Value}{g:Int→Int}
  (rule:∀(i:Int) (t:Tok) (s:Shared) (Q:Value→Shared→Prop) (E:Value→Shared→Prop),Q (.int (g i) s.toks) { s with toks:=s.toks+1 }→wpAny (model X.prog X.w) X.A (f (.int i t)) Q E s) :
  UnR X f (rU fun i=>.int (g i)):=by
 intro pins s σ H x v Q I rx h
 obtain ⟨i,rfl,q⟩:=h
 obtain ⟨t,rfl⟩:=rx
 exact rule i t s _ _ ⟨.int (g i),H,I.tok _,⟨_,rfl⟩,q⟩
theorem LX:UnR X (unaryOp .USub) (rU fun i=>.int (-i)):=unI fun _ _ _ _ _ q=>neg_int q
end
def Vz:V→V→Bool
 | .non,.non=>true|.non,.int _=>true|.int _,.non=>true|.non,.bl _=>true|.bl _,.non=>true|.non,.str _=>true|.str _,.non=>true
 | .int _,.int _=>true|.bl _,.bl _=>true|.str _,.str _=>true|.byt _,.byt _=>true
 | .int _,.str _=>true|.str _,.int _=>true|.bl _,.str _=>true|.str _,.bl _=>true
 | _,_=>false
def rEq:R2:=fun x y H Q=>Vz x y=true/\Q (.bl (decide (x=y))) H
def rNe:R2:=fun x y H Q=>Vz x y=true/\Q (.bl (!decide (x=y))) H
theorem O7 {i j:Int}:decide (V.int i=V.int j)=(i==j):=by
 rw [Bool.eq_iff_iff]
 simp
theorem Sh {i j:Bool}:decide (V.bl i=V.bl j)=(i==j):=by
 rw [Bool.eq_iff_iff]
 simp
theorem O6 {i j:Str}:decide (V.str i=V.str j)=(i==j):=by
 rw [Bool.eq_iff_iff]
 simp
theorem O8 {i j:Array UInt8}:decide (V.byt i=V.byt j)=(i.toList==j.toList):=by
 rw [Bool.eq_iff_iff]
 cases i
 cases j
 simp
section
variable {X:Cx}{a b c:Expr}{ta tb tc:TE}{pos:Pos}
theorem Aw {pins:List (Addr×Obj)}{σ:St}{H:Hp}{s:Shared}{Q:VK}{k k':Bool}(I:Inv X pins σ H s) (q:Q (.bl k) H) (e:k=k'):EP X pins σ Q (.bool k') s:=by
 subst e
 exact ⟨.bl k,H,I,rfl,q⟩
theorem BE:OpR X (compareOp .Eq) rEq:=by
 intro pins s σ H x y v u Q I rx ry h
 obtain ⟨hs,q⟩:=h
 cases x with
 | non =>
  cases rx
  cases y with
  | non=>cases ry;exact PySem.EqNone.eq_none_none (Aw I q (by simp))
  | bl j=>cases ry;exact PySem.EqNone.eq_none_bool (Aw I q (by simp))
  | int j=>obtain ⟨t',rfl⟩:=ry;exact PySem.EqNone.eq_none_int (Aw I q (by simp))
  | str j=>obtain ⟨t',rfl⟩:=ry;exact PySem.EqNone.eq_none_str (Aw I q (by simp))
  | _=>exact absurd (show false=true from hs) Bool.false_ne_true
 | bl i =>
  cases rx
  cases y with
  | non=>cases ry;exact PySem.EqNone.eq_bool_none (Aw I q (by simp))
  | bl j=>cases ry;exact eq_bool (Aw I q Sh)
  | str j=>obtain ⟨t',rfl⟩:=ry;exact PySem.EqMixed.eq_bool_str (Aw I q (by simp))
  | _=>exact absurd (show false=true from hs) Bool.false_ne_true
 | int i =>
  obtain ⟨t,rfl⟩:=rx
  cases y with
  | non=>cases ry;exact PySem.EqNone.eq_int_none (Aw I q (by simp))
  | int j=>obtain ⟨t',rfl⟩:=ry;exact eq_int (Aw I q O7)
  | str j=>obtain ⟨t',rfl⟩:=ry;exact PySem.EqMixed.eq_int_str (Aw I q (by simp))
  | _=>exact absurd (show false=true from hs) Bool.false_ne_true
 | str i =>
  obtain ⟨t,rfl⟩:=rx
  cases y with
  | non=>cases ry;exact PySem.EqNone.eq_str_none (Aw I q (by simp))
  | bl j=>cases ry;exact PySem.EqMixed.eq_str_bool (Aw I q (by simp))
  | int j=>obtain ⟨t',rfl⟩:=ry;exact PySem.EqMixed.eq_str_int (Aw I q (by simp))
  | str j=>obtain ⟨t',rfl⟩:=ry;exact eq_str (Aw I q O6)
  | _=>exact absurd (show false=true from hs) Bool.false_ne_true
 | byt i =>
  obtain ⟨t,rfl⟩:=rx
  cases y with
  | byt j=>obtain ⟨t',rfl⟩:=ry;exact PySem.W.eq_bytes (Aw I q O8)
  | _=>exact absurd (show false=true from hs) Bool.false_ne_true
 | _=>cases y <;> exact absurd (show false=true from hs) Bool.false_ne_true
theorem UT:OpR X (compareOp .NotEq) rNe:=by
 intro pins s σ H x y v u Q I rx ry h
 obtain ⟨hs,q⟩:=h
 cases x with
 | non =>
  cases rx
  cases y with
  | non=>cases ry;exact PySem.EqNone.ne_none_none (Aw I q (by simp))
  | bl j=>cases ry;exact PySem.EqNone.ne_none_bool (Aw I q (by simp))
  | int j=>obtain ⟨t',rfl⟩:=ry;exact PySem.EqNone.ne_none_int (Aw I q (by simp))
  | str j=>obtain ⟨t',rfl⟩:=ry;exact PySem.EqNone.ne_none_str (Aw I q (by simp))
  | _=>exact absurd (show false=true from hs) Bool.false_ne_true
 | bl i =>
  cases rx
  cases y with
  | non=>cases ry;exact PySem.EqNone.ne_bool_none (Aw I q (by simp))
  | bl j=>cases ry;exact ne_bool (Aw I q (congrArg not Sh))
  | str j=>obtain ⟨t',rfl⟩:=ry;exact PySem.EqMixed.ne_bool_str (Aw I q (by simp))
  | _=>exact absurd (show false=true from hs) Bool.false_ne_true
 | int i =>
  obtain ⟨t,rfl⟩:=rx
  cases y with
  | non=>cases ry;exact PySem.EqNone.ne_int_none (Aw I q (by simp))
  | int j=>obtain ⟨t',rfl⟩:=ry;exact ne_int (Aw I q (congrArg not O7))
  | str j=>obtain ⟨t',rfl⟩:=ry;exact PySem.EqMixed.ne_int_str (Aw I q (by simp))
  | _=>exact absurd (show false=true from hs) Bool.false_ne_true
 | str i =>
  obtain ⟨t,rfl⟩:=rx
  cases y with
  | non=>cases ry;exact PySem.EqNone.ne_str_none (Aw I q (by simp))
  | bl j=>cases ry;exact PySem.EqMixed.ne_str_bool (Aw I q (by simp))
  | int j=>obtain ⟨t',rfl⟩:=ry;exact PySem.EqMixed.ne_str_int (Aw I q (by simp))
  | str j=>obtain ⟨t',rfl⟩:=ry;exact ne_str (Aw I q (congrArg not O6))
  | _=>exact absurd (show false=true from hs) Bool.false_ne_true
 | byt i =>
  obtain ⟨t,rfl⟩:=rx
  cases y with
  | byt j=>obtain ⟨t',rfl⟩:=ry;exact PySem.W.ne_bytes (Aw I q (congrArg not O8))
  | _=>exact absurd (show false=true from hs) Bool.false_ne_true
 | _=>cases y <;> exact absurd (show false=true from hs) Bool.false_ne_true
theorem Ro:OpR X (compareOp .Lt) (rI0 fun i j=>.bl (decide (i<j))):=VC fun _ _ _ _ _ _ _ q=>lt_int q
theorem WB:OpR X (compareOp .LtE) (rI0 fun i j=>.bl (decide (i≤j))):=VC fun _ _ _ _ _ _ _ q=>le_int q
theorem UU:OpR X (compareOp .Gt) (rI0 fun i j=>.bl (decide (j<i))):=VC fun _ _ _ _ _ _ _ q=>gt_int q
theorem Ab (b:Expr) {op:CmpOp}(h:op≠.In:=by decide) (h2:op≠.NotIn:=by decide):behindInMarks op b=false:=by
 have e1:(op==CmpOp.In)=false:=by cases op <;> first|rfl|exact absurd rfl h
 have e2:(op==CmpOp.NotIn)=false:=by cases op <;> first|rfl|exact absurd rfl h2
 cases b <;> simp [behindInMarks,e1,e2]
theorem Gd {op:CmpOp}{r:R2}(ho:OpR X (compareOp op) r) (ha:PE X a ta) (hb:PE X b tb) (hm:behindInMarks op b=false):PE X (.Compare a [op] [b] pos) (tOp r ta tb):=by
 intro pins s σ H Q I h
 exact wpAny_Compare1 (Vd ha hb I h fun v u s2 x y H2 I2 rx ry q=>ho pins s2 σ H2 x y v u Q I2 rx ry q) hm
def UL (t:TE):TT:=fun σ H Q=>t σ H fun x H'=>∃k,x=.bl k/\Q k H'
theorem AR {op:CmpOp}{r:R2}(ho:OpR X (compareOp op) r) (ha:PE X a ta) (hb:PE X b tb) (hm:behindInMarks op b=false):PT X (.Compare a [op] [b] pos) (UL (tOp r ta tb)):=by
 intro pins s σ H Q I h
 refine wpAny_isTrue_Compare1 (thn (ha pins s σ H _ I h) fun v s1 ⟨x,H1,I1,r1,q1⟩=>thn (hb pins s1 σ H1 _ I1 q1) fun u s2 ⟨y,H2,I2,r2,q2⟩ =>
  thn (ho pins s2 σ H2 x y v u _ I2 r1 r2 q2) fun c s3 ⟨z,H3,I3,r3,k,e,q3⟩=>?_) hm
 subst e
 cases r3
 exact wpAny_truthy_bool ⟨H3,I3,q3⟩
def Ug (r r':R2) (ta tb tc:TE):TE:=fun σ H Q=>ta σ H fun x H1=>tb σ H1 fun y H2=>r x y H2 fun z H3=>∃k,z=.bl k /\
 (if k=true then tc σ H3 fun w' H4=>r' y w' H4 Q else Q (.bl false) H3)
theorem JL {op op':CmpOp}{r r':R2}(ho:OpR X (compareOp op) r) (ho':OpR X (compareOp op') r') (ha:PE X a ta) (hb:PE X b tb) (hc:PE X c tc)
  (hm:lastMarks [op,op'] [b,c]=false:=by with_unfolding_all rfl):PT X (.Compare a [op,op'] [b,c] pos) (UL (Ug r r' ta tb tc)):=by
 intro pins s σ H Q I h
 refine isTrue_chain (thn (ha pins s σ H _ I h) fun v s1 ⟨x,H1,I1,r1,q1⟩=>test_link (thn (hb pins s1 σ H1 _ I1 q1) fun u s2 ⟨y,H2,I2,r2,q2⟩ =>
  thn (ho pins s2 σ H2 x y v u _ I2 r1 r2 q2) fun d s3 ⟨z,H3,I3,r3,k,e,q3⟩=>?_)) hm
 subst e
 cases r3
 refine wpAny_truthy_bool ?_
 cases k with
 | false =>
  obtain ⟨k',e',q'⟩:=q3
  cases e'
  exact ite_ff ⟨H3,I3,q'⟩
 | true =>
  refine ite_tt (test_last (thn (hc pins s3 σ H3 _ I3 q3) fun w' s4 ⟨z',H4,I4,r4,q4⟩=>thn (ho' pins s4 σ H4 y z' u w' _ I4 r2 r4 q4) fun d' s5 ⟨z2,H5,I5,r5,k2,e2,q5⟩=>?_))
  subst e2
  cases r5
  exact wpAny_truthy_bool ⟨H5,I5,q5⟩
theorem Jm:(sizeLine:Nat)<2 ^ 63:=by rw [sizeLine_eq];decide
theorem F9:OpR X (binaryOp .Add) (fun x y H Q=>∃i j,x=.str i/\y=.str j/\i.length+j.length≤sizeLine/\Q (.str (i++j)) H):=by
 intro pins s σ H x y v u Q I rx ry h
 obtain ⟨i,j,rfl,rfl,hz,q⟩:=h
 obtain ⟨t,rfl⟩:=rx
 obtain ⟨t',rfl⟩:=ry
 exact add_str (fun t' tk=>⟨.str (i++j),H,I.tok _,⟨_,rfl⟩,q⟩) hz
theorem vals1 {x:V}{us:List Value}(r:Vals [x] us):∃u,us=[u]/\RelV x u:=by
 cases r with
 | cons r1 r2=>cases r2;exact ⟨_,rfl,r1⟩
theorem vals2 {x y:V}{us:List Value}(r:Vals [x,y] us):∃u w',us=[u,w']/\RelV x u/\RelV y w':=by
 cases r with
 | cons r1 r2 =>
  cases r2 with
  | cons r3 r4=>cases r4;exact ⟨_,_,rfl,r1,r3⟩
theorem LI (hc:X.calm=true):CJ X (.builtin "max") (fun xs H Q=>∃i j,xs=[.int i,.int j]/\Q (.int (if j > i then j else i)) H):=by
 intro pins s σ H xs us Q I r h
 obtain ⟨i,j,rfl,q⟩:=h
 obtain ⟨u,w',rfl,⟨t,rfl⟩,⟨t',rfl⟩⟩:=vals2 r
 refine max_two_ints (I.ok.hd hc) fun h' tk k=>⟨_,H,I.kept k,?_,q⟩
 by_cases hj:j > i
 ·rw [if_pos hj,if_pos hj];exact ⟨_,rfl⟩
 ·rw [if_neg hj,if_neg hj];exact ⟨_,rfl⟩
theorem Qd (hc:X.calm=true):CJ X (.builtin "min") (fun xs H Q=>∃i j,xs=[.int i,.int j]/\Q (.int (if j<i then j else i)) H):=by
 intro pins s σ H xs us Q I r h
 obtain ⟨i,j,rfl,q⟩:=h
 obtain ⟨u,w',rfl,⟨t,rfl⟩,⟨t',rfl⟩⟩:=vals2 r
 refine min_two_ints (I.ok.hd hc) fun h' tk k=>⟨_,H,I.kept k,?_,q⟩
 by_cases hj:j<i
 ·rw [if_pos hj,if_pos hj];exact ⟨_,rfl⟩
 ·rw [if_neg hj,if_neg hj];exact ⟨_,rfl⟩
theorem Hj:CJ X (.type "int") (fun xs H Q=>(∃i,xs=[.int i]/\Q (.int i) H)\/∃k,xs=[.bl k]/\Q (.int (if k then 1 else 0)) H):=by
 intro pins s σ H xs us Q I r h
 rcases h with ⟨i,rfl,q⟩|⟨k,rfl,q⟩
 ·obtain ⟨u,rfl,t,rfl⟩:=vals1 r
  exact call_int_int ⟨.int i,H,I,⟨_,rfl⟩,q⟩
 ·obtain ⟨u,rfl,r1⟩:=vals1 r
  cases r1
  exact call_int_bool ⟨.int (if k then 1 else 0),H,I.tok _,⟨_,rfl⟩,q⟩
end
end L2
namespace L2
open PySem PySem.Spec PyProof.Rows
structure Ve (h:Heap) (x dx C:Addr) (mA:Str→Option Value):Prop where
 obj:h.get? x=some (PySem.W.instObj C dx)
 ns:h.Ns1 dx mA
 ne:dx≠x
theorem QH {h:Heap}{dx:Addr}{mA:Str→Option Value}(n:h.Ns1 dx mA):∃od,h.get? dx=some od/\∀name,PySem.W.lookIn name od=some (mA name):=by
 obtain ⟨o,es,ep,ho,hd,hk,_,hm⟩:=n
 refine ⟨o,ho,fun name=>?_⟩
 have e:=hm name
 unfold nsFind findBy at e
 rw [←Array.find?_toList] at e
 unfold PySem.W.lookIn
 rw [hd]
 dsimp only
 split
 ·rename_i y q
  rw [q] at e
  exact congrArg some e
 ·rename_i q
  rw [q] at e
  have a:es.toList.any (·.refKey)=false:=by
   rw [List.any_eq_false]
   intro y hy
   obtain ⟨z,t,hkey⟩:=hk y (Array.mem_toList_iff.mp hy)
   simp [DictEntry.refKey,hkey]
  have a':¬ es.toList.any (·.refKey)=true:=by rw [a];exact Bool.false_ne_true
  rw [if_neg a']
  exact congrArg some e
theorem Ve.look {h:Heap}{x dx C:Addr}{mA:Str→Option Value}(I:Ve h x dx C mA):∃od,PySem.W.InstAt h x (PySem.W.instObj C dx) C (some od)/\∀name,PySem.W.lookIn name od=some (mA name) :=
 let ⟨od,ho,hl⟩:=QH I.ns
 ⟨od,⟨I.obj,rfl,rfl,ho⟩,hl⟩
section
variable {prog:Program}{w:World}{A:Around}{E:Value→Shared→Prop}{s:Shared}{K:PySem.W.Frag}{x dx C f:Addr}{mA:Str→Option Value}{name:Str}{v:Value}
end
theorem E6.some_of {v:V}{o:Option Value}(r:E6 (some v) o):∃u,o=some u/\RelV v u:=by
 cases o with
 | none=>exact (show False from r).elim
 | some u=>exact ⟨u,rfl,r⟩
theorem E6.none_of {o:Option Value}(r:E6 none o):o=none:=by
 cases o with
 | none=>rfl
 | some u=>exact (show False from r).elim
section
variable {P:Program}{w:World}{H H':Hp}{h h':Heap}{a C dx:Addr}{fs fs':List (Str×V)}
theorem T5 (hok:HOk P w H h) (e:H a=some (.ins C dx fs)):∃mA,Ve h a dx C mA/\(∀f,E6 (fs.lookup f) (mA f))/\PySem.Within mA (fs.map (·.1))/\fs.length≤1000/\H dx=some (.own a):=by
 obtain ⟨d,z,ne,ob,mA,n,r,q⟩:=(show BB P w H h a (.ins C dx fs) from hok a _ e)
 exact ⟨mA,⟨ob,n,ne⟩,r,q,z,d⟩
end
structure Cls (K:PySem.W.Frag) (C:Addr):Prop where
 pg:PySem.W.plainGet K C Str.empty=true
 hd:PySem.W.hasDictIn K C=true
 po:PySem.W.plainOver K C=true
 sa:PySem.W.findIn K (.ref C) "__setattr__" = some (some (.builtin "object.__setattr__"))
theorem Cls.get {K:PySem.W.Frag}{C:Addr}(c:Cls K C) (f:Str):PySem.W.plainGet K C f=true:=c.pg
structure Con (K:PySem.W.Frag) (C:Addr) (f:Str) (v:V) (u:Value):Prop where
 at_:PySem.W.findIn K (.ref C) f=some (some u)
 rel:RelV v u
 get:PySem.W.specialIn K u "__get__" = some none
 cp:PySem.W.copiedNames.contains f=false
structure Meth (K:PySem.W.Frag) (C:Addr) (m:Str) (f:Addr):Prop where
 at_:PySem.W.findIn K (.ref C) m=some (some (.ref f))
 fn:PySem.W.isFn K (.ref f)=true
 kp:PySem.W.keepIn K (.ref f)=true
section
variable {X:Cx}{pins:List (Addr×Obj)}{σ:St}{H:Hp}{s:Shared}{a C dx:Addr}{fs:List (Str×V)}{f:Str}{v:V}{A:Around}{E:Value→Shared→Prop}
end
section
variable {X:Cx}{o e value:Expr}{f:Str}{pos pos' tpos:Pos}{ta tv:TE}
end
section
variable {X:Cx}{pins:List (Addr×Obj)}{σ:St}{H:Hp}{s:Shared}{A:Around}{E:Value→Shared→Prop}{Q:Value→Shared→Prop}{c:Value}{b:Bool}
inductive Hm (K:PySem.W.Frag) (H:Hp):V→Value→Prop where
 | non:Hm K H .non (.type "NoneType")
 | bl (x:Bool):Hm K H (.bl x) (.type "bool")
 | int (i:Int):Hm K H (.int i) (.type "int")
 | str (x:Str):Hm K H (.str x) (.type "str")
 | flt (x:UInt64):Hm K H (.flt x) (.type "float")
 | lst {a:Addr} {xs:List V} (e:H a=some (.lst xs)):Hm K H (.ref a) (.type "list")
 | frz {a:Addr} {o:Obj} {xs:List V} (e:H a=some (.frz o (.lst xs))):Hm K H (.ref a) (.type "list")
 | tup {a:Addr} {xs:List V} (e:H a=some (.tup xs)):Hm K H (.ref a) (.type "tuple")
 | dK {a:Addr} {kvs:List (Key×V)} (e:H a=some (.dK kvs)):Hm K H (.ref a) (.type "dict")
 | dT {a:Addr} {kvs:List (List Key×V)} (e:H a=some (.dT kvs)):Hm K H (.ref a) (.type "dict")
 | ins {a C dx:Addr} {fs:List (Str×V)} (e:H a=some (.ins C dx fs)) (cl:Cls K C) (ha:PySem.W.findIn K (.ref C) "__class__" = some (some (.builtin "object.__class__")))
   (hn:PySem.W.specialIn K (.builtin "object.__class__") "__get__" = some (some (.builtin "getset_descriptor.__get__"))) (htk:PySem.W.takesIn K (.builtin "object.__class__")=some true)
   (hm:PySem.W.mroIn K C (.type "object")=some true):Hm K H (.ref a) (.ref C)
theorem QK {x:V} {u t:Value} (I:Inv X pins σ H s) (rx:RelV x u) (ty:Hm X.K H x t) (e:PySem.W.kitOne X.K t c=some b) (h:∀tk,Q (.bool b) { s with toks:=tk }) :
  wpAny (model X.prog X.w) A (call (.builtin "isinstance") [u,c]) Q E s:=by
 cases ty with
 | non=>cases (show u=Value.none from rx);exact PySem.W.kia_one PySem.W.kitx_none I.kIn True.intro e (fun z=>nomatch z) h
 | bl y=>cases (show u=Value.bool y from rx);exact PySem.W.kia_one PySem.W.kitx_bool I.kIn True.intro e (fun z=>nomatch z) h
 | int i=>obtain ⟨t,q⟩:=(show ∃t,u=Value.int i t from rx);cases q;exact PySem.W.kia_one PySem.W.kitx_int I.kIn True.intro e (fun z=>nomatch z) h
 | str y=>obtain ⟨t,q⟩:=(show ∃t,u=Value.str y t from rx);cases q;exact PySem.W.kia_one PySem.W.kitx_str I.kIn True.intro e (fun z=>nomatch z) h
 | flt y=>obtain ⟨t,q⟩:=(show ∃t,u=Value.float y t from rx);cases q;exact PySem.W.kia_one PySem.W.kitx_float I.kIn True.intro e (fun z=>nomatch z) h
 | @lst a xs ea =>
  cases (show u=Value.ref a from rx)
  obtain ⟨_,_,n,_,h1⟩:=(show BB X.prog X.w H s.heap a (.lst xs) from I.hok a _ ea)
  exact PySem.W.kia_one PySem.W.kitx_list I.kIn ⟨_,h1,rfl⟩ e (fun z=>nomatch z) h
 | @frz a ob xs ea =>
  cases (show u=Value.ref a from rx)
  obtain ⟨_,_,_,n,_,h1⟩:=(show BB X.prog X.w H s.heap a (.frz ob (.lst xs)) from I.hok a _ ea)
  exact PySem.W.kia_one PySem.W.kitx_list I.kIn ⟨_,h1,rfl⟩ e (fun z=>nomatch z) h
 | @tup a xs ea =>
  cases (show u=Value.ref a from rx)
  obtain ⟨_,_,_,p⟩:=(show BB X.prog X.w H s.heap a (.tup xs) from I.hok a _ ea)
  obtain ⟨o,h1,h2,_⟩:=p
  exact PySem.W.kia_one PySem.W.kitx_tuple I.kIn ⟨o,h1,h2⟩ e (fun z=>nomatch z) h
 | @dK a kvs ea =>
  cases (show u=Value.ref a from rx)
  obtain ⟨_,_,vs,_,p⟩:=(show BB X.prog X.w H s.heap a (.dK kvs) from I.hok a _ ea)
  obtain ⟨o,es,ep,h1,h2,_⟩:=p
  exact PySem.W.kia_one PySem.W.kitx_dict I.kIn ⟨o,h1,h2.1⟩ e (fun z=>nomatch z) h
 | @dT a kvs ea =>
  cases (show u=Value.ref a from rx)
  obtain ⟨_,_,xs,_,o,es,ep,h1,h2,_⟩:=(show BB X.prog X.w H s.heap a (.dT kvs) from I.hok a _ ea)
  exact PySem.W.kia_one PySem.W.kitx_dict I.kIn ⟨o,h1,h2.1⟩ e (fun z=>nomatch z) h
 | @ins a C dx fs ea cl ha hn htk hm =>
  cases (show u=Value.ref a from rx)
  obtain ⟨mA,O,_⟩:=T5 I.hok ea
  obtain ⟨od,J,_⟩:=O.look
  exact PySem.W.kia_one (PySem.W.kitx_own (cl.get _) cl.hd ha hn htk hm) I.kIn J e (fun z=>nomatch z) h
end
end L2
namespace L2
open PySem PySem.Spec PyProof.Rows
structure DC (k:Nat) (A:Around):Prop where
 hd:A.handled=none
 dp:A.depth+3 * k+5<recursionLimit
 un:A.units+16 * k+200<cLine
theorem DC.mono {j k:Nat}{A:Around}(r:DC k A) (h:j≤k):DC j A:=⟨r.hd,by have:=r.dp;omega,by have:=r.un;omega⟩
theorem DC.deeper {k:Nat}{A:Around}(r:DC (k+1) A) (env:Env):DC k (A.deeper env) :=
 ⟨r.hd,by have:=r.dp;show A.depth+1+3 * k+5<_;omega,by have:=r.un;show A.units+3+16 * k+200<_;omega⟩
theorem DC.depth {k:Nat}{A:Around}(r:DC k A):A.depth<recursionLimit:=by have:=r.dp;omega
theorem DC.units {k:Nat}{A:Around}(r:DC k A):A.units+64<cLine:=by have:=r.un;omega
theorem DC.Ih {k:Nat}{A:Around}(r:DC k A):A.units<cLine:=by have:=r.un;omega
def Wa:TA:=fun _ H Q=>Q [] H
def Vr (ta:TE) (tr:TA):TA:=fun σ H Q=>ta σ H fun x H1=>tr σ H1 fun xs H2=>Q (x::xs) H2
section
variable {X:Cx}{e:Expr}{es:List Expr}{te:TE}{t:TA}{pos:Pos}
theorem AD:PA X [] Wa:=fun _ _ _ _ H Q I h=>Calls.spliced_nil ⟨[],H,I,.nil,h⟩
theorem AA (ha:PE X e te) (hr:PA X es t) (hs:starEach (e::es) X.env=(false,eval e X.env)::starEach es X.env:=by rfl):PA X (e::es) (Vr te t):=by
 intro pos pins s σ H Q I h
 rw [hs]
 show wpAny _ _ (spliced ((false,eval e X.env)::backTo pos (starEach es X.env))) _ _ s
 refine Calls.spliced_cons (thn (ha pins s σ H _ I h) fun u s1 ⟨x,H1,I1,r1,q1⟩=>?_)
 exact thn (hr pos pins s1 σ H1 _ I1 q1) fun us s2 ⟨xs,H2,I2,r2,q2⟩=>⟨x::xs,H2,I2,.cons r1 r2,q2⟩
def WW (t:TA):TE:=fun σ H Q=>t σ H fun xs H1=>xs.length≤sizeLine/\∀p,H1 p=none→Q (.ref p) (upd H1 p (.tup xs))
def Wb (t:TA):TE:=fun σ H Q=>t σ H fun xs H1=>xs.length≤sizeLine/\∀p,H1 p=none→Q (.ref p) (upd H1 p (.lst xs))
theorem Am {x1}(h:PA X es t):PE X (.Tuple es x1 pos) (WW t):=by
 intro pins s σ H Q I hq
 refine wpAny_Tuple_spliced (thn (h pos pins s σ H _ I hq) fun us s1 ⟨xs,H1,I1,r,z,q⟩=>⟨by rw [←r.length];exact z,?_⟩)
 have hf:H1 s1.heap.objs.size=none:=I1.hok.fresh (Nat.le_refl _)
 refine ⟨.ref s1.heap.objs.size,upd H1 s1.heap.objs.size (.tup xs),I1.laid (t':=s1.toks) (fun b u e=>Heap.get?_push_of_some _ e) (Nat.le_refl _) ?_,rfl,q _ hf⟩
 exact ⟨z,us,r,⟨_,Heap.get?_push_size _ rfl,rfl,_,rfl⟩⟩
theorem Ao (h:PA X es t):PE X (.List es pos) (Wb t):=by
 intro pins s σ H Q I hq
 refine wpAny_List_spliced (thn (h pos pins s σ H _ I hq) fun us s1 ⟨xs,H1,I1,r,z,q⟩=>⟨by rw [←r.length];exact z,?_⟩)
 have hf:H1 s1.heap.objs.size=none:=I1.hok.fresh (Nat.le_refl _)
 refine ⟨.ref s1.heap.objs.size,upd H1 s1.heap.objs.size (.lst xs),I1.laid (t':=s1.toks) (fun b u e=>Heap.get?_push_of_some _ e) (Nat.le_refl _) ?_,rfl,q _ hf⟩
 exact ⟨z,us,0,r,Heap.get?_push_size _ rfl⟩
end
abbrev Sp:=List V→Hp→VK→XK→Prop
abbrev CXT:=List Env→Hp→Shared→XK→Value→Shared→Prop
structure UH (P:Program) (w:World) (K:PySem.W.Frag) (mg:Str→Option Value) (base:Heap) (A:Around) (outer:List Env) (s:Shared) (H:Hp):Prop where
 frames:A.frames=some outer
 mod:Mod K mg base
 bs:∀b o,base.get? b=some o→s.heap.get? b=some o/\H b=none
 bsz:base.objs.size≤s.heap.objs.size
 IG:s.heap.FunFrames base outer
 frf:∀b∈frs outer,H b=none
 hok:HOk P w H s.heap
 bare:AllBare s.gens
def CE (outer:List Env) (P:Program) (w:World) (H:Hp) (s:Shared) (Q:VK) (u:Value) (s':Shared):Prop :=
 ∃v H',s'.os=s.os/\AllBare s'.gens/\Un (frs outer) [] H H' s.heap s'.heap/\HOk P w H' s'.heap/\RelV v u/\Q v H'
def CR (CX:CXT) (outer:List Env) (P:Program) (w:World) (H:Hp) (s:Shared) (Q:VK) (E:XK) (r:Result) (s':Shared):Prop :=
 match r with
 | .ok (.ret u)=>CE outer P w H s Q u s'
 | .ok _=>False
 | .error e=>CX outer H s E e s'
structure BM (P:Program) (w:World) (K:PySem.W.Frag) (mg:Str→Option Value) (base:Heap) (CX:CXT) (k:Nat) (f:Addr) (fd:FuncData) (ps:List Str) (sp:Sp):Prop where
 len:∀vs H Q E,sp vs H Q E→vs.length=ps.length
 run:∀(A:Around) (outer:List Env) (s:Shared) (H:Hp) (args:Args) (us:List Value) (vs:List V) (Q:VK) (E:XK),DC k A→UH P w K mg base A outer s H→BindsTo s fd args (ps.zip us)→Vals vs us→sp vs H Q E →
  codeAny (model P w) A (.call (.ref f) args) (CR CX outer P w H s Q E) s
section
variable {X:Cx}{pins:List (Addr×Obj)}{σ:St}{H:Hp}{s s':Shared}
theorem Inv.Wv (I:Inv X pins σ H s):UH X.prog X.w X.K X.mg X.base X.A X.stack s H :=
 ⟨I.ok.frames,I.ok.mod,I.bs,Nat.le_trans I.ok.bsz I.sz,I.stack,I.Oa,I.hok,I.bare⟩
theorem Inv.after {Q:VK}{u:Value}(I:Inv X pins σ H s) (h:CE X.stack X.prog X.w H s Q u s'):EP X pins σ Q u s':=by
 obtain ⟨v,H',os,bare,un,hok,r,q⟩:=h
 obtain ⟨hh,g,d,t,os'⟩:=s'
 obtain rfl:os'=s.os:=os
 exact ⟨v,H',I.call (h':=hh) (g':=g) (d':=d) (t':=t) (ch:=[]) un hok bare (fun b z=>absurd z (by simp)),r,q⟩
end
def UM (sp:Sp) (dvs:List V) (E:XK) (t:TA):TE:=fun σ H Q=>t σ H fun vs H1=>sp (vs++dvs) H1 Q E
def Binds (K:PySem.W.Frag) (fd:FuncData) (ps:List Str) (ds:List Value):Prop :=
 ∀(s:Shared) (us:List Value),K.In s.heap→(us++ds).length=ps.length→BindsTo s fd ⟨us,[]⟩ (ps.zip (us++ds))
theorem Binds.all {K:PySem.W.Frag}{fd:FuncData}{ps:List Str}(h:∀us:List Value,us.length=ps.length→bindArgs fd ⟨us,[]⟩=pure (ps.zip us)):Binds K fd ps []:=fun s us _ hl=>by
 rw [List.append_nil] at hl ⊢
 exact .of_eq (h us hl)
def Passes (CX:CXT) (X:Cx) (E:XK):Prop:=∀(pins:List (Addr×Obj)) (σ:St) (H:Hp) (s:Shared) (e:Value) (s':Shared),Inv X pins σ H s→CX X.stack H s E e s'→X.xe e s'
section
variable {X:Cx}{CX:CXT}{k:Nat}{f C:Addr}{fd:FuncData}{ps:List Str}{sp:Sp}{dvs:List V}{ds:List Value}{E:XK}{x m:Str}{p pos apos:Pos}{e o:Expr}{es:List Expr}{ta:TE}{t:TA}
theorem Uv {pins:List (Addr×Obj)}{σ:St}{H:Hp}{s:Shared}{Q:VK}{us:List Value}{vs:List V}(F:BM X.prog X.w X.K X.mg X.base CX k f fd ps sp) (hr:DC k X.A) (hb:Binds X.K fd ps ds) (hd:Vals dvs ds) (hx:Passes CX X E)
  (I:Inv X pins σ H s) (r:Vals vs us) (h:sp (vs++dvs) H Q E):wpAny (model X.prog X.w) X.A (call (.ref f) us) (EP X pins σ Q) X.xe s:=by
 have r2:Vals (vs++dvs) (us++ds):=r.append hd
 have hl:(us++ds).length=ps.length:=by rw [←r2.length];exact F.len _ _ _ _ h
 refine wpAny_call (codeAny_mono (F.run X.A X.stack s H ⟨us,[]⟩ (us++ds) (vs++dvs) Q E hr I.Wv (hb s us I.kIn hl) r2 h) fun r s' hq=>?_)
 cases r with
 | error e=>exact hx pins σ H s e s' I hq
 | ok fl =>
  cases fl with
  | ret u=>exact I.after hq
  | next=>exact False.elim hq
  | brk=>exact False.elim hq
  | cont=>exact False.elim hq
theorem Lv (F:BM X.prog X.w X.K X.mg X.base CX k f fd ps sp) (hr:DC k X.A) (hg:Gl X x) (hm:X.mg x=some (.ref f)) (hk:PySem.W.keepIn X.K (.ref f)=true) (hb:Binds X.K fd ps ds) (hd:Vals dvs ds) (hx:Passes CX X E)
  (ha:PA X (e::es) t) (hdb:(x==("__debug__" : Str))=false:=by decide) (he:starEach (e::es) X.env=(false,eval e X.env)::starEach es X.env:=by rfl) (hpl:(backTo pos (starEach es X.env)).any (·.1)=false:=by rfl) :
  PE X (.Call (.Name x p) (e::es) [] pos) (UM sp dvs E t):=by
 intro pins s σ H Q I h
 refine wpAny_Call_Name_kw (Ow I hg hm ?_ hdb)
 refine PySem.W.callWith_K (h₀:=X.base) I.ok.mod.kin hk (thn (ha pos pins s σ H _ I h) fun us s1 ⟨vs,H1,I1,r,q⟩=>⟨I1.kIn,?_⟩) he hpl
 exact Uv F hr hb hd hx I1 r q
structure Mk (K:PySem.W.Frag) (C f:Addr):Prop where
 makes:PySem.W.makesIn K C=true
 init:PySem.W.findIn K (.ref C) "__init__" = some (some (.ref f))
 fn:PySem.W.isFn K (.ref f)=true
 kp:PySem.W.keepIn K (.ref C)=true
end
section
variable {X:Cx}{CX:CXT}{k:Nat}{f C:Addr}{fd:FuncData}{ps ks:List Str}{sp:Sp}{E:XK}{x m:Str}{p pos apos kpos:Pos}{e o:Expr}{es:List Expr}{kws:List Keyword}{te ta:TE}{t tk:TA}{nm:Option Str}
structure W2 (K:PySem.W.Frag) (fd:FuncData) (ps ks:List Str) (g:List Value→List Value→List Value) (gV:List V→List V→List V):Prop where
 to:∀(s:Shared) (us ws:List Value),K.In s.heap→(g us ws).length=ps.length→BindsTo s fd ⟨us,ks.zip ws⟩ (ps.zip (g us ws))
 rel:∀{vs:List V} {us:List Value} {zs:List V} {ws:List Value},Vals vs us→Vals zs ws→Vals (gV vs zs) (g us ws)
variable {g:List Value→List Value→List Value}{gV:List V→List V→List V}
end
structure Aa (N P:List Str) (sc:Scope):Prop where
 kind:sc.kind=.function
 co:sc.isCoroutine=false
 gen:sc.isGenerator=false
 nd:N.Nodup
 pre:N.take P.length=P
 par:∀x∈P,sc.names.lookup x=some .local\/sc.names.lookup x=some .cell
 VI:∀y∈sc.names,y.2≠.free
theorem LJ {kindOf:Str→Option NameKind}{x:Str}:∀{binds:List (Str×Value)}{m:Str→Option Value},(∀v,(x,v)∉binds)→bindL kindOf binds m x=m x
 | [],_,_=>rfl
 | (n,v)::r,m,h=>by
  unfold bindL
  rw [LJ fun w hw=>h w (List.mem_cons_of_mem _ hw)]
  split
  ·have:x≠n:=by rintro rfl;exact h v List.mem_cons_self
   simp [this]
  ·rfl
theorem LL {kindOf:Str→Option NameKind}{x:Str}:∀{binds:List (Str×Value)}{m:Str→Option Value},(∀v,(x,v)∉binds)→bindC kindOf binds m x=m x
 | [],_,_=>rfl
 | (n,v)::r,m,h=>by
  unfold bindC
  rw [LL fun w hw=>h w (List.mem_cons_of_mem _ hw)]
  split
  ·rfl
  ·have:x≠n:=by rintro rfl;exact h v List.mem_cons_self
   simp [this]
theorem LK {kindOf:Str→Option NameKind}{x:Str}{v:Value}:∀{P:List Str}{vs:List Value}{i:Nat}{m:Str→Option Value},P.Nodup→P[i]?=some x→vs[i]?=some v→kindOf x=some .local →
  bindL kindOf (P.zip vs) m x=some v
 | [],_,_,_,_,h,_,_=>by simp at h
 | _::_,[],_,_,_,_,h,_=>by simp at h
 | p::P,w::vs,0,m,nd,h1,h2,hk=>by
  simp at h1 h2;subst h1;subst h2
  show bindL kindOf ((p,w)::P.zip vs) m p=_
  unfold bindL
  rw [LJ fun v hv=>(List.nodup_cons.mp nd).1 (List.of_mem_zip hv).1,if_pos hk]
  simp
 | p::P,w::vs,i+1,m,nd,h1,h2,hk=>by
  show bindL kindOf ((p,w)::P.zip vs) m x=_
  unfold bindL
  exact LK (i:=i) (List.nodup_cons.mp nd).2 (by simpa using h1) (by simpa using h2) hk
theorem LM {kindOf:Str→Option NameKind}{x:Str}{v:Value}:∀{P:List Str}{vs:List Value}{i:Nat}{m:Str→Option Value},P.Nodup→P[i]?=some x→vs[i]?=some v→kindOf x≠some .local →
  bindC kindOf (P.zip vs) m x=some v
 | [],_,_,_,_,h,_,_=>by simp at h
 | _::_,[],_,_,_,_,h,_=>by simp at h
 | p::P,w::vs,0,m,nd,h1,h2,hk=>by
  simp at h1 h2;subst h1;subst h2
  show bindC kindOf ((p,w)::P.zip vs) m p=_
  unfold bindC
  rw [LL fun v hv=>(List.nodup_cons.mp nd).1 (List.of_mem_zip hv).1,if_neg hk]
  simp
 | p::P,w::vs,i+1,m,nd,h1,h2,hk=>by
  show bindC kindOf ((p,w)::P.zip vs) m x=_
  unfold bindC
  exact LM (i:=i) (List.nodup_cons.mp nd).2 (by simpa using h1) (by simpa using h2) hk
def start (N:List Str) (vs:List V):St:=vs.map some++List.replicate (N.length-vs.length) none
def QV (CX:CXT) (P:Program) (w:World) (K:PySem.W.Frag) (mg:Str→Option Value) (base:Heap) (N:List Str) (qual:Str) (scope:Scope) (f:Addr) (cd:Value) (A:Around) (outer:List Env) (s:Shared) (H:Hp) (E:XK):Cx where
 prog:=P
 w:=w
 K:=K
 mg:=mg
 base:=base
 A:=A.deeper (envOfC qual scope s.heap.objs.size f cd)
 N:=N
 s₀:=s
 H₀:=H
 env:=envOfC qual scope s.heap.objs.size f cd
 outer:=outer
 stack:=envOfC qual scope s.heap.objs.size f cd::outer
 ex:=[]
 calm:=true
 fn:=fun _=>true
 pn:=[]
 xe:=fun e s'=>wpAny (model P w) (A.deeper (envOfC qual scope s.heap.objs.size f cd)) (leaving (envOfC qual scope s.heap.objs.size f cd) e) (fun _ s''=>CX outer H s E e s'') (fun e' s''=>CX outer H s E e' s'') s'
theorem NX {sc:Scope}{n:Nat}{x:Str}(h:sc.names.lookup x=some .cell):∃c,(cellsFrom n sc.names []).lookup x=some c:=by
 have q:=PySem.W.cellsFrom_some sc.names n [] (.inl h)
 exact Option.isSome_iff_exists.mp q
theorem QM {CX:CXT}{P:Program}{w:World}{K:PySem.W.Frag}{mg:Str→Option Value}{base:Heap}{N ps:List Str}{qual:Str}{scope:Scope}{f:Addr}{cd:Value}{A:Around}{outer:List Env}{s s1:Shared}{H:Hp}{E:XK}{us:List Value}{vs:List V}
  (S:Aa N ps scope) (hd:A.handled=none) (e0:UH P w K mg base A outer s H) (hl:vs.length=ps.length) (r:Vals vs us)
  (x:InCallC s s.heap.objs.size (bindL (envOfC qual scope s.heap.objs.size f cd).kindOf (ps.zip us) fun _=>none) (cellsFrom (s.heap.objs.size+1) scope.names []) (bindC (envOfC qual scope s.heap.objs.size f cd).kindOf (ps.zip us) fun _=>none) s1) :
  Inv (QV CX P w K mg base N qual scope f cd A outer s H E) [] (start N vs) H s1:=by
 have hpl:ps.length≤N.length:=by have:=congrArg List.length S.pre;rw [List.length_take] at this;omega
 obtain ⟨h1,tk,rfl,hk⟩:=x.done
 have noA:∀b:Addr,b∉(QV CX P w K mg base N qual scope f cd A outer s H E).ex:=fun b z=>absurd (show b∈([]:List Addr) from z) (by simp)
 refine ⟨⟨e0.mod,S.kind,rfl,rfl,Nat.le_refl _,fun y z c h1 h2=>?_,fun y hy=>?_,fun y c _ h=>?_,fun _=>hd,Around.frames_deeper e0.frames,.inr ⟨rfl,rfl⟩,fun b z=>absurd z (noA b),e0.bs,e0.bsz,fun b _ _=>noA b,fun b z=>absurd z (noA b),e0.IG,e0.frf⟩,
  rfl,e0.bare,Un.kept hk,⟨_,x.toInCall.ns,fun i y v h1 h2 h3=>?_⟩,fun y c h=>⟨_,x.cell y c h⟩,e0.hok.fresh (Nat.le_refl _),fun y c h=>?_,fun p hp=>absurd (show p∈([]:List (Addr×Obj)) from hp) (by simp),e0.hok.kept hk,?_⟩
 ·exact name_of_addr x.apart (PySem.mem_of_lookup h1) (PySem.mem_of_lookup h2)
 ·have hy:scope.names.lookup y=some .cell\/scope.names.lookup y=some .free:=hy
  rcases hy with hy|hy
  ·exact NX hy
  ·exact absurd rfl (S.VI _ (PySem.mem_of_lookup hy))
 ·exact Nat.le_of_lt (x.above y c (PySem.mem_of_lookup h))
 ·have hi:i<vs.length:=by
   unfold start at h2
   by_cases hi:i<vs.length
   ·exact hi
   ·rw [List.getElem?_append_right (by simpa using hi)] at h2
    rw [List.getElem?_replicate] at h2
    split at h2 <;> cases h2
  have ha:vs[i]?=some v:=by
   unfold start at h2
   rw [List.getElem?_append_left (by simpa using hi),List.getElem?_map] at h2
   cases e:vs[i]? with
   | none=>rw [e] at h2;cases h2
   | some a=>rw [e] at h2;cases h2;rfl
  obtain ⟨u,hu,rv⟩:=r.get ha
  have hp:ps[i]?=some y:=by
   rw [←S.pre,List.getElem?_take_of_lt (by omega)];exact h1
  have ndP:ps.Nodup:=by rw [←S.pre];exact S.nd.sublist (List.take_sublist _ _)
  refine ⟨u,rv,?_⟩
  rcases S.par y (List.mem_of_getElem? hp) with k|k
  ·exact .inl ⟨k,LK ndP hp hu k⟩
  ·obtain ⟨c,e⟩:=NX (n:=s.heap.objs.size+1) k
   refine .inr ⟨.inl k,c,e,?_⟩
   have q:=x.cell y c e
   rw [LM ndP hp hu (by show scope.names.lookup y≠_;rw [k];decide)] at q
   exact q
 ·exact e0.hok.fresh (Nat.le_of_lt (x.above y c (PySem.mem_of_lookup h)))
 ·unfold start
  show _=N.length
  rw [List.length_append,List.length_map,List.length_replicate]
  omega
theorem WM {CX:CXT}{P:Program}{w:World}{K:PySem.W.Frag}{mg:Str→Option Value}{base:Heap}{k:Nat}{f:Addr}{name qual:Str}{params:Arguments}{body:List Stmt}{scope:Scope}{dV kV doc pm cdv ct oc:Value}{an od:Option Addr}
  {osl:Array (Option Value)} {N ps:List Str} {sp:Sp} (lk:K.lookup f=some ⟨oc,od,.func (PySem.W.fnOf name qual params body scope dV kV doc pm an cdv ct),osl⟩) (hcd:PySem.W.codeIn K cdv qual=true) (S:Aa N ps scope)
  (len:∀vs H Q E,sp vs H Q E→vs.length=ps.length)
  (hbody:∀(A:Around) (outer:List Env) (s:Shared) (H:Hp) (vs:List V) (Q:VK) (E:XK),DC k (A.deeper (envOfC qual scope s.heap.objs.size f cdv))→sp vs H Q E →
   ∃t,PSs (QV CX P w K mg base N qual scope f cdv A outer s H E) body t/\t { nx:=fun _ H'=>Q .non H',rt:=Q } (start N vs) H) :
  BM P w K mg base CX (k+1) f (PySem.W.fnOf name qual params body scope dV kV doc pm an cdv ct) ps sp:=by
 refine ⟨len,fun A outer s H args us vs Q E hr e0 hb r hsp=>?_⟩
 have hl:=len _ _ _ _ hsp
 have KX:K.In s.heap:=e0.mod.kin.keeps fun b o e=>(e0.bs b o e).1
 have lim:s.heap.NoLimit:=e0.mod.nolimit.keeps fun b o e=>(e0.bs b o e).1
 have hkind:∀y∈ps.zip us,scope.names.lookup y.1=some .local\/(scope.names.lookup y.1=some .cell/\((cellsFrom (s.heap.objs.size+1) scope.names []).lookup y.1).isSome=true):=fun ⟨n,v⟩ hy=>by
  rcases S.par n (List.of_mem_zip hy).1 with q|q
  ·exact .inl q
  ·exact .inr ⟨q,PySem.W.cellsFrom_some _ _ _ (.inl q)⟩
 refine codeAny_call_function hr.depth (KX _ _ lk) rfl S.co S.gen rfl (PySem.W.codeRec_of KX hcd) (hb _ _ _ _ ?_)
 refine wpAny_newFunctionEnv_cells S.kind hkind fun env he s1 x=>?_
 subst he
 refine ⟨lim.keeps x.toInCall.keep,codeAny_func ?_⟩
 obtain ⟨t,ht,hq⟩:=hbody A outer s H vs Q E (hr.deeper _) hsp
 have I:Inv (QV CX P w K mg base N qual scope f cdv A outer s H E) [] (start N vs) H s1:=QM S hr.hd e0 hl r x
 refine wpAny_mono (ht [] s1 (start N vs) H _ I hq) (fun fl s' hs=>?_) fun e s' hs=>hs
 have fin:∀{σ':St} {H':Hp} {v:V} {u:Value},Inv (QV CX P w K mg base N qual scope f cdv A outer s H E) [] σ' H' s'→RelV v u→Q v H'→CE outer P w H s Q u s' :=
  fun {σ' H' v u} J rv q=>⟨v,H',J.os,J.bare,J.base,J.hok,rv,q⟩
 cases fl with
 | ret u =>
  obtain ⟨v,σ',H',J,rv,q⟩:=hs
  exact fin J rv q
 | next =>
  obtain ⟨σ',H',J,q⟩:=hs
  exact fin (v:=V.non) (u:=Value.none) J rfl q
 | brk =>
  obtain ⟨_,_,_,q⟩:=hs
  exact False.elim q
 | cont =>
  obtain ⟨_,_,_,q⟩:=hs
  exact False.elim q
end L2
namespace L2
open PySem PySem.Spec PyProof.Rows
section
variable {X:Cx}{x:Str}{p pos:Pos}{e:Expr}{es:List Expr}{t:TA}{id T:String}{r:List V→Hp→VK→Prop}
def tCB (r:List V→Hp→VK→Prop) (t:TA):TE:=fun σ H Q=>t σ H fun vs H1=>r vs H1 Q
theorem AU (hc:CJ X (.builtin id) r) (hg:Gl X x) (hm:X.mg x=none) (hv:bootBuiltins x=some (.builtin id)) (ha:PA X (e::es) t) (hn:x ≠ "__name__" := by decide) (hdb:(x==("__debug__" : Str))=false:=by decide)
  (he:starEach (e::es) X.env=(false,eval e X.env)::starEach es X.env:=by rfl) (hpl:(backTo pos (starEach es X.env)).any (·.1)=false:=by rfl):PE X (.Call (.Name x p) (e::es) [] pos) (tCB r t):=by
 intro pins s σ H Q I h
 refine wpAny_Call_Name_kw (EH I hg hm hv ?_ hn hdb)
 exact PyProof.Rows.callWith_builtin1 (thn (ha pos pins s σ H _ I h) fun us s1 ⟨vs,H1,I1,r1,q1⟩=>hc pins s1 σ H1 vs us Q I1 r1 q1) he hpl
theorem Bm (hc:CJ X (.type T) r) (hg:Gl X x) (hm:X.mg x=none) (hv:bootBuiltins x=some (.type T)) (ha:PA X (e::es) t) (hn:x ≠ "__name__" := by decide) (hdb:(x==("__debug__" : Str))=false:=by decide)
  (he:starEach (e::es) X.env=(false,eval e X.env)::starEach es X.env:=by rfl) (hpl:(backTo pos (starEach es X.env)).any (·.1)=false:=by rfl):PE X (.Call (.Name x p) (e::es) [] pos) (tCB r t):=by
 intro pins s σ H Q I h
 refine wpAny_Call_Name_kw (EH I hg hm hv ?_ hn hdb)
 exact PyProof.Rows.callWith_type1 (thn (ha pos pins s σ H _ I h) fun us s1 ⟨vs,H1,I1,r1,q1⟩=>hc pins s1 σ H1 vs us Q I1 r1 q1) he hpl
end
end L2
namespace HT
open PySem PyProof.Rows
section
open PySem.SeqAt
open PySem.AutoSeq1 (wpAny_loadPart')
open PySem.MeetsSeq PySem.MeetsSeq2 PySem.MeetsSeq3
end
section
variable {prog:Program}{w:World}{A:Around}{E:Value→Shared→Prop}{s:Shared}
theorem PD {t b:Addr}{vs ws:List Value}{Q:Value→Shared→Prop}(ht:IsTup s.heap t vs.toArray) (hb:IsTup s.heap b ws.toArray) (hv:vs≠[])
  (h1:ws=[]→Q (.ref t) s) (h2:ws≠[]→Q (.ref s.heap.objs.size) { s with heap:=s.heap.push { cls:=.type "tuple", data:=.seq (vs++ws).toArray } })
  (hsz:vs.length+ws.length≤sizeLine):wpAny (model prog w) A (binaryOp .Add (.ref t) (.ref b)) Q E s:=by
 obtain ⟨⟨cls,dd,data,sl⟩,ho,hc,n,hd⟩:=id ht
 obtain ⟨⟨cls2,dd2,data2,sl2⟩,ho2,hc2,n2,hd2⟩:=id hb
 simp only at hc hd hc2 hd2
 subst hc hd hc2 hd2
 have e:vs.toArray++ws.toArray=(vs++ws).toArray:=by simp
 by_cases hw:ws=[]
 ·exact concat_meets ⟨_,ho,rfl⟩ ⟨_,ho2,rfl⟩ noFill_tuple_add seq_tuple_add PySem.F.slot_tuple_add PySem.F.entry_tuple_add (PySem.F.args_tuple_add_2 _ _)
   (tuple_addW1 t b vs.toArray ws.toArray n n2 dd dd2 sl sl2 (by simpa using hv) (by simp [hw])) ⟨ho,ho2,h1 hw⟩
 ·refine concat_meets ⟨_,ho,rfl⟩ ⟨_,ho2,rfl⟩ noFill_tuple_add seq_tuple_add PySem.F.slot_tuple_add PySem.F.entry_tuple_add (PySem.F.args_tuple_add_2 _ _)
   (tuple_addW2 t b vs.toArray ws.toArray n n2 dd dd2 sl sl2 (by simpa using hv) (by simpa using hw) (by rw [List.size_toArray,List.size_toArray];exact hsz)) ⟨ho,ho2,?_⟩
  rw [e]
  exact h2 hw
def sIx (n d:Nat):Option Int→Nat
 | none=>d
 | some v=>if v<0 then (v+(n:Int)).toNat else min v.toNat n
theorem Ll (n d k:Nat):sIx n d (some (k:Int))=min k n:=by
 show (if (k:Int)<0 then ((k:Int)+(n:Int)).toNat else min (k:Int).toNat n)=min k n
 rw [if_neg (by omega),Int.toNat_natCast]
theorem Uu (n d:Nat) (hd:d≤n) (o:Option Int):sIx n d o≤n:=by
 cases o with
 | none=>exact hd
 | some v =>
  show (if v<0 then (v+(n:Int)).toNat else min v.toNat n)≤n
  by_cases hv:v<0
  ·rw [if_pos hv];omega
  ·rw [if_neg hv];exact Nat.min_le_right _ _
theorem PB (v:Int) (n d:Nat):(if v<0 then max (v+(n:Int)) 0 else min v (n:Int))=((sIx n d (some v):Nat):Int):=by
 show (if v<0 then max (v+(n:Int)) 0 else min v (n:Int))=(((if v<0 then (v+(n:Int)).toNat else min v.toNat n):Nat):Int)
 by_cases hv:v<0
 ·simp only [if_pos hv];omega
 ·simp only [if_neg hv];omega
theorem OT (lo hi:Option Int) (n:Nat):Builtin.Slice.sliceAdjust lo hi 1 (n:Int)=(((sIx n 0 lo:Nat):Int),((sIx n n hi:Nat):Int)):=by
 have h1:¬ ((1:Int)<0):=by omega
 unfold Builtin.Slice.sliceAdjust
 simp only [h1,if_false]
 refine Prod.ext ?_ ?_
 ·cases lo with
  | none=>rfl
  | some v=>exact PB v n 0
 ·cases hi with
  | none=>rfl
  | some v=>exact PB v n n
theorem Nw (i j:Nat):Builtin.Slice.slicePlaces (i:Int) (j:Int) 1=j-i:=by
 unfold Builtin.Slice.slicePlaces
 have h1:(1:Int) > 0:=by omega
 simp only [h1,if_true,Int.ediv_one]
 split <;> omega
theorem Io {v:Value}{o:Option Int}{Q:Option Int→Shared→Prop}(p:IsPart v o) (h:Q o s):wpAny (model prog w) A (Builtin.Slice.slicePartIndex v) Q E s:=by
 cases p with
 | none=>exact slicePart_none h
 | int i t=>exact slicePart_int h
theorem HF {sl:Addr}{vl vu:Value}{lo hi:Option Int}{n:Nat}{Q:Int×Int×Nat→Shared→Prop}(hs:s.heap.IsSliceOf sl vl vu .none) (pl:IsPart vl lo) (pu:IsPart vu hi)
  (h:Q (((sIx n 0 lo:Nat):Int),1,sIx n n hi-sIx n 0 lo) s):wpAny (model prog w) A (Builtin.Slice.sliceApplied (.ref sl) (pure (n:Int))) Q E s:=by
 obtain ⟨os,hos,hcs,hds⟩:=id hs
 unfold Builtin.Slice.sliceApplied Builtin.Slice.sliceFields
 refine wpAny_bind (wpAny_bind (wpAny_field hos hds (x:=vl) rfl (wpAny_bind (wpAny_field hos hds (x:=vu) rfl (wpAny_bind (wpAny_field hos hds (x:=.none) rfl (wpAny_pure ?_)))))))
 refine wpAny_bind (slicePart_none ?_)
 show wpAny _ _ (if ((1:Int)==0)=true then _ else _) _ _ s
 rw [if_neg (by decide)]
 refine wpAny_bind (Io pl (wpAny_bind (Io pu (wpAny_bind (wpAny_pure ?_)))))
 show wpAny _ _ (match Builtin.Slice.sliceAdjust lo hi 1 (n:Int) with|(lo,hi)=>pure (lo,(1:Int),Builtin.Slice.slicePlaces lo hi 1)) _ _ s
 rw [OT lo hi n]
 show wpAny _ _ (pure (((sIx n 0 lo:Nat):Int),(1:Int),Builtin.Slice.slicePlaces ((sIx n 0 lo:Nat):Int) ((sIx n n hi:Nat):Int) 1)) _ _ s
 rw [Nw]
 exact wpAny_pure h
theorem Rc (xs:Array Value) (i k:Nat):((List.range k).filterMap fun (m:Nat)=>xs[((i:Int)+(m:Int) * 1).toNat]?).toArray=((xs.toList.drop i).take k).toArray:=by
 have e:(fun (m:Nat)=>xs[((i:Int)+(m:Int) * 1).toNat]?)=fun m=>xs[i+m]?:=by
  funext m
  have:((i:Int)+(m:Int) * 1).toNat=i+m:=by omega
  rw [this]
 rw [e]
 have:=pick_run xs i k
 rw [List.filterMap_map] at this
 have e2:((fun x=>xs[x]?) ∘ fun x=>i+x)=fun m=>xs[i+m]?:=rfl
 rw [e2] at this
 rw [this]
theorem Gr {t sl:Addr}{items:Array Value}{vl vu:Value}{lo hi:Option Int}{Q:Value→Shared→Prop}(ht:IsTup s.heap t items) (hs:s.heap.IsSliceOf sl vl vu .none) (pl:IsPart vl lo) (pu:IsPart vu hi)
  (hw:¬ (sIx items.size 0 lo=0/\sIx items.size items.size hi=items.size))
  (h:Q (.ref s.heap.objs.size) { s with heap:=s.heap.push { cls:=.type "tuple", data:=.seq ((items.toList.drop (sIx items.size 0 lo)).take (sIx items.size items.size hi-sIx items.size 0 lo)).toArray } })
  (hsz:items.size≤sizeLine):wpAny (model prog w) A (getItem (.ref t) (.ref sl)) Q E s:=by
 have htake:sizeOk (.seq ((items.toList.drop (sIx items.size 0 lo)).take (sIx items.size items.size hi-sIx items.size 0 lo)).toArray):=by
  show ((items.toList.drop (sIx items.size 0 lo)).take (sIx items.size items.size hi-sIx items.size 0 lo)).toArray.size≤sizeLine
  rw [List.size_toArray,List.length_take,List.length_drop,Array.length_toList]
  omega
 have hj:sIx items.size items.size hi≤items.size:=Uu _ _ (Nat.le_refl _) hi
 obtain ⟨os,hos,hcs,hds⟩:=id hs
 have hTs:s.TypeIs (.ref sl) "slice" := ⟨os,hos,hcs⟩
 unfold getItem
 try with_reducible refine wpAny_holding ?_
 first|refine wpAny_bind (wpAny_pure ?_)|skip
 refine wpAny_bind (wpAny_sequenceKey ht.typeIs (by decide) ?_)
 refine wpAny_bind (wpAny_callSpecial?_slot (name:=Str.ofString "__getitem__") ht.typeIs PyProof.Rows.slot_tuple_getitem
  (wpAny_call_entry PyProof.Rows.slot_tuple_getitem ht.typeIs entry_tuple_getitem ?_ (args_tuple_getitem _ _)))
 show wpAny _ _ (Builtin.Tuple.tupleItemsOf (.ref t) >>= _) _ _ s
 refine wpAny_bind (tupleItemsOf_ ht ?_)
 refine wpAny_bind (wpAny_typeOf hTs ?_)
 rw [if_pos (by decide)]
 refine wpAny_bind (HF hs pl pu ?_)
 have hno:¬ ((((sIx items.size 0 lo:Nat):Int)==0&&(1:Int)==1&&(sIx items.size items.size hi-sIx items.size 0 lo)==items.size)=true):=by
  intro q
  rw [Bool.and_eq_true,Bool.and_eq_true] at q
  have q1:((sIx items.size 0 lo:Nat):Int)=0:=eq_of_beq q.1.1
  have q2:sIx items.size items.size hi-sIx items.size 0 lo=items.size:=eq_of_beq q.2
  exact hw ⟨by omega,by omega⟩
 show wpAny _ _ (if (((sIx items.size 0 lo:Nat):Int)==0&&(1:Int)==1&&(sIx items.size items.size hi-sIx items.size 0 lo)==items.size)=true then _ else _) _ _ s
 rw [if_neg hno,Rc]
 first
  | exact wpAny_bind (m:=Builtin.Tuple.tupleExact _) (wpAny_newObj_type (wpAny_pure ⟨_,rfl,wpAny_pure h⟩) htake)
  | exact wpAny_bind (m:=Builtin.Tuple.tupleExact _) (wpAny_newObj_type (wpAny_bind (wpAny_pure (wpAny_pure ⟨_,rfl,wpAny_pure h⟩))) htake)
  | exact wpAny_bind (wpAny_bind (m:=Builtin.Tuple.tupleExact _) (wpAny_newObj_type (wpAny_pure (wpAny_pure ⟨_,rfl,wpAny_pure h⟩)) htake))
  | exact wpAny_bind (wpAny_bind (m:=Builtin.Tuple.tupleExact _) (wpAny_newObj_type (wpAny_pure ⟨_,rfl,wpAny_pure h⟩) htake))
end
end HT
namespace L2
open PySem PySem.Spec PyProof.Rows
abbrev TO:=St→Hp→(Option Int→Hp→Prop)→Prop
def PO (X:Cx) (e:Option Expr) (t:TO):Prop :=
 ∀(pins:List (Addr×Obj)) (s:Shared) (σ:St) (H:Hp) (Q:Option Int→Hp→Prop),Inv X pins σ H s→t σ H Q →
  wpAny (model X.prog X.w) X.A (evalPart e X.env) (fun u s'=>∃o H',Inv X pins σ H' s'/\IsPart u o/\Q o H') X.xe s
def Sy:TO:=fun _ H Q=>Q none H
def Vj (t:TE):TO:=fun σ H Q=>t σ H fun x H1=>∃i,x=.int i/\Q (some i) H1
theorem intsAre_of {ns:List Int}:∀{us:List Value},Vals (ns.map V.int) us→IntsAre us ns:=by
 induction ns with
 | nil=>intro us r;rw [List.map_nil] at r;cases r;exact .nil
 | cons n ns ih =>
  intro us r
  rw [List.map_cons] at r
  cases r with
  | cons r1 r2 =>
   obtain ⟨t,e⟩:=r1
   subst e
   exact .cons n t (ih r2)
section
variable {X:Cx}{e:Expr}{te:TE}{lo hi:Option Expr}{tl th:TO}{pos p2:Pos}
theorem A6:PO X none Sy:=by
 intro pins s σ H Q I h
 rw [evalPart_none]
 exact wpAny_pure ⟨none,H,I,.none,h⟩
theorem Au (h:PE X e te):PO X (some e) (Vj te):=by
 intro pins s σ H Q I hw
 rw [evalPart_some]
 refine thn (h pins s σ H _ I hw) fun u s1 ⟨x,H1,I1,r1,q1⟩=>?_
 obtain ⟨i,rfl,q⟩:=q1
 obtain ⟨t,rfl⟩:=r1
 exact ⟨some i,H1,I1,.int i t,q⟩
def SlR (X:Cx) (r:V→Option Int→Option Int→Hp→VK→Prop):Prop :=
 ∀(pins:List (Addr×Obj)) (s:Shared) (σ:St) (H:Hp) (x:V) (v vl vu:Value) (lo hi:Option Int) (sl:Addr) (Q:VK),Inv X pins σ H s→RelV x v→s.heap.IsSliceOf sl vl vu .none→IsPart vl lo→IsPart vu hi→r x lo hi H Q →
  ∃T id,typeLookup (.type T) "__getitem__" = pure (some (.builtin id))/\s.TypeIs v T/\wpAny (model X.prog X.w) X.A (getItem v (.ref sl)) (EP X pins σ Q) X.xe s
def tSl (r:V→Option Int→Option Int→Hp→VK→Prop) (te:TE) (tl th:TO):TE:=fun σ H Q=>te σ H fun x H1=>tl σ H1 fun l H2=>th σ H2 fun u H3=>r x l u H3 Q
theorem Aq {r:V→Option Int→Option Int→Hp→VK→Prop}(hr:SlR X r) (he:PE X e te) (hl:PO X lo tl) (hu:PO X hi th):PE X (.Subscript e (.Slice lo hi none p2) pos) (tSl r te tl th):=by
 intro pins s σ H Q I h
 refine Subscript_ (thn (he pins s σ H _ I h) fun v s1 ⟨x,H1,I1,r1,q1⟩=>?_)
 refine wpAny_Slice (thn (hl pins s1 σ H1 _ I1 q1) fun vl s2 ⟨l,H2,I2,pl,q2⟩=>thn (hu pins s2 σ H2 _ I2 q2) fun vu s3 ⟨u,H3,I3,pu,q3⟩=>?_)
 rw [evalPart_none]
 refine wpAny_pure ?_
 have I4:Inv X pins σ H3 { s3 with heap:=s3.heap.push { cls:=.type "slice", data:=.fields #[vl,vu,.none] } }:=I3.kept (t':=s3.toks) fun b ob q=>Heap.get?_push_of_some _ q
 obtain ⟨T,id,hT,ht,hg⟩:=hr pins { s3 with heap:=s3.heap.push { cls:=.type "slice", data:=.fields #[vl,vu,.none] } } σ H3 x v vl vu l u s3.heap.objs.size Q I4 r1 (Heap.IsSliceOf.new ..) pl pu q3
 show wpAny (model X.prog X.w) X.A (subscriptTail e (.Slice lo hi none p2) v (.ref s3.heap.objs.size)) (EP X pins σ Q) X.xe { s3 with heap:=s3.heap.push { cls:=.type "slice", data:=.fields #[vl,vu,.none] } }
 exact tail_any (ops:=[.ref s3.heap.objs.size,v]) ht hT hg (by with_unfolding_all rfl)
def CK (xs:List V) (lo hi:Option Int):List V:=(xs.drop (HT.sIx xs.length 0 lo)).take (HT.sIx xs.length xs.length hi-HT.sIx xs.length 0 lo)
theorem IB (xs:List V) (lo hi:Option Int):(CK xs lo hi).length≤xs.length:=by
 unfold CK
 rw [List.length_take,List.length_drop]
 omega
def V1 (K:PySem.W.Frag):V→Option Int→Option Int→Hp→VK→Prop:=fun x lo hi H Q=>∃a xs,x=.ref a/\SqT K H a xs /\
 ¬ (HT.sIx xs.length 0 lo=0/\HT.sIx xs.length xs.length hi=xs.length)/\∀p,H p=none→Q (.ref p) (upd H p (.tup (CK xs lo hi)))
theorem Us:SlR X (V1 X.K):=by
 intro pins s σ H x v vl vu lo hi sl Q I rx hs pl pu h
 obtain ⟨a,xs,rfl,hx,hw,q⟩:=h
 cases rx
 obtain ⟨its,r,ht,hz⟩:=I.tuple hx
 have hlen:its.toArray.size=xs.length:=by rw [List.size_toArray];exact r.length.symm
 refine ⟨"tuple", _,PyProof.Rows.slot_tuple_getitem.lookup,ht.typeIs,?_⟩
 refine HT.Gr ht hs pl pu (by rw [hlen];exact hw) ?_ (by rw [hlen];exact hz)
 rw [hlen]
 refine ⟨.ref s.heap.objs.size,_,I.laid (t':=s.toks) (o:=.tup (CK xs lo hi)) (fun b ob q=>Heap.get?_push_of_some _ q) (Nat.le_refl _) ?_,rfl,q _ (I.hok.fresh (Nat.le_refl _))⟩
 exact ⟨Nat.le_trans (IB xs lo hi) hz,_,(r.drop (HT.sIx xs.length 0 lo)).take (HT.sIx xs.length xs.length hi-HT.sIx xs.length 0 lo),IsTup.new _ _⟩
def UQ (K:PySem.W.Frag):R2:=fun x y H Q=>∃a b xs ys,x=.ref a/\y=.ref b/\SqT K H a xs/\SqT K H b ys/\xs≠[]/\xs.length+ys.length≤sizeLine /\
 (ys=[]→Q (.ref a) H)/\(ys≠[]→∀p,H p=none→Q (.ref p) (upd H p (.tup (xs++ys))))
theorem Vals.Gk {xs:List V}{us:List Value}(r:Vals xs us):us=[]↔xs=[]:=by
 cases r with
 | nil=>simp
 | cons _ _=>simp
theorem Tg:OpR X (binaryOp .Add) (UQ X.K):=by
 intro pins s σ H x y v u Q I rx ry h
 obtain ⟨a,b,xs,ys,rfl,rfl,ha,hb,hx,hz,q1,q2⟩:=h
 cases rx
 cases ry
 obtain ⟨its,r1,p1,_⟩:=I.tuple ha
 obtain ⟨its2,r2,p2,_⟩:=I.tuple hb
 refine HT.PD p1 p2 (fun z=>hx (r1.Gk.mp z)) (fun z=>⟨.ref a,H,I,rfl,q1 (r2.Gk.mp z)⟩) (fun z=>?_) (by rw [←r1.length,←r2.length];exact hz)
 refine ⟨.ref s.heap.objs.size,_,I.laid (t':=s.toks) (o:=.tup (xs++ys)) (fun b ob q=>Heap.get?_push_of_some _ q) (Nat.le_refl _) ?_,rfl,q2 (fun w=>z (r2.Gk.mpr w)) _ (I.hok.fresh (Nat.le_refl _))⟩
 exact ⟨by rw [List.length_append];exact hz,_,r1.append r2,IsTup.new _ _⟩
end
end L2
namespace L2
open PySem PySem.Spec PyProof.Rows
def ixN (n:Nat) (i:Int):Option Nat:=if 0≤i then (if i<n then some i.toNat else none) else if -(n:Int)≤i then some (i+n).toNat else none
def atI {α:Type}(xs:List α) (i:Int):Option α:=(ixN xs.length i).bind fun j=>xs[j]?
theorem T4 {n:Nat}{i:Int}{j:Nat}(h:ixN n i=some j):seqIndex? i n=some j/\j<n/\-(n:Int)≤i/\i<n:=by
 unfold ixN at h
 by_cases h0:0≤i
 ·rw [if_pos h0] at h
  by_cases h1:i<n
  ·rw [if_pos h1] at h
   have e:i.toNat=j:=Option.some.inj h
   exact ⟨by rw [seqIndex_of h0 h1,e],by omega,by omega,h1⟩
  ·rw [if_neg h1] at h;cases h
 ·rw [if_neg h0] at h
  by_cases h1:-(n:Int)≤i
  ·rw [if_pos h1] at h
   have e:(i+n).toNat=j:=Option.some.inj h
   exact ⟨by rw [seqIndex_neg (by omega) h1,e],by omega,h1,by omega⟩
  ·rw [if_neg h1] at h;cases h
theorem MR {α:Type}{xs:List α}{i:Int}{v:α}(h:atI xs i=some v):∃j,seqIndex? i xs.length=some j/\xs[j]?=some v/\j<xs.length/\-(xs.length:Int)≤i/\i<xs.length:=by
 unfold atI at h
 cases e:ixN xs.length i with
 | none=>rw [e] at h;cases h
 | some j =>
  rw [e] at h
  obtain ⟨h1,h2,h3,h4⟩:=T4 e
  exact ⟨j,h1,h,h2,h3,h4⟩
theorem AF {α:Type}{xs:List α}{j:Nat}{v:α}(h:xs[j]?=some v):atI xs (j:Int)=some v:=by
 have hj:j<xs.length:=(List.getElem?_eq_some_iff.mp h).1
 have e:ixN xs.length (j:Int)=some j:=by
  unfold ixN
  rw [if_pos (by omega),if_pos (by omega)];simp
 unfold atI;rw [e];exact h
theorem HB {α:Type}(xs:List α) (v:α):atI (xs++[v]) (-1)=some v:=by
 have hl:(xs++[v]).length=xs.length+1:=by simp
 have e:ixN (xs++[v]).length (-1)=some xs.length:=by
  unfold ixN
  rw [hl,if_neg (by decide),if_pos (by omega)]
  congr 1
  omega
 unfold atI
 rw [e]
 show (xs++[v])[xs.length]?=some v
 simp
def HD (b:Expr):Prop:=∀o i,subscripted b false o i=operate [o,i] (getItem o i)
def IxR (X:Cx) (r:R2):Prop :=
 ∀(value slice:Expr) (pins:List (Addr×Obj)) (s:Shared) (σ:St) (H:Hp) (x y:V) (v u:Value) (Q:VK),Inv X pins σ H s→RelV x v→RelV y u→r x y H Q →
  subscripted slice false v u=operate [v,u] (getItem v u)→wpAny (model X.prog X.w) X.A (subscriptTail value slice v u) (EP X pins σ Q) X.xe s
def MtR (X:Cx) (id:String) (r:V→List V→Hp→VK→Prop):Prop :=
 ∀(pins:List (Addr×Obj)) (s:Shared) (σ:St) (H:Hp) (x:V) (xs:List V) (v:Value) (us:List Value) (Q:VK),Inv X pins σ H s→RelV x v→Vals xs us→r x xs H Q →
  wpAny (model X.prog X.w) X.A (call (.builtin id) (v::us)) (EP X pins σ Q) X.xe s
section
variable {X:Cx}{a b:Expr}{ta tb:TE}{pos:Pos}
theorem IxR.or {r r':R2}(h:IxR X r) (h':IxR X r'):IxR X (fun x y H Q=>r x y H Q\/r' x y H Q):=by
 intro value slice pins s σ H x y v u Q I rx ry q hs
 rcases q with q|q
 ·exact h value slice pins s σ H x y v u Q I rx ry q hs
 ·exact h' value slice pins s σ H x y v u Q I rx ry q hs
theorem JP {r:R2}(hr:IxR X r) (ha:PE X a ta) (hb:PE X b tb) (hs:HD b):PE X (.Subscript a b pos) (tOp r ta tb):=by
 intro pins s σ H Q I h
 exact Subscript_ (Vd ha hb I h fun v u s2 x y H2 I2 rx ry q=>hr a b pins s2 σ H2 x y v u Q I2 rx ry q (hs _ _))
def TU (K:PySem.W.Frag):R2:=fun x y H Q=>∃p xs i v,x=.ref p/\y=.int i/\SqL K H p xs/\atI xs i=some v/\Q v H
def TR (K:PySem.W.Frag):R2:=fun x y H Q=>∃p xs i v,x=.ref p/\y=.int i/\SqT K H p xs/\atI xs i=some v/\Q v H
def V5:R2:=fun x y H Q=>∃z i c,x=.str z/\y=.int i/\z.length≤sizeLine/\atI z.cps.toList i=some c/\Q (.str ⟨#[c]⟩) H
theorem Oz:IxR X (TU X.K):=by
 intro value slice pins s σ H x y v u Q I rx ry h hs
 obtain ⟨p,xs,i,z,rfl,rfl,hq,he,q⟩:=h
 cases rx
 obtain ⟨t,rfl⟩:=ry
 obtain ⟨its,r,pl,hz⟩:=I.list hq
 obtain ⟨j,h1,h2,h3,h4,h5⟩:=MR he
 obtain ⟨w,ew,rw'⟩:=r.get h2
 have hl:=r.length
 have hn:=Jm
 have fin:EP X pins σ Q w s:=⟨z,H,I,rw',q⟩
 by_cases h0:0≤i
 ·have hj:i.toNat=j:=by
   rw [seqIndex_of h0 h5] at h1
   exact Option.some.inj h1
  exact item_listR pl.isList h0 (by omega) (by rw [hj];simpa using ew) fin hs
 ·have hj:(i+(its.toArray.size:Int)).toNat=j:=by
   rw [seqIndex_neg (by omega) h4] at h1
   rw [List.size_toArray,←hl]
   exact Option.some.inj h1
  exact subscriptTail_builtinR (x:=w) pl.isList.typeIs slot_list_getitem.lookup
   (wpAny_getItem_list_neg (Q:=fun r s'=>r=w/\EP X pins σ Q r s') pl.isList (by omega) (by rw [List.size_toArray] <;> omega) (by omega) (by rw [hj];simpa using ew) ⟨rfl,fin⟩) hs
theorem SO:IxR X (TR X.K):=by
 intro value slice pins s σ H x y v u Q I rx ry h hs
 obtain ⟨p,xs,i,z,rfl,rfl,hq,he,q⟩:=h
 cases rx
 obtain ⟨t,rfl⟩:=ry
 obtain ⟨its,r,pl,hz⟩:=I.tuple hq
 obtain ⟨j,h1,h2,h3,h4,h5⟩:=MR he
 obtain ⟨w,ew,rw'⟩:=r.get h2
 have hl:=r.length
 have hn:=Jm
 have fin:EP X pins σ Q w s:=⟨z,H,I,rw',q⟩
 exact subscriptTail_builtinR (x:=w) pl.typeIs slot_tuple_getitem.lookup
  (getItem_tuple (j:=j) (Q:=fun r s'=>r=w/\EP X pins σ Q r s') pl (by omega) (by omega) (by rw [List.size_toArray,←hl];exact h1) (by simpa using ew) ⟨rfl,fin⟩) hs
theorem OE:IxR X V5:=by
 intro value slice pins s σ H x y v u Q I rx ry h hs
 obtain ⟨z,i,c,rfl,rfl,hz,he,q⟩:=h
 obtain ⟨t,rfl⟩:=rx
 obtain ⟨t',rfl⟩:=ry
 obtain ⟨j,h1,h2,h3,h4,h5⟩:=MR he
 have hl:z.cps.toList.length=z.length:=by simp [Str.length]
 rw [hl] at h1 h4 h5
 have hn:=Jm
 exact tail_any (typeIs_str s z t) slot_str_getitem.lookup (getItem_str (c:=c) (by
  have e1:decide (i < -(2 ^ 63:Int))=false:=decide_eq_false (by omega)
  have e2:decide (i≥2 ^ 63)=false:=decide_eq_false (by omega)
  rw [e1,e2,Bool.or_false]) (by rw [h1];simpa using h2) ⟨.str ⟨#[c]⟩,H,I.tok _,⟨_,rfl⟩,q⟩) hs
def rIx (K:PySem.W.Frag):R2:=fun x y H Q=>TU K x y H Q\/TR K x y H Q\/V5 x y H Q
theorem VS:IxR X (rIx X.K):=Oz.or (SO.or OE)
theorem Lf (lo hi:Option Int) (n:Nat):(sliceBounds lo hi none n).1=((HT.sIx n 0 lo:Nat):Int)/\(sliceBounds lo hi none n).2.1=((HT.sIx n n hi:Nat):Int)/\(sliceBounds lo hi none n).2.2=1:=by
 refine ⟨?_,?_,rfl⟩
 ·cases lo with
  | none=>simp [sliceBounds,HT.sIx]
  | some i =>
   simp only [sliceBounds,HT.sIx,Option.getD_none,show (1:Int) > 0 by decide,if_true]
   by_cases h:i<0
   ·simp only [h,if_true] <;> omega
   ·simp only [h,if_false] <;> omega
 ·cases hi with
  | none=>simp [sliceBounds,HT.sIx]
  | some i =>
   simp only [sliceBounds,HT.sIx,Option.getD_none,show (1:Int) > 0 by decide,if_true]
   by_cases h:i<0
   ·simp only [h,if_true] <;> omega
   ·simp only [h,if_false] <;> omega
theorem KD (its:List Value) (lo hi:Option Int):slicePick its.toArray lo hi none=((its.drop (HT.sIx its.length 0 lo)).take (HT.sIx its.length its.length hi-HT.sIx its.length 0 lo)).toArray:=by
 obtain ⟨h1,h2,h3⟩:=Lf lo hi its.toArray.size
 unfold slicePick
 rw [h1,h2,h3]
 simp only [sliceRange_one,pick_run,List.size_toArray] <;> rfl
def V2 (K:PySem.W.Frag):V→Option Int→Option Int→Hp→VK→Prop:=fun x lo hi H Q=>∃a xs,x=.ref a/\SqL K H a xs/\∀p,H p=none→Q (.ref p) (upd H p (.lst (CK xs lo hi)))
theorem TM:SlR X (V2 X.K):=by
 intro pins s σ H x v vl vu lo hi sl Q I rx hs pl pu h
 obtain ⟨a,xs,rfl,hx,q⟩:=h
 cases rx
 obtain ⟨its,r,ht,hz⟩:=I.list hx
 have hlen:=r.length
 refine ⟨"list", _,slot_list_getitem.lookup,ht.isList.typeIs,?_⟩
 refine wpAny_getItem_list_slice ht.isList hs pl pu .none (by simp) ?_ (by rw [List.size_toArray] <;> omega)
 rw [KD,←hlen]
 refine ⟨.ref s.heap.objs.size,_,I.laid (t':=s.toks) (o:=.lst (CK xs lo hi)) (fun b ob q=>Heap.get?_push_of_some _ q) (Nat.le_refl _) ?_,rfl,q _ (I.hok.fresh (Nat.le_refl _))⟩
 exact ⟨Nat.le_trans (IB xs lo hi) hz,_,0,(r.drop (HT.sIx xs.length 0 lo)).take (HT.sIx xs.length xs.length hi-HT.sIx xs.length 0 lo),Heap.get?_push_size _ rfl⟩
def IA:V→Bool
 | .non=>true
 | .bl _=>true
 | .int _=>true
 | .str _=>true
 | _=>false
def eqV:V→V→Bool
 | .non,.non=>true
 | .bl a,.bl b=>a==b
 | .bl a,.int b=>(if a then 1 else 0)==b
 | .int a,.bl b=>a==(if b then 1 else 0)
 | .int a,.int b=>a==b
 | .str a,.str b=>a==b
 | _,_=>false
theorem Va {A:Around}{s:Shared}{y x:V}{u v:Value}(ry:RelV y u) (rx:RelV x v) (fy:IA y=true) (fx:IA x=true):SeqAt.EqAt A s u v (eqV y x):=by
 cases y with
 | non =>
  cases ry
  cases x with
  | non=>cases rx;exact SeqAt.EqAt.same _
  | bl b=>cases rx;exact SeqAt.EqAt.none_bool b
  | int b=>obtain ⟨t,rfl⟩:=rx;exact SeqAt.EqAt.none_int b t
  | str b=>obtain ⟨t,rfl⟩:=rx;exact SeqAt.EqAt.none_str b t
  | _=>exact absurd (show false=true from fx) Bool.false_ne_true
 | bl a =>
  cases ry
  cases x with
  | non=>cases rx;exact SeqAt.EqAt.bool_none a
  | bl b=>cases rx;exact SeqAt.EqAt.bool_bool a b
  | int b=>obtain ⟨t,rfl⟩:=rx;exact SeqAt.EqAt.bool_int a b t
  | str b=>obtain ⟨t,rfl⟩:=rx;exact SeqAt.EqAt.bool_str a b t
  | _=>exact absurd (show false=true from fx) Bool.false_ne_true
 | int a =>
  obtain ⟨t',rfl⟩:=ry
  cases x with
  | non=>cases rx;exact SeqAt.EqAt.int_none a t'
  | bl b=>cases rx;exact SeqAt.EqAt.int_bool a t' b
  | int b=>obtain ⟨t,rfl⟩:=rx;exact SeqAt.EqAt.int_int a t' b t
  | str b=>obtain ⟨t,rfl⟩:=rx;exact SeqAt.EqAt.int_str a t' b t
  | _=>exact absurd (show false=true from fx) Bool.false_ne_true
 | str a =>
  obtain ⟨t',rfl⟩:=ry
  cases x with
  | non=>cases rx;exact SeqAt.EqAt.str_none a t'
  | bl b=>cases rx;exact SeqAt.EqAt.str_bool a t' b
  | int b=>obtain ⟨t,rfl⟩:=rx;exact SeqAt.EqAt.str_int a t' b t
  | str b=>obtain ⟨t,rfl⟩:=rx;exact SeqAt.EqAt.str_str a t' b t
  | _=>exact absurd (show false=true from fx) Bool.false_ne_true
 | _=>exact absurd (show false=true from fy) Bool.false_ne_true
def eqU (x:V) (u:Value):Bool:=match u with
 | .none=>eqV .non x
 | .bool b=>eqV (.bl b) x
 | .int i _=>eqV (.int i) x
 | .str z _=>eqV (.str z) x
 | _=>false
theorem Sf {x y:V}{u:Value}(r:RelV y u) (f:IA y=true):eqU x u=eqV y x:=by
 cases y with
 | non=>cases r;rfl
 | bl b=>cases r;rfl
 | int i=>obtain ⟨t,rfl⟩:=r;rfl
 | str z=>obtain ⟨t,rfl⟩:=r;rfl
 | _=>exact absurd (show false=true from f) Bool.false_ne_true
theorem MS {x:V}:∀{xs:List V}{us:List Value},Vals xs us→xs.all IA=true→us.any (eqU x)=xs.any fun y=>eqV y x
 | _,_,.nil,_=>rfl
 | y::xs,u::us,.cons r t,f=>by
  rw [List.all_cons,Bool.and_eq_true] at f
  rw [List.any_cons,List.any_cons,Sf r f.1,MS t f.2]
theorem Ji {A:Around}{s:Shared}{x:V}{v:Value}(rx:RelV x v) (fx:IA x=true):∀{xs:List V}{us:List Value},Vals xs us→xs.all IA=true→∀u∈us,SeqAt.EqAt A s u v (eqU x u)
 | _,_,.nil,_=>fun u hu=>by cases hu
 | y::xs,u::us,.cons r t,f=>fun u' hu=>by
  rw [List.all_cons,Bool.and_eq_true] at f
  rcases List.mem_cons.mp hu with rfl|hu
  ·rw [Sf r f.1];exact Va r rx f.1 fx
  ·exact Ji rx fx t f.2 u' hu
def inV (x:V) (xs:List V):Bool:=xs.any fun y=>eqV y x
def rIn (K:PySem.W.Frag) (neg:Bool):R2:=fun x y H Q=>∃p xs,y=.ref p/\(SqL K H p xs\/SqT K H p xs)/\IA x=true/\xs.all IA=true/\Q (.bl (if neg then !inV x xs else inV x xs)) H
theorem Px:OpR X (compareOp .In) (rIn X.K false):=by
 intro pins s σ H x y v u Q I rx ry h
 obtain ⟨p,xs,rfl,hq,fx,fs,q⟩:=h
 cases ry
 rcases hq with hq|hq
 ·obtain ⟨its,r,pl,hz⟩:=I.list hq
  refine SeqAt.in_listAt (eqU x) pl.isList (fun w hw=>Ji rx fx r fs w (by simpa using hw)) ⟨.bl _,H,I,rfl,?_⟩
  rw [show its.toArray.any (eqU x)=its.any (eqU x) by simp,MS r fs]
  exact q
 ·obtain ⟨its,r,pl,hz⟩:=I.tuple hq
  refine SeqAt.in_tupleAt (eqU x) pl (fun w hw=>Ji rx fx r fs w (by simpa using hw)) ⟨.bl _,H,I,rfl,?_⟩
  rw [show its.toArray.any (eqU x)=its.any (eqU x) by simp,MS r fs]
  exact q
theorem MM:CJ X (.builtin "len") (fun xs H Q=>∃p ys,xs=[.ref p]/\(SqL X.K H p ys\/SqT X.K H p ys)/\Q (.int ys.length) H):=by
 intro pins s σ H xs us Q I r h
 obtain ⟨p,ys,rfl,hq,q⟩:=h
 obtain ⟨u,rfl,rx⟩:=vals1 r
 cases rx
 have hn:=Jm
 rcases hq with hq|hq
 ·obtain ⟨its,r',pl,hz⟩:=I.list hq
  have hlen:=r'.length
  exact Calls.call_len_list pl.isList (by simp only [List.size_toArray] <;> omega) ⟨.int ys.length,H,I.tok _,⟨s.toks+1,by rw [List.size_toArray,hlen]⟩,q⟩
 ·obtain ⟨its,r',pl,hz⟩:=I.tuple hq
  have hlen:=r'.length
  exact len_tuple pl (by simp only [List.size_toArray] <;> omega) ⟨.int ys.length,H,I.tok _,⟨s.toks+1,by rw [List.size_toArray,hlen]⟩,q⟩
theorem ML:CJ X (.builtin "len") (fun xs H Q=>∃z,xs=[.str z]/\z.length≤sizeLine/\Q (.int z.length) H):=by
 intro pins s σ H xs us Q I r h
 obtain ⟨z,rfl,hz,q⟩:=h
 obtain ⟨u,rfl,t,rfl⟩:=vals1 r
 have hn:=Jm
 exact len_str (by omega) ⟨.int z.length,H,I.tok _,⟨_,rfl⟩,q⟩
theorem MK:CJ X (.type "list") (fun xs H Q=>∃p ys,xs=[.ref p]/\(SqL X.K H p ys\/SqT X.K H p ys)/\∀l,H l=none→Q (.ref l) (upd H l (.lst ys))):=by
 intro pins s σ H xs us Q I r h
 obtain ⟨p,ys,rfl,hq,q⟩:=h
 obtain ⟨u,rfl,rx⟩:=vals1 r
 cases rx
 have fin:∀(its:List Value),Vals ys its→ys.length≤sizeLine→∀(h':Heap) (c':Nat),(∀b o',s.heap.get? b=some o'→h'.get? b=some o') →
   h'.get? s.heap.objs.size=some { cls:=.type "list", dict:=none,data:=.seq its.toArray c',slots:=#[] }→EP X pins σ Q (.ref s.heap.objs.size) { s with heap:=h' }:=fun its r' hz h' c' kp e =>
  ⟨.ref s.heap.objs.size,_,I.laid (t':=s.toks) kp (Nat.le_refl _) (show BB X.prog X.w _ h' _ (.lst ys) from ⟨hz,its,c',r',e⟩),rfl,q _ (I.hok.fresh (Nat.le_refl _))⟩
 rcases hq with hq|hq
 ·obtain ⟨its,r',pl,hz⟩:=I.list hq
  have hlen:=r'.length
  obtain ⟨o,ho,hc,n,hd⟩:=pl.isList
  exact call_list_seq p (.inl rfl) ho hc hd (fun h' c' kp e=>fin its r' hz h' c' kp e) (by simp only [List.size_toArray] <;> omega)
 ·obtain ⟨its,r',pl,hz⟩:=I.tuple hq
  have hlen:=r'.length
  obtain ⟨o,ho,hc,n,hd⟩:=pl
  exact call_list_seq p (.inr rfl) ho hc hd (fun h' c' kp e=>fin its r' hz h' c' kp e) (by simp only [List.size_toArray] <;> omega)
theorem Fy:CJ X (.type "tuple") (fun xs H Q=>∃p ys,xs=[.ref p]/\((SqL X.K H p ys/\∀l,H l=none→Q (.ref l) (upd H l (.tup ys)))\/(SqT X.K H p ys/\Q (.ref p) H))):=by
 intro pins s σ H xs us Q I r h
 obtain ⟨p,ys,rfl,h⟩:=h
 obtain ⟨u,rfl,rx⟩:=vals1 r
 cases rx
 rcases h with ⟨hq,q⟩|⟨hq,q⟩
 ·obtain ⟨its,r',pl,hz⟩:=I.list hq
  have hlen:=r'.length
  refine call_tuple_list pl.isList (fun h' kp=>?_) (by simp only [List.size_toArray] <;> omega)
  have I1:Inv X pins σ H { s with heap:=h' }:=I.kept (t':=s.toks) kp
  have I2:Inv X pins σ (upd H h'.objs.size (.tup ys)) { s with heap:=h'.push { cls:=.type "tuple", data:=.seq its.toArray } } :=
   I1.laid (t':=s.toks) (fun b o e=>Heap.get?_push_of_some _ e) (Nat.le_refl _) (show BB X.prog X.w _ _ _ (.tup ys) from ⟨hz,its,r',IsTup.new _ _⟩)
  exact ⟨.ref h'.objs.size,_,I2,rfl,q _ (I1.hok.fresh (Nat.le_refl _))⟩
 ·obtain ⟨its,r',pl,hz⟩:=I.tuple hq
  exact call_tuple_same pl ⟨.ref p,H,I,rfl,q⟩
def tyV (K:PySem.W.Frag) (T:String) (x:V) (H:Hp):Prop:=match x with
 | .str _=>T = "str"
 | .int _=>T = "int"
 | .ref p=>(T = "list" /\ ∃xs,SqL K H p xs)\/(T = "tuple" /\ ∃o,K.lookup p=some o/\o.cls=.type "tuple" /\ o.dict=none) \/
   (T = "dict" /\ ((∃kvs,H p=some (.dK kvs))\/∃kvs,H p=some (.dT kvs)))\/(T = "set" /\ ∃S n,H p=some (.set S n))
 | _=>False
theorem Qv {pins:List (Addr×Obj)}{σ:St}{H:Hp}{s:Shared}{T:String}{x:V}{v:Value}(I:Inv X pins σ H s) (r:RelV x v) (ty:tyV X.K T x H) :
  s.TypeIs v T/\∀a,v=.ref a→∃ob,s.heap.get? a=some ob/\ob.dict=none:=by
 cases x with
 | str z =>
  obtain ⟨t,rfl⟩:=r
  cases (show T = "str" from ty)
  exact ⟨typeIs_str s z t,fun _ e=>nomatch e⟩
 | int i =>
  obtain ⟨t,rfl⟩:=r
  cases (show T = "int" from ty)
  exact ⟨typeIs_int s i t,fun _ e=>nomatch e⟩
 | ref p =>
  cases r
  rcases ty with ⟨rfl,xs,hq⟩|⟨rfl,o,hk,hc,hd⟩|⟨rfl,hk⟩|⟨rfl,S,n,hk⟩
  ·obtain ⟨its,_,pl,_⟩:=I.list hq
   refine ⟨pl.isList.typeIs,fun a e=>?_⟩
   cases e
   obtain ⟨o,n,e,c,hd,_⟩:=pl
   exact ⟨o,e,hd⟩
  ·refine ⟨⟨o,I.kIn p o hk,hc⟩,fun a e=>?_⟩
   cases e
   exact ⟨o,I.kIn _ o hk,hd⟩
  ·have z:∃o,s.heap.get? p=some o/\o.ExactDict:=by
    rcases hk with ⟨kvs,hk⟩|⟨kvs,hk⟩
    ·obtain ⟨_,_,_,_,o,_,_,e,ex,_⟩:=I.hok p _ hk
     exact ⟨o,e,ex⟩
    ·obtain ⟨_,_,_,_,o,_,_,e,ex,_⟩:=I.hok p _ hk
     exact ⟨o,e,ex⟩
   obtain ⟨o,e,ex⟩:=z
   refine ⟨⟨o,e,ex.1⟩,fun a e2=>?_⟩
   cases e2
   exact ⟨o,e,ex.2.1⟩
  ·obtain ⟨o,_,_,_,e,ex,_⟩:=I.hok p _ hk
   refine ⟨⟨o,e,ex.1⟩,fun a e2=>?_⟩
   cases e2
   exact ⟨o,e,ex.2.1⟩
 | _=>exact False.elim ty
def Vs (K:PySem.W.Frag) (T:String) (r:V→List V→Hp→VK→Prop) (to:TE):TE:=fun σ H Q=>to σ H fun x H1=>tyV K T x H1/\r x [] H1 Q
def tBM (K:PySem.W.Frag) (T:String) (r:V→List V→Hp→VK→Prop) (to:TE) (t:TA):TE:=fun σ H Q=>to σ H fun x H1=>tyV K T x H1/\t σ H1 fun xs H2=>r x xs H2 Q
variable {o e:Expr}{es:List Expr}{to:TE}{t:TA}{name:Str}{apos cpos:Pos}{T id:String}{r:V→List V→Hp→VK→Prop}
theorem U6 (pa:PlainAttrs T) (slot:Slot T name id) (hty:typeOf (.builtin id)=pure (.type "method_descriptor")) (hm:MtR X id r) (ho:PE X o to)
  (hbase:attributeBase o name X.env (eval o X.env)=eval o X.env:=by rfl) (hline:(apos.endLine==cpos.line)=true:=by rfl):PE X (.Call (.Attribute o name apos) [] [] cpos) (Vs X.K T r to):=by
 intro pins s σ H Q I h
 refine wpAny_Call_method0_late hbase hline (thn (ho pins s σ H _ I h) fun v s1 ⟨x,H1,I1,r1,ty,q1⟩=>?_)
 obtain ⟨h1,h2⟩:=Qv I1 r1 ty
 exact ⟨T,id,pa,slot,hty,h1,h2,Calls.callWith_builtin rfl (PySem.evalArgs_none (hm pins s1 σ H1 x [] v [] Q I1 r1 .nil q1))⟩
theorem WA (pa:PlainAttrs T) (slot:Slot T name id) (hty:typeOf (.builtin id)=pure (.type "method_descriptor")) (hm:MtR X id r) (ho:PE X o to) (ha:PA X (e::es) t)
  (hbase:attributeBase o name X.env (eval o X.env)=eval o X.env:=by rfl)
  (hfew:((backTo cpos (starEach (e::es) X.env)).all (fun x=>!x.1)&&(backToKw cpos (keywordEach [] X.env)).all (fun x=>x.1.isSome)
   && decide ((e::es).length+([]:List Keyword).length+(if ([]:List Keyword).isEmpty then 0 else 1)<30))=true:=by rfl)
  (hline:(apos.endLine==cpos.line)=true:=by rfl) (hs:starEach (e::es) X.env=(false,eval e X.env)::starEach es X.env:=by rfl) (hplain:(backTo cpos (starEach es X.env)).any (·.1)=false:=by rfl) :
  PE X (.Call (.Attribute o name apos) (e::es) [] cpos) (tBM X.K T r to t):=by
 intro pins s σ H Q I h
 refine wpAny_Call_method_late hbase hfew hline rfl (thn (ho pins s σ H _ I h) fun v s1 ⟨x,H1,I1,r1,ty,q1⟩=>?_)
 obtain ⟨h1,h2⟩:=Qv I1 r1 ty
 refine ⟨T,id,pa,slot,hty,h1,h2,?_⟩
 have hA:=ha cpos pins s1 σ H1 _ I1 q1
 rw [hs] at hA ⊢
 refine Calls.callWith_builtin (by show (false||(backTo cpos (starEach es X.env)).any (·.1))=false;rw [hplain] <;> rfl) (Calls.evalArgs_plain ?_)
 exact thn hA fun us s2 ⟨vs,H2,I2,r2,q2⟩=>hm pins s2 σ H2 x vs v us Q I2 r1 r2 q2
end
end L2
namespace L2
open PySem PySem.Spec PyProof.Rows
def MtM (X:Cx) (id:String) (r:V→List V→Hp→VK→Prop):Prop :=
 ∀(pins:List (Addr×Obj)) (s:Shared) (σ:St) (H:Hp) (x:V) (xs:List V) (v:Value) (us:List Value) (Q:VK),Inv X pins σ H s→RelV x v→Vals xs us→r x xs H Q →
  wpAny (model X.prog X.w) X.A (call (.builtin id) (v::us)) (EP X pins σ Q) X.xe s
theorem Vals.one:∀{x:V}{us:List Value},Vals [x] us→∃u,us=[u]/\RelV x u
 | _,_,.cons r .nil=>⟨_,rfl,r⟩
theorem Vals.zero:∀{us:List Value},Vals [] us→us=[]
 | _,.nil=>rfl
section
variable {X:Cx}{pins:List (Addr×Obj)}{σ:St}{H:Hp}{s:Shared}{l b:Addr}{xs ys zs:List V}
theorem Inv.Tz {its its':List Value}{n:Nat}{f:Array Value→Array Value}{t':Nat}(I:Inv X pins σ H s) (hH:H l=some (.lst xs))
  (e:s.heap.get? l=some { cls:=.type "list", data:=.seq its.toArray n }) (hf:f its.toArray=its'.toArray) (hv:Vals ys its') (hz:ys.length≤sizeLine) :
  Inv X pins σ (upd H l (.lst ys)) { s with heap:=s.heap.update l (Obj.mapSeq f),toks:=t' }:=by
 have q:=PySem.IsL.update e f
 rw [hf] at q
 refine I.write (x:=l) (e:=l) (by rw [hH];exact trivial) (.inl rfl) (fun b' u hb hu=>(Heap.get?_update_other s.heap (Obj.mapSeq f) (Ne.symm hb)).trans hu) ⟨_,q⟩ ?_
 exact ⟨hz,its',_,hv,q⟩
theorem Inv.Wt {its:List Value}{t':Nat}(I:Inv X pins σ H s) (hv:Vals ys its) (hz:ys.length≤sizeLine) :
  Inv X pins σ (upd H s.heap.objs.size (.lst ys)) { s with heap:=s.heap.push { cls:=.type "list", data:=.seq its.toArray },toks:=t' } :=
 I.laid (fun _ _ q=>Heap.get?_push_of_some _ q) (Nat.le_refl _) ⟨hz,its,0,hv,Heap.get?_push_size _ rfl⟩
theorem Inv.fresh (I:Inv X pins σ H s):H s.heap.objs.size=none:=I.hok.fresh (Nat.le_refl _)
theorem Inv.OC (I:Inv X pins σ H s) (hH:H l=some (.lst xs)):xs.length≤sizeLine/\∃(its:List Value) (n:Nat),Vals xs its/\xs.length=its.length/\s.heap.get? l=some { cls:=.type "list", data:=.seq its.toArray n }:=by
 obtain ⟨z,its,n,r,e⟩:=I.hok l _ hH
 exact ⟨z,its,n,r,r.length,e⟩
theorem Rz {n:Nat}(h:n≤sizeLine):Builtin.List.listTooLong n=false:=by
 unfold Builtin.List.listTooLong
 exact decide_eq_false (by omega)
end
section
variable {X:Cx}
def Of:V→List V→Hp→VK→Prop:=fun x vs H Q=>∃l xs y,x=.ref l/\vs=[y]/\H l=some (.lst xs)/\xs.length<sizeLine/\Q .non (upd H l (.lst (xs++[y])))
theorem P8:MtM X "list.append" Of:=by
 intro pins s σ H x vs v us Q I rx rv h
 obtain ⟨l,xs,y,rfl,rfl,hH,hz,q⟩:=h
 cases rx
 obtain ⟨u,rfl,ru⟩:=rv.one
 obtain ⟨z,its,n,r,hl,e⟩:=I.OC hH
 refine call_meets F.slot_list_append ⟨_,e,rfl⟩ F.entry_list_append (F.args_list_append_2 _ _) (PySem.list_append l its.toArray n u (by rw [List.size_toArray];omega)) ⟨e,?_⟩
 refine ⟨.non,_,I.Tz (its':=its++[u]) hH e (by simp) (r.append (.cons ru .nil)) ?_,rfl,q⟩
 rw [List.length_append,List.length_singleton]
 omega
def TV:V→List V→Hp→VK→Prop:=fun x vs H Q=>∃l b xs zs,x=.ref l/\vs=[.ref b]/\H l=some (.lst xs)/\H b=some (.lst zs)/\xs.length+zs.length≤sizeLine/\Q .non (upd H l (.lst (xs++zs)))
theorem HU:MtM X "list.extend" TV:=by
 intro pins s σ H x vs v us Q I rx rv h
 obtain ⟨l,b,xs,zs,rfl,rfl,hH,hB,hz,q⟩:=h
 cases rx
 obtain ⟨u,rfl,ru⟩:=rv.one
 cases ru
 obtain ⟨z,its,n,r,hl,e⟩:=I.OC hH
 obtain ⟨z2,its2,n2,r2,hl2,e2⟩:=I.OC hB
 have hsz:its.toArray.size+its2.toArray.size≤sizeLine:=by rw [List.size_toArray,List.size_toArray];omega
 have hlong:¬ (!its.toArray.isEmpty&&Builtin.List.listTooLong (its.toArray.size+its2.toArray.size))=true:=by
  rw [Rz hsz,Bool.and_false]
  exact Bool.false_ne_true
 refine call_meets F.slot_list_extend ⟨_,e,rfl⟩ F.entry_list_extend (F.args_list_extend_2 _ _)
  (AutoSeq1.list_extend_list_list_0 l its.toArray n b its2.toArray n2 hlong (by rw [List.size_toArray];omega) (by omega)) ⟨e,e2,?_⟩
 refine ⟨.non,_,I.Tz (its':=its++its2) hH e (by simp) (r.append r2) ?_,rfl,q⟩
 rw [List.length_append]
 omega
def U0:V→List V→Hp→VK→Prop:=fun x vs H Q=>∃l xs,x=.ref l/\vs=[]/\H l=some (.lst xs)/\Q .non (upd H l (.lst []))
theorem M3:MtM X "list.clear" U0:=by
 intro pins s σ H x vs v us Q I rx rv h
 obtain ⟨l,xs,rfl,rfl,hH,q⟩:=h
 cases rx
 have hus:=rv.zero
 subst hus
 obtain ⟨z,its,n,r,hl,e⟩:=I.OC hH
 refine call_meets F.slot_list_clear ⟨_,e,rfl⟩ F.entry_list_clear (F.args_list_clear_1 _) (AutoSeq1.list_clear_list_0 l its.toArray n (by rw [List.size_toArray];omega)) ⟨e,?_⟩
 exact ⟨.non,_,I.Tz (its':=[]) (ys:=[]) hH e rfl .nil (Nat.zero_le _),rfl,q⟩
def Wo:R2:=fun x y H Q=>∃l b xs zs,x=.ref l/\y=.ref b/\H l=some (.lst xs)/\H b=some (.lst zs)/\xs.length+zs.length≤sizeLine/\∀p,H p=none→Q (.ref p) (upd H p (.lst (xs++zs)))
theorem FL:OpR X (binaryOp .Add) Wo:=by
 intro pins s σ H x y v u Q I rx ry h
 obtain ⟨l,b,xs,zs,rfl,rfl,hH,hB,hz,q⟩:=h
 cases rx
 cases ry
 obtain ⟨z,its,n,r,hl,e⟩:=I.OC hH
 obtain ⟨z2,its2,n2,r2,hl2,e2⟩:=I.OC hB
 refine PySem.P.add_list e e2 ?_ (by rw [List.size_toArray,List.size_toArray];omega)
 have ea:its.toArray++its2.toArray=(its++its2).toArray:=by simp
 rw [ea]
 exact ⟨.ref _,_,I.Wt (t':=s.toks) (r.append r2) (by rw [List.length_append];omega),rfl,q _ I.fresh⟩
end
section
variable {prog:Program}{w:World}{A:Around}{E:Value→Shared→Prop}{s:Shared}
end
section
variable {X:Cx}
end
end L2
namespace L2
open PySem PySem.Spec PyProof.Rows
section
variable {κ:Type}[DecidableEq κ]
def BL (kvs:List (κ×V)) (k:κ):Option V:=(kvs.find? fun kv=>decide (kv.1=k)).map (·.2)
def putK (kvs:List (κ×V)) (k:κ) (v:V):List (κ×V) :=
 if (kvs.any fun kv=>decide (kv.1=k))=true then kvs.map (fun kv=>if kv.1=k then (kv.1,v) else kv) else kvs++[(k,v)]
def W4 (kvs:List (κ×V)) (k:κ):List (κ×V):=kvs.filter fun kv=>decide (kv.1≠k)
theorem Bu {p:κ×V}{r:List (κ×V)}{k:κ}(e:p.1=k):BL (p::r) k=some p.2:=by simp [BL,List.find?_cons,e]
theorem Bv {p:κ×V}{r:List (κ×V)}{k:κ}(e:¬ p.1=k):BL (p::r) k=BL r k:=by simp [BL,List.find?_cons,e]
theorem E8 (k:κ):∀kvs:List (κ×V),(kvs.any fun kv=>decide (kv.1=k))=(BL kvs k).isSome
 | []=>rfl
 | p::r=>by
  rw [List.any_cons]
  by_cases e:p.1=k
  ·simp only [Bu e,decide_eq_true e,Bool.true_or,Option.isSome_some]
  ·rw [Bv e,decide_eq_false e,Bool.false_or];exact E8 k r
theorem MX (k j:κ) (y:V):∀kvs:List (κ×V),BL (kvs.map fun kv=>if kv.1=k then (kv.1,y) else kv) j=(BL kvs j).map fun x=>if j=k then y else x
 | []=>rfl
 | p::r=>by
  have ih:=MX k j y r
  rw [List.map_cons]
  by_cases h:p.1=k
  ·rw [if_pos h]
   by_cases e:p.1=j
   ·rw [Bu (p:=(p.1,y)) e,Bu e,Option.map_some,if_pos (e.symm.trans h)]
   ·rw [Bv (p:=(p.1,y)) e,Bv e,ih]
  ·rw [if_neg h]
   by_cases e:p.1=j
   ·rw [Bu (p:=p) e,Bu e,Option.map_some,if_neg (fun z=>h (e.trans z))]
   ·rw [Bv (p:=p) e,Bv e,ih]
theorem Ka (k j:κ) (y:V):∀kvs:List (κ×V),BL kvs k=none→BL (kvs++[(k,y)]) j=if j=k then some y else BL kvs j
 | [],_=>by
  by_cases e:k=j
  ·rw [if_pos e.symm];exact Bu (p:=(k,y)) e
  ·rw [if_neg (fun z=>e z.symm)];exact Bv (p:=(k,y)) e
 | p::r,hn=>by
  rw [List.cons_append]
  have hk:¬ p.1=k:=fun z=>by rw [Bu z] at hn;cases hn
  rw [Bv hk] at hn
  have ih:=Ka k j y r hn
  by_cases e:p.1=j
  ·rw [Bu e,Bu e,if_neg (fun z=>hk (e.trans z))]
  ·rw [Bv e,Bv e,ih]
theorem Ib (kvs:List (κ×V)) (k j:κ) (y:V):BL (putK kvs k y) j=if j=k then some y else BL kvs j:=by
 unfold putK
 by_cases a:(kvs.any fun kv=>decide (kv.1=k))=true
 ·rw [if_pos a,MX]
  rw [E8] at a
  by_cases e:j=k
  ·obtain ⟨x,hx⟩:=Option.isSome_iff_exists.mp a
   rw [if_pos e,e,hx,Option.map_some,if_pos rfl]
  ·rw [if_neg e]
   cases BL kvs j with
   | none=>rfl
   | some x=>rw [Option.map_some,if_neg e]
 ·rw [if_neg a]
  refine Ka k j y kvs ?_
  rw [E8] at a
  cases q:BL kvs k with
  | none=>rfl
  | some x=>rw [q] at a;exact (a rfl).elim
theorem ED (kvs:List (κ×V)) (k:κ) (v:V):(putK kvs k v).length≤kvs.length+1:=by
 unfold putK
 split
 ·rw [List.length_map];omega
 ·rw [List.length_append,List.length_cons,List.length_nil];omega
theorem E6.QL {o:Option V}{u:Option Value}(r:E6 o u):o.isSome=u.isSome:=by
 cases o with
 | none=>cases u with
  | none=>rfl
  | some _=>exact (show False from r).elim
 | some _=>cases u with
  | none=>exact (show False from r).elim
  | some _=>rfl
theorem E6.getD {o:Option V}{u:Option Value}{d:V}{d':Value}(r:E6 o u) (rd:RelV d d'):RelV (o.getD d) (u.getD d'):=by
 cases o with
 | none=>cases u with
  | none=>exact rd
  | some _=>exact (show False from r).elim
 | some _=>cases u with
  | none=>exact (show False from r).elim
  | some _=>exact r
theorem KV.val {kvs:List (κ×V)}{vs:List (κ×Value)}(r:KV kvs vs) (k:κ):E6 (BL kvs k) (valueAt vs k):=by
 unfold KV at r
 induction r with
 | nil=>exact True.intro
 | @cons p q ps qs h t ih =>
  obtain ⟨h1,h2⟩:=h
  by_cases e:p.1=k
  ·have e':q.1=k:=h1.symm.trans e
   have b:valueAt (q::qs) k=some q.2:=by simp [valueAt,List.find?_cons,e']
   rw [Bu e,b];exact h2
  ·have e':¬ q.1=k:=fun z=>e (h1.trans z)
   have b:valueAt (q::qs) k=valueAt qs k:=by simp [valueAt,List.find?_cons,e']
   rw [Bv e,b];exact ih
theorem KV.any {kvs:List (κ×V)}{vs:List (κ×Value)}(r:KV kvs vs) (k:κ):(kvs.any fun kv=>decide (kv.1=k))=vs.any fun kv=>decide (kv.1=k):=by
 unfold KV at r
 induction r with
 | nil=>rfl
 | cons h t ih=>rw [List.any_cons,List.any_cons,ih,h.1]
theorem KV.Uw {kvs:List (κ×V)}{vs:List (κ×Value)}(r:KV kvs vs) (k:κ) {y:V}{u:Value}(ry:RelV y u) :
  KV (kvs.map fun kv=>if kv.1=k then (kv.1,y) else kv) (vs.map fun kv=>if kv.1=k then (kv.1,u) else kv):=by
 unfold KV at r ⊢
 induction r with
 | nil=>exact .nil
 | @cons p q ps qs h t ih =>
  rw [List.map_cons,List.map_cons]
  refine .cons ?_ ih
  obtain ⟨h1,h2⟩:=h
  by_cases e:p.1=k
  ·rw [if_pos e,if_pos (h1.symm.trans e)];exact ⟨h1,ry⟩
  ·rw [if_neg e,if_neg (fun z=>e (h1.trans z))];exact ⟨h1,h2⟩
theorem KV.put {kvs:List (κ×V)}{vs:List (κ×Value)}(r:KV kvs vs) (k:κ) {y:V}{u:Value}(ry:RelV y u):KV (putK kvs k y) (stored vs k u):=by
 unfold putK stored
 rw [r.any k]
 by_cases e:(vs.any fun kv=>decide (kv.1=k))=true
 ·rw [if_pos e,if_pos e];exact r.Uw k ry
 ·rw [if_neg e,if_neg e];exact Paired.snoc r ⟨rfl,ry⟩
theorem KV.length {kvs:List (κ×V)}{vs:List (κ×Value)}(r:KV kvs vs):kvs.length=vs.length:=Paired.length r
end
theorem K0 {P:Program}{w:World}{k:Key}{u:Value}(r:RelV (kV k) u):(Ah P w).is k u=true:=by
 cases k with
 | inl i=>obtain ⟨t,e⟩:=(show ∃t,u=Value.int i t from r);subst e;exact M6 P w i t
 | inr x=>obtain ⟨t,e⟩:=(show ∃t,u=Value.str x t from r);subst e;exact M5 P w x t
theorem K6 {P:Program}{w:World}:∀{ks:List Key}{us:List Value},Vals (ks.map kV) us→ItemsAre (Ah P w) ks us
 | [],_,r=>by rw [List.map_nil] at r;cases r;exact .nil
 | k::ks,_,r=>by
  rw [List.map_cons] at r
  cases r with
  | cons h t=>exact .cons (K0 h) (K6 t)
abbrev KT (H:Hp):List (List Key×V)→List (List Key×Addr×Value)→Prop:=Paired fun p q=>p.1=q.1/\H q.2.1=some (.tup (p.1.map kV))/\RelV p.2 q.2.2
theorem KT.val {H:Hp}{kvs:List (List Key×V)}{xs:List (List Key×Addr×Value)}(r:KT H kvs xs) (k:List Key):E6 (BL kvs k) ((atKey xs k).map (·.2)):=by
 induction r with
 | nil=>exact True.intro
 | @cons p q ps qs h t ih =>
  obtain ⟨h1,_,h2⟩:=h
  by_cases e:p.1=k
  ·have e':q.1=k:=h1.symm.trans e
   have b:atKey (q::qs) k=some q.2:=by simp [atKey,List.find?_cons,e']
   rw [Bu e,b];exact h2
  ·have e':¬ q.1=k:=fun z=>e (h1.trans z)
   have b:atKey (q::qs) k=atKey qs k:=by simp [atKey,List.find?_cons,e']
   rw [Bv e,b];exact ih
theorem KT.Uw {H:Hp}{kvs:List (List Key×V)}{xs:List (List Key×Addr×Value)}(r:KT H kvs xs) (k:List Key) {y:V}{u:Value}(ry:RelV y u) :
  KT H (kvs.map fun kv=>if kv.1=k then (kv.1,y) else kv) (xs.map (putAt k u)):=by
 induction r with
 | nil=>exact .nil
 | @cons p q ps qs h t ih =>
  rw [List.map_cons,List.map_cons]
  refine .cons ?_ ih
  obtain ⟨h1,h2,h3⟩:=h
  unfold putAt
  by_cases e:p.1=k
  ·rw [if_pos e,if_pos (h1.symm.trans e)];exact ⟨h1,h2,ry⟩
  ·rw [if_neg e,if_neg (fun z=>e (h1.trans z))];exact ⟨h1,h2,h3⟩
theorem KT.put {H:Hp}{kvs:List (List Key×V)}{xs:List (List Key×Addr×Value)}(r:KT H kvs xs) (k:List Key) {b:Addr}{y:V}{u:Value}(hb:H b=some (.tup (k.map kV))) (ry:RelV y u) :
  KT H (putK kvs k y) (storedH xs k b u):=by
 have e:(kvs.any fun kv=>decide (kv.1=k))=(atKey xs k).isSome:=by
  rw [E8,(r.val k).QL,Option.isSome_map]
 unfold putK storedH
 rw [e]
 by_cases q:(atKey xs k).isSome=true
 ·rw [if_pos q,if_pos q];exact r.Uw k ry
 ·rw [if_neg q,if_neg q];exact Paired.snoc r ⟨rfl,hb,ry⟩
theorem KT.keeps {H H':Hp}{kvs:List (List Key×V)}{xs:List (List Key×Addr×Value)}(r:KT H kvs xs) (ht:∀b ys,H b=some (.tup ys)→H' b=some (.tup ys)):KT H' kvs xs :=
 Paired.VL r fun _ _ z=>⟨z.1,ht _ _ z.2.1,z.2.2⟩
section
variable {P:Program}{w:World}{H:Hp}{h:Heap}{a:Addr}
theorem UP {u:HO}(ok:HOk P w H h) (e:Rd H a u):BB P w H h a u:=e.ok ok
theorem NP {kvs:List (Key×V)}(ok:HOk P w H h) (e:Rd H a (.dK kvs)):kvs.length≤sizeLine/\(a==sysModules)=false/\∃vs,KV kvs vs/\h.DictOf (Ah P w) a vs :=
 show BB P w H h a (.dK kvs) from UP ok e
theorem NQ {kvs:List (Key×V)}(ok:HOk P w H h) (e:H a=some (.dK kvs)):kvs.length≤sizeLine/\(a==sysModules)=false/\∃vs,KV kvs vs/\h.DictOf (Ah P w) a vs:=NP ok (.inl e)
theorem MD {ks:List Key}(ok:HOk P w H h) (e:H a=some (.tup (ks.map kV))):(tupleKind (Ah P w)).is h ks a:=by
 obtain ⟨_,its,r,o,h1,h2,n,h3⟩:=(show BB P w H h a (.tup (ks.map kV)) from ok a _ e)
 exact ⟨o,its.toArray,n,h1,h2,h3,by simpa using K6 r⟩
theorem NO {kvs:List (List Key×V)}(ok:HOk P w H h) (e:Rd H a (.dT kvs)):kvs.length≤sizeLine/\(a==sysModules)=false /\
  ∃xs,KT H kvs xs/\h.DictOfH (tupleKind (Ah P w)) a xs:=by
 obtain ⟨z,y,xs,r,o,es,ep,h1,h2,h3,h4,h5⟩:=(show BB P w H h a (.dT kvs) from UP ok e)
 refine ⟨z,y,xs,r,o,es,ep,h1,h2,h3,h4,fun x hx=>?_,h5⟩
 have all:∀{l:List (List Key×V)} {m:List (List Key×Addr×Value)},KT H l m→∀x∈m,(tupleKind (Ah P w)).is h x.1 x.2.1:=by
  intro l m q
  induction q with
  | nil=>intro x hx;exact nomatch hx
  | @cons p q ps qs hq t ih =>
   intro x hx
   rcases List.mem_cons.mp hx with e|hx
   ·subst e
    exact MD ok (by rw [←hq.1];exact hq.2.1)
   ·exact ih x hx
 exact all r x hx
theorem WN {kvs:List (List Key×V)}(ok:HOk P w H h) (e:H a=some (.dT kvs)):kvs.length≤sizeLine/\(a==sysModules)=false /\
  ∃xs,KT H kvs xs/\h.DictOfH (tupleKind (Ah P w)) a xs:=NO ok (.inl e)
end
def IK (H:Hp) (a:Addr) (y:V) (r:Option V):Prop :=
 (∃kvs k,Rd H a (.dK kvs)/\y=kV k/\r=BL kvs k)\/∃kvs k b,Rd H a (.dT kvs)/\y=.ref b/\H b=some (.tup (k.map kV))/\r=BL kvs k
def KW (H:Hp) (a:Addr) (y v:V) (H':Hp):Prop :=
 (∃kvs k,H a=some (.dK kvs)/\y=kV k/\kvs.length<sizeLine/\H'=upd H a (.dK (putK kvs k v))) \/
 ∃kvs k b,H a=some (.dT kvs)/\y=.ref b/\H b=some (.tup (k.map kV))/\kvs.length<sizeLine/\H'=upd H a (.dT (putK kvs k v))
theorem IK.k {H:Hp}{a:Addr}{kvs:List (Key×V)}{k:Key}(e:H a=some (.dK kvs)):IK H a (kV k) (BL kvs k):=.inl ⟨kvs,k,.inl e,rfl,rfl⟩
theorem KW.k {H:Hp}{a:Addr}{kvs:List (Key×V)}{k:Key}{v:V}(e:H a=some (.dK kvs)) (hl:kvs.length<sizeLine):KW H a (kV k) v (upd H a (.dK (putK kvs k v))):=.inl ⟨kvs,k,e,rfl,hl,rfl⟩
section
variable {X:Cx}{pins:List (Addr×Obj)}{σ:St}{H:Hp}{s:Shared}{a:Addr}{y v:V}{u r:Value}{o:Option V}{A:Around}{E:Value→Shared→Prop}
theorem Inv.big (I:Inv X pins σ H s):sysModules<s.heap.objs.size:=by
 have h:mainGlobals<s.heap.objs.size:=(I.mod.glob.keeps I.bk).lt
 exact Nat.lt_trans (by decide) h
theorem QU {Q:Value→Shared→Prop}(hu:A.units+1<cLine) (I:Inv X pins σ H s) (g:IK H a y (some v)) (ry:RelV y u) (h:∀w' s',Inv X pins σ H s'→RelV v w'→Q w' s') :
  wpAny (model X.prog X.w) A (getItem (.ref a) u) Q E s:=by
 rcases g with ⟨kvs,k,e,ey,l⟩|⟨kvs,k,b,e,ey,eb,l⟩
 ·subst ey
  obtain ⟨z,hd,vs,rel,dd⟩:=NP I.hok e
  obtain ⟨w',hw,rw'⟩:=E6.some_of (v:=v) (o:=valueAt vs k) (by rw [l];exact rel.val k)
  exact wpAny_getItem_of (K0 ry) dd.mapOf hw (h w' _ (I.tok _) rw')
 ·subst ey
  cases (show u=Value.ref b from ry)
  obtain ⟨z,hd,xs,rel,dd⟩:=NO I.hok e
  obtain ⟨w',hw,rw'⟩:=E6.some_of (v:=v) (o:=(atKey xs k).map (·.2)) (by rw [l];exact rel.val k)
  obtain ⟨p,hp,hp2⟩:=Option.map_eq_some_iff.mp hw
  refine wpAny_getItem_heap (tupleKind_room_in1 hu) (MD I.hok eb) dd hp ?_
  rw [hp2]
  exact h w' _ (I.tok _) rw'
theorem IU {h':Heap}{t':Nat}{ob:HO}(I:Inv X pins σ H s) (mu:Mut (H a)) (hs:Heap.SameBut a s.heap h') (he:∃q,h'.get? a=some q) (new:BB X.prog X.w (upd H a ob) h' a ob) :
  Inv X pins σ (upd H a ob) { s with heap:=h',toks:=t' } :=
 I.write (x:=a) (e:=a) mu (.inl rfl) (fun b q hb z=>(hs.2 b hb).trans z) he new
theorem ON {P:Program}{w:World}{H':Hp}{h':Heap}{kvs:List (Key×V)}{vs:List (Key×Value)}(z:kvs.length≤sizeLine) (hd:(a==sysModules)=false) (rel:KV kvs vs) (dd:h'.DictOf (Ah P w) a vs) :
  BB P w H' h' a (.dK kvs):=⟨z,hd,vs,rel,dd⟩
theorem QT {H':Hp}{Q:Unit→Shared→Prop}(hu:A.units+1<cLine) (I:Inv X pins σ H s) (g:KW H a y v H') (ry:RelV y u) (rv:RelV v r) (h:∀s',Inv X pins σ H' s'→Q () s') :
  wpAny (model X.prog X.w) A (setItem (.ref a) u r) Q E s:=by
 rcases g with ⟨kvs,k,e,ey,l,eH⟩|⟨kvs,k,b,e,ey,eb,l,eH⟩
 ·subst ey eH
  obtain ⟨z,hd,vs,rel,dd⟩:=NQ I.hok e
  have hz:vs.length≤sizeLine:=by rw [←rel.length];exact z
  have hl:(putK kvs k v).length≤sizeLine:=by have:=ED kvs k v;omega
  refine wpAny_setItem_pairs (hsz:=hz) (K0 ry) dd fun h' dd' hs=>h _ ?_
  have he:∃q,h'.get? a=some q:=let ⟨q,_,_,hq,_⟩:=dd';⟨q,hq⟩
  exact IU I (by rw [e];exact True.intro) hs he (ON hl hd (rel.put k rv) dd')
 ·subst ey eH
  cases (show u=Value.ref b from ry)
  obtain ⟨z,hd,xs,rel,dd⟩:=WN I.hok e
  have hz:xs.length≤sizeLine:=by rw [←Paired.length rel];exact z
  have hl:(putK kvs k v).length≤sizeLine:=by have:=ED kvs k v;omega
  refine wpAny_setItem_heap (hsz:=hz) (tupleKind_room_in1 hu) (MD I.hok eb) dd fun h' dd' hs=>h _ ?_
  obtain ⟨q,es,ep,hq,h2,h3,h4,_,h5⟩:=dd'
  refine IU I (by rw [e];exact True.intro) hs ⟨q,hq⟩ ⟨hl,hd,_,(rel.put k eb rv).keeps fun c ys ec=>?_,q,es,ep,hq,h2,h3,h4,h5⟩
  rw [AO (WD ec e (fun z=>nomatch z))]
  exact ec
end
section
variable {X:Cx}{pins:List (Addr×Obj)}{σ:St}{H:Hp}{s:Shared}{a:Addr}{kvs:List (Key×V)}{k:Key}{u:Value}{A:Around}{E:Value→Shared→Prop}
end
def WS (i:Expr):Prop:=∀ov iv,subscripted i false ov iv=operate [ov,iv] (getItem ov iv)
theorem Sz {prog:Program}{w:World}{A:Around}{E:Value→Shared→Prop}{s:Shared}{env:Env}{value slice:Expr}{pos:Pos}{T id:String}{Q:Value→Shared→Prop}
  (hl:typeLookup (.type T) "__getitem__" = pure (some (.builtin id))) (hs:WS slice)
  (h:wpAny (model prog w) A (eval value env) (fun o s₁=>wpAny (model prog w) A (eval slice env) (fun i s₂=>s₂.TypeIs o T/\wpAny (model prog w) A (getItem o i) Q E s₂) E s₁) E s) :
  wpAny (model prog w) A (eval (.Subscript value slice pos) env) Q E s:=by
 refine Subscript_ (wpAny_mono h (fun o s₁ h₁=>wpAny_mono h₁ (fun i s₂ h₂=>?_) fun _ _ x=>x) fun _ _ x=>x)
 obtain ⟨hT,h₂⟩:=h₂
 unfold subscriptTail
 refine wpAny_bind ?_
 rw [getitemInPython_of_ne hT.not_modules]
 refine wpAny_bind (wpAny_specialOf hT hl ?_)
 have fin:wpAny (model prog w) A (subscripted slice false o i) (fun r s₃=>wpAny (model prog w) A (letTemporaryGo value o r >>= fun _=>pure r) Q E s₃) E s₂:=by
  rw [hs o i]
  exact wpAny_operating (wpAny_mono h₂ (fun r s₃ h₃=>wpAny_bind (wpAny_letTemporaryGo (wpAny_pure h₃))) fun _ _ x=>x)
 first
  | exact wpAny_pure (wpAny_bind fin)
  | exact wpAny_bind (wpAny_pure (wpAny_bind fin))
  | exact wpAny_bind fin
theorem NT {X:Cx}{pins:List (Addr×Obj)}{σ:St}{H:Hp}{s:Shared}{a:Addr}{y:V}{o:Option V}(I:Inv X pins σ H s) (g:IK H a y o):s.TypeIs (.ref a) "dict" := by
 rcases g with ⟨kvs,k,e,_,_⟩|⟨kvs,k,b,e,_,_,_⟩
 ·obtain ⟨_,_,vs,_,dd⟩:=NP I.hok e
  exact dd.typeIs
 ·obtain ⟨_,_,xs,_,dd⟩:=NO I.hok e
  exact dd.typeIs
def Vp (td ty:TE):TE:=fun σ H Q=>td σ H fun x H1=>ty σ H1 fun y H2=>∃a v,x=.ref a/\IK H2 a y (some v)/\Q v H2
def V0 (td ty tv:TE):TS:=fun D σ H=>tv σ H fun v H1=>td σ H1 fun x H2=>ty σ H2 fun y H3=>∃a H4,x=.ref a/\KW H3 a y v H4/\D.nx σ H4
section
variable {X:Cx}{o i e value:Expr}{pos pos' tpos:Pos}{td ty tv:TE}
theorem EB (hu:X.A.units+1<cLine) (ho:PE X o td) (hi:PE X i ty) (hs:WS i):PE X (.Subscript o i pos) (Vp td ty):=by
 intro pins s σ H Q I h
 refine Sz PySem.F.slot_dict_getitem.lookup hs (thn (ho pins s σ H _ I h) fun u s1 ⟨x,H1,I1,rx,q1⟩=>thn (hi pins s1 σ H1 _ I1 q1) fun iv s2 ⟨y,H2,I2,ry,a,v,ex,g,q2⟩=>?_)
 subst ex
 obtain rfl:u=Value.ref a:=rx
 exact ⟨NT I2 g,QU hu I2 g ry fun w' s3 I3 rw'=>⟨v,H2,I3,rw',q2⟩⟩
theorem Fb (hu:X.A.units+1<cLine) (ho:PE X o td) (hi:PE X i ty) (hv:PE X value tv) (hs:swapsWith value (some (.Subscript o i pos')) pos.line X.env=pure false) :
  PS X (.Assign [.Subscript o i pos'] value pos) (V0 td ty tv):=by
 intro pins s σ H D I h
 refine wpAny_Assign_Subscript (thn (hv pins s σ H _ I h) fun r s1 ⟨v,H1,I1,rv,q1⟩=>thn (ho pins s1 σ H1 _ I1 q1) fun u s2 ⟨x,H2,I2,rx,q2⟩=>thn (hi pins s2 σ H2 _ I2 q2) fun iv s3 ⟨y,H3,I3,ry,a,H4,ex,g,q3⟩=>?_) hs
 subst ex
 obtain rfl:u=Value.ref a:=rx
 exact QT hu I3 g ry rv fun s4 I4=>⟨σ,H4,I4,q3⟩
end
theorem NR {P:Program} {w:World} {H:Hp} (h:Heap) (hb:sysModules<h.objs.size):BB P w H (h.push { cls:=.type "dict", data:=.dict #[] }) h.objs.size (.dK []) :=
 ⟨Nat.zero_le _,beq_eq_false_iff_ne.mpr (Ne.symm (Nat.ne_of_lt hb)),[],.nil,Heap.DictOf.new h⟩
def Ud:TE:=fun _ H Q=>∀p,H p=none→Q (.ref p) (upd H p (.dK []))
section
variable {X:Cx}{pos:Pos}
theorem Gb:PE X (.Dict [] [] pos) Ud:=fun pins s σ H Q I h =>
 wpAny_Dict_empty ⟨.ref s.heap.objs.size,_,I.laid (a:=s.heap.objs.size) (o:=.dK []) (t':=s.toks) (fun _ _ q=>Heap.get?_push_of_some _ q) (Nat.le_refl _) (NR s.heap I.big),rfl,h _ (I.hok.fresh (Nat.le_refl _))⟩
end
def Nk:List (TE×TE)→St→Hp→(List (V×V)→Hp→Prop)→Prop
 | [],_,H,Q=>Q [] H
 | (tk,tv)::r,σ,H,Q=>tk σ H fun x H1=>tv σ H1 fun y H2=>Nk r σ H2 fun ps H3=>Q ((x,y)::ps) H3
abbrev VV:List (V×V)→List (Value×Value)→Prop:=Paired fun p q=>RelV p.1 q.1/\RelV p.2 q.2
def PPs (X:Cx) (pos:Pos) (keys:List (Option Expr)) (values:List Expr) (trs:List (TE×TE)):Prop :=
 ∀(pins:List (Addr×Obj)) (s:Shared) (σ:St) (H:Hp) (Q:List (V×V)→Hp→Prop),Inv X pins σ H s→Nk trs σ H Q →
  wpAny (model X.prog X.w) X.A (evalPairs (pairTrees keys values X.env pos)) (fun vs s'=>∃ps H',Inv X pins σ H' s'/\VV ps vs/\Q ps H') X.xe s
theorem Ta {X:Cx}{pos:Pos}:PPs X pos [] [] []:=fun pins s σ H Q I h=>pairTrees_nil_walk ⟨[],H,I,.nil,h⟩
theorem RY {X:Cx}{pos:Pos}{k v:Expr}{ks:List (Option Expr)}{vs:List Expr}{tk tv:TE}{trs:List (TE×TE)}(hk:PE X k tk) (hv:PE X v tv) (hr:PPs X pos ks vs trs) :
  PPs X pos (some k::ks) (v::vs) ((tk,tv)::trs):=fun pins s σ H Q I h =>
 pairTrees_cons_walk (thn (hk pins s σ H _ I h) fun u s1 ⟨x,H1,I1,rx,q1⟩=>thn (hv pins s1 σ H1 _ I1 q1) fun w2 s2 ⟨y,H2,I2,ry,q2⟩ =>
  thn (hr pins s2 σ H2 _ I2 q2) fun ws s3 ⟨ps,H3,I3,rel,q3⟩=>⟨(x,y)::ps,H3,I3,.cons ⟨rx,ry⟩ rel,q3⟩)
def HV (kvs more:List (Key×V)):List (Key×V):=more.foldl (fun acc kv=>putK acc kv.1 kv.2) kvs
theorem KV.merge:∀{more:List (Key×V)}{rs:List (Key×Value)}{kvs:List (Key×V)}{vs:List (Key×Value)},KV more rs→KV kvs vs→KV (HV kvs more) (merged vs rs):=by
 intro more rs kvs vs r
 unfold KV at r
 induction r generalizing kvs vs with
 | nil=>intro q;exact q
 | @cons p q ps qs h t ih =>
  intro r0
  have e:KV (putK kvs p.1 p.2) (stored vs q.1 q.2):=by
   have:=r0.put p.1 h.2
   rw [←h.1];exact this
  exact ih e
theorem Fw:∀(more kvs:List (Key×V)),(HV kvs more).length≤kvs.length+more.length
 | [],kvs=>by show kvs.length≤kvs.length+0;omega
 | p::r,kvs=>by
  have h1:=Fw r (putK kvs p.1 p.2)
  have h2:=ED kvs p.1 p.2
  show (HV (putK kvs p.1 p.2) r).length≤_
  rw [List.length_cons];omega
theorem Jx {P:Program}{w:World}:∀{kvs:List (Key×V)}{ws:List (Value×Value)},VV (kvs.map fun kv=>(kV kv.1,kv.2)) ws→∃rs,Carries (Ah P w) ws rs/\KV kvs rs
 | [],_,r=>by rw [List.map_nil] at r;cases r;exact ⟨[],True.intro,.nil⟩
 | p::kvs,_,r=>by
  rw [List.map_cons] at r
  cases r with
  | @cons a b as bs h t =>
   obtain ⟨rs,c,q⟩:=Jx (P:=P) (w:=w) t
   obtain ⟨b1,b2⟩:=b
   exact ⟨(p.1,b2)::rs,⟨K0 h.1,rfl,c⟩,.cons ⟨rfl,h.2⟩ q⟩
def Vo (trs:List (TE×TE)):TE:=fun σ H Q=>∀p,H p=none→Nk trs σ (upd H p (.dK [])) fun ps H2=>H2 p=some (.dK [])/\∃kvs:List (Key×V),ps=kvs.map (fun kv=>(kV kv.1,kv.2))/\kvs.length≤15/\Q (.ref p) (upd H2 p (.dK (HV [] kvs)))
theorem Td {X:Cx}{pos:Pos}{keys:List (Option Expr)}{values:List Expr}{trs:List (TE×TE)}(h:PPs X pos keys values trs) (hall:keys.all (·.isSome)=true) (hl:keys.length=values.length) (h0:keys≠[])
  (h15:keys.length≤15):PE X (.Dict keys values pos) (Vo trs):=by
 intro pins s σ H Q I q
 have hn:=I.hok.fresh (Nat.le_refl s.heap.objs.size)
 have I1:=I.laid (a:=s.heap.objs.size) (o:=.dK []) (h':=s.heap.push { cls:=.type "dict", data:=.dict #[] }) (t':=s.toks) (fun _ _ q=>Heap.get?_push_of_some _ q) (Nat.le_refl _) (NR s.heap I.big)
 refine wpAny_Dict_walk (knd:=Ah X.prog X.w) hall hl h0 h15 (thn (h pins _ σ _ _ I1 (q _ hn)) fun ws s2 ⟨ps,H2,I2,rel,e,kvs,ep,lk,q2⟩=>?_)
 subst ep
 obtain ⟨rs,c,rk⟩:=Jx (P:=X.prog) (w:=X.w) rel
 obtain ⟨z,hd,vs0,r0,dd⟩:=NQ I2.hok e
 cases r0
 refine ⟨rs,c,dd,fun h' dd' hs=>⟨.ref s.heap.objs.size,_,?_,rfl,q2⟩⟩
 have hz:(HV [] kvs).length≤sizeLine:=by
  have h1:=Fw kvs []
  rw [List.length_nil] at h1
  rw [sizeLine_eq];omega
 have he:∃q,h'.get? s.heap.objs.size=some q:=let ⟨q,_,_,hq,_⟩:=dd';⟨q,hq⟩
 exact IU I2 (by rw [e];exact True.intro) hs he (ON hz hd (rk.merge .nil) dd')
structure M1 (X:Cx) (o:Expr) (m:Str) (apos:Pos) (e:Expr) (cpos:Pos):Prop where
 base:attributeBase o m X.env (eval o X.env)=eval o X.env
 few:((backTo cpos (starEach [e] X.env)).all (fun x=>!x.1)&&(backToKw cpos (keywordEach [] X.env)).all (fun x=>x.1.isSome)
  && decide (([e]:List Expr).length+([]:List Keyword).length+(if ([]:List Keyword).isEmpty then 0 else 1)<30))=true
 line:(apos.endLine==cpos.line)=true
 trees:backTo cpos (starEach [e] X.env)=[(false,eval e X.env)]
structure M2 (X:Cx) (o:Expr) (m:Str) (apos:Pos) (e f:Expr) (cpos:Pos):Prop where
 base:attributeBase o m X.env (eval o X.env)=eval o X.env
 few:((backTo cpos (starEach [e,f] X.env)).all (fun x=>!x.1)&&(backToKw cpos (keywordEach [] X.env)).all (fun x=>x.1.isSome)
  && decide (([e,f]:List Expr).length+([]:List Keyword).length+(if ([]:List Keyword).isEmpty then 0 else 1)<30))=true
 line:(apos.endLine==cpos.line)=true
 trees:backTo cpos (starEach [e,f] X.env)=[(false,eval e X.env),(false,eval f X.env)]
def IsD (H:Hp) (a:Addr):Prop:=(∃kvs,Rd H a (.dK kvs))\/∃kvs,Rd H a (.dT kvs)
theorem SS {X:Cx}{pins:List (Addr×Obj)}{σ:St}{H:Hp}{s:Shared}{a:Addr}(I:Inv X pins σ H s) (d:IsD H a) :
  s.TypeIs (.ref a) "dict" /\ (∀b,Value.ref a=.ref b→∃ob,s.heap.get? b=some ob/\ob.dict=none)/\(a==sysModules)=false:=by
 rcases d with ⟨kvs,e⟩|⟨kvs,e⟩
 ·obtain ⟨_,hd,vs,_,dd⟩:=NP I.hok e
  refine ⟨dd.typeIs,fun b q=>?_,hd⟩
  cases q
  obtain ⟨ob,_,_,h1,h2,_⟩:=dd
  exact ⟨ob,h1,h2.2.1⟩
 ·obtain ⟨_,hd,xs,_,dd⟩:=NO I.hok e
  refine ⟨dd.typeIs,fun b q=>?_,hd⟩
  cases q
  obtain ⟨ob,_,_,h1,h2,_⟩:=dd
  exact ⟨ob,h1,h2.2.1⟩
section
variable {X:Cx}{pins:List (Addr×Obj)}{σ:St}{H:Hp}{s:Shared}{a:Addr}{y d:V}{u r:Value}{o:Option V}{A:Around}{E:Value→Shared→Prop}
theorem Vb {Q:Value→Shared→Prop}(hu:A.units+1<cLine) (I:Inv X pins σ H s) (g:IK H a y o) (ry:RelV y u) (rd:RelV d r) (h:∀w' s',Inv X pins σ H s'→RelV (o.getD d) w'→Q w' s') :
  wpAny (model X.prog X.w) A (call (.builtin "dict.get") [.ref a,u,r]) Q E s:=by
 rcases g with ⟨kvs,k,e,ey,l⟩|⟨kvs,k,b,e,ey,eb,l⟩
 ·subst ey
  obtain ⟨z,hd,vs,rel,dd⟩:=NP I.hok e
  refine call_meetsIn PySem.F.slot_dict_get dd.typeIs PySem.F.entry_dict_get (PySem.F.args_dict_get_3 _ _ _) (meets_dict_get_default (Ah X.prog X.w) a (K0 ry) hd r) ⟨_,dd.mapOf,h _ _ (I.tok _) ?_⟩
  rw [l]
  exact (rel.val k).getD rd
 ·subst ey
  cases (show u=Value.ref b from ry)
  obtain ⟨z,hd,xs,rel,dd⟩:=NO I.hok e
  refine call_meetsIn PySem.F.slot_dict_get dd.typeIs PySem.F.entry_dict_get (PySem.F.args_dict_get_3 _ _ _) (meetsH_dict_get_default (tupleKind (Ah X.prog X.w)) a b hd r) ⟨tupleKind_room_in1 hu,k,xs,MD I.hok eb,dd,h _ _ (I.tok _) ?_⟩
  rw [l]
  exact (rel.val k).getD rd
end
def Ue (td ty tx:TE):TE:=fun σ H Q=>td σ H fun x H1=>∃a,x=.ref a/\IsD H1 a/\ty σ H1 fun y H2=>tx σ H2 fun z H3=>∃o,IK H3 a y o/\Q (o.getD z) H3
section
variable {X:Cx}{o e f:Expr}{apos cpos:Pos}{td ty tx:TE}
theorem Rj (hu:X.A.units+1<cLine) (ho:PE X o td) (he:PE X e ty) (hf:PE X f tx) (m:M2 X o "get" apos e f cpos):PE X (.Call (.Attribute o "get" apos) [e,f] [] cpos) (Ue td ty tx):=by
 intro pins s σ H Q I h
 refine wpAny_Call_method m.base m.few m.line PySem.F.plainAttrs_dict PySem.F.slot_dict_get PySem.F.type_dict_get (thn (ho pins s σ H _ I h) fun u s1 ⟨x,H1,I1,rx,a,ex,d,q1⟩=>?_)
 subst ex
 obtain rfl:u=Value.ref a:=rx
 obtain ⟨t1,t2,_⟩:=SS I1 d
 refine ⟨t1,t2,?_⟩
 rw [m.trees]
 refine Calls.callWith_builtin rfl (Calls.evalArgs_plain (Calls.spliced_cons (thn (he pins s1 σ H1 _ I1 q1) fun iv s2 ⟨y,H2,I2,ry,q2⟩ =>
  Calls.spliced_cons (thn (hf pins s2 σ H2 _ I2 q2) fun fv s3 ⟨z,H3,I3,rz,ov,g,q3⟩=>Calls.spliced_nil ?_))))
 exact Vb hu I3 g ry rz fun w' s4 I4 rw'=>⟨_,H3,I4,rw',q3⟩
end
section
variable {X:Cx}{pins:List (Addr×Obj)}{σ:St}{H:Hp}{s:Shared}{a:Addr}{kvs:List (Key×V)}{A:Around}{E:Value→Shared→Prop}
end
section
variable {X:Cx}{pins:List (Addr×Obj)}{σ:St}{H:Hp}{s:Shared}{a:Addr}{y:V}{u:Value}{A:Around}{E:Value→Shared→Prop}
end
end L2
namespace Att
open PySem PySem.W PySem.Calls PyProof.Rows
theorem IF {P:Params}{h:Heap}:∀(ns:List Int) (vs:List Value),WellAll P h vs (ns.map WData.int)→IntsAre vs ns:=by
 intro ns
 induction ns with
 | nil =>
  intro vs w
  rw [List.map_nil] at w
  cases w
  exact .nil
 | cons n ns ih =>
  intro vs w
  rw [List.map_cons] at w
  cases w with
  | cons a b =>
   cases a
   exact .cons _ _ (ih _ b)
theorem Pj {l:OpenLaw}{n:Nat}(hn:l.most=some n) {P:Params}{h:Heap}{args:List WData}{vals:List Value}
  (hpre:l.row.toRowW.claim.pre args=true) (hwl:WellAll P h vals args) :
  ∃a vs ns,vals=[Value.ref a]/\args=[WData.list (ns.map WData.int)]/\h.get? a=some { cls:=.type "list", data:=.seq vs.toArray }/\IntsAre vs ns/\ns.length≤n:=by
 have hsh:WShape.hasAll [] args [.list .int]=true:=(pre_splitW hpre).1
 have hc:l.pre.holds [] { args:=args }=true:=(pre_splitW hpre).2
 obtain ⟨d,r,rfl,h1,h2⟩:=hasAllW_cons hsh
 obtain rfl:=hasAllW_nil h2
 obtain ⟨xs,rfl,h3⟩:=hasW_list h1
 obtain ⟨ns,rfl⟩:=items_int h3
 have hlen:ns.length≤n:=by
  unfold OpenLaw.pre at hc
  have h4:(WTm.not (.lt (.lit (.int (n:Int))) (.len (.arg 0)))).holds [] { args:=[.list (ns.map .int)] }=true:=by
   have h4:=(holds_andW hc).1
   rw [hn] at h4
   exact h4
  have h5:=condW_of h4 (w_not (w_lt w_lit (w_len_list (w_arg rfl))))
  rw [List.length_map] at h5
  refine Nat.le_of_not_lt fun q=>?_
  have q':(n:Int)<((ns.length:Nat):Int):=by omega
  first
   | (rw [decide_eq_true q'] at h5;exact absurd h5 (by decide))
   | (simp at h5;omega)
 cases hwl with
 | cons w1 w2 =>
  cases w2
  cases w1 with
  | list ho hall=>exact ⟨_,_,ns,rfl,rfl,ho,IF ns _ hall,hlen⟩
theorem Pt (l:OpenLaw) (args:List WData):l.row.toRowW.claim.post args (.bool true) args=true :=
 postW_of (r:=l.row.toRowW) (X:=(true==true))
  (show WShape.has [] (.bool true) .bool=true by first|rfl|decide|simp [WShape.has,WShape.arms,WShape.armsAll])
  (show (WTm.eq .res (.lit (.bool true))).value [] { args:=args,res:=some (.bool true),after:=args }=some (.bool (true==true)) from w_eq_bool (w_res rfl) w_lit) rfl
theorem Nc {l:OpenLaw}{n:Nat}{q:Program}{loose:List Str}{XP:(Str→Option Value)→Heap→Prop}{YP:World→Heap→Prop}{d:DefRec}
  (hn:l.most=some n) (hdf:d.params.defaults=[])
  (call:∀(w:World) (s₀ s₁:Shared) (mg mb:Str→Option Value) (fa:Addr) (o:Obj) (pm cd doc:Value) (a:Addr) (vs:List Value) (ns:List Int),
   Ground q loose [] XP w s₀ mg mb s₁.heap→YP w s₁.heap →
   s₁.heap.get? fa=some o→o.data=.func (docDef d.name d.params d.body d.scope pm cd doc)→s₁.heap.CodeRec cd d.name→mg d.name=some (.ref fa) →
   s₁.heap.get? a=some { cls:=.type "list", data:=.seq vs.toArray }→IntsAre vs ns→ns.length≤n→s₁.gens=#[] →
   codeAny (model l.prog w) callerA (.call (.ref fa) ⟨[.ref a],[]⟩) (fun r s'=>r=.ok (.ret (.bool true))/\OldK s₁.heap s'.heap/\s'.os=s₁.os/\AllBare s'.gens) s₁) :
  WalkO q loose XP YP l.row.toRowW d [] (fun f vs=>PySem.call f vs):=by
 intro w s₀ s₁ mg mb G Y fa o pm cd doc dV kV ho hd hcd hD hmg hg args vals as hpre hlay hrd hwl hlo
 obtain rfl:dV=.none:=Dflts.none hD hdf
 obtain rfl:kV=.none:=Dflts.noKw hD
 obtain ⟨a,vs,ns,rfl,rfl,hobj,hints,hlen⟩:=Pj hn hpre hwl
 refine enter_call (codeAny_mono (call w s₀ s₁ mg mb fa o pm cd doc a vs ns G Y ho (fd_plain hd) hcd hmg hobj hints hlen hg) fun r s' hq=>?_)
 obtain ⟨rfl,h2,h3,h4⟩:=hq
 exact ⟨.inl ⟨.bool true,.bool true,[],rfl,fun _=>rfl,.bool true,Pt l _,fun _=>⟨List.Pairwise.nil,fun _ hm=>(nomatch hm)⟩⟩,h2,h3,h4⟩
section
variable {prog:Program}{w:World}{A:Around}{E:Value→Shared→Prop}{s:Shared}{K:Frag}
end
end Att
namespace L2
open PySem PySem.Spec PyProof.Rows
theorem KZ:∀{vs:List Value}{ns:List Int},IntsAre vs ns→Vals (ns.map V.int) vs
 | _,_,.nil=>.nil
 | _,_,.cons n t h=>.cons ⟨t,rfl⟩ (KZ h)
def Sr (H:Hp):Prop:=∀b,H b=none\/∃o xs,H b=some (.frz o (.lst xs))
theorem SM {P:Program}{w:World}{K:PySem.W.Frag}{mg mb:Str→Option Value}{CX:CXT}{k:Nat}{fa a:Addr}{fd:FuncData}{x:Str}{sp:Sp}{s₁:Shared}{vs:List Value}{ns:List Int}
  (KX:K.In s₁.heap) (hns:s₁.heap.Ns mainGlobals mg) (hb:s₁.heap.Ns builtinsNs mb) (hbb:∀x:Str,x ≠ "__name__" → mb x=bootBuiltins x) (hlim:s₁.heap.NoLimit) (hg:s₁.gens=#[])
  (ha:s₁.heap.get? a=some { cls:=.type "list", data:=.seq vs.toArray }) (hi:IntsAre vs ns) (hl:ns.length≤sizeLine) (hr:DC k callerA)
  (F:∀base:Heap,K.In base→base.Ns mainGlobals mg→BM P w K mg base CX k fa fd [x] sp) (hbind:∀(s:Shared) (u:Value),BindsTo s fd ⟨[u],[]⟩ [(x,u)])
  (hsp:∀H:Hp,Sr H→SqL K H a (ns.map V.int)→sp [.ref a] H (fun v _=>v=.bl true) fun _ _ _=>False)
  (hCX:∀H e s',CX [] H s₁ (fun _ _ _=>False) e s'→False) :
  codeAny (model P w) callerA (.call (.ref fa) ⟨[.ref a],[]⟩) (fun r s'=>r=.ok (.ret (.bool true))/\OldK s₁.heap s'.heap/\s'.os=s₁.os/\AllBare s'.gens) s₁:=by
 have rv:=KZ hi
 have lenV:=hi.length
 have core:∀H:Hp,Sr H→SqL K H a (ns.map V.int)→HOk P w H s₁.heap→(∀b,H b≠none→b=a)→(H a≠none→K.lookup a=none) →
   codeAny (model P w) callerA (.call (.ref fa) ⟨[.ref a],[]⟩) (fun r s'=>r=.ok (.ret (.bool true))/\OldK s₁.heap s'.heap/\s'.os=s₁.os/\AllBare s'.gens) s₁:=by
  intro H hO hS hok hA hK
  have base_of:∀{b:Addr} {o:Obj},s₁.heap.get? b=some o→H b=none→(MG s₁.heap H).get? b=some o:=fun e n=>SV e n
  have noA:∀{b:Addr} {o:Obj} {es:Array DictEntry} {ep:Nat},s₁.heap.get? b=some o→o.data=.dict es ep→H b=none:=fun {b o es ep} e d=>by
   cases q:H b with
   | none=>rfl
   | some u =>
    have e':b=a:=hA b (by rw [q];simp)
    subst e'
    rw [ha] at e;cases e
    have d':Data.seq vs.toArray _=Data.dict es ep:=d
    cases d'
  have nsK:∀{b:Addr} {m:Str→Option Value},s₁.heap.Ns b m→(MG s₁.heap H).Ns b m:=fun {b m} ⟨o,es,ep,e,d,r⟩=>⟨o,es,ep,base_of e (noA e d),d,r⟩
  have hKb:K.In (MG s₁.heap H):=fun b o e=>base_of (KX b o e) (by
   cases q:H b with
   | none=>rfl
   | some u =>
    have e':b=a:=hA b (by rw [q];simp)
    subst e'
    rw [hK (by rw [q];simp)] at e;cases e)
  have hM:Mod K mg (MG s₁.heap H):=⟨hKb,nsK hns,⟨mb,nsK hb,hbb⟩,let ⟨mc,h1,h2⟩:=hlim;⟨mc,nsK h1,h2⟩⟩
  have e0:UH P w K mg (MG s₁.heap H) callerA [] s₁ H:=⟨rfl,hM,fun b o e=>Ti e,Nat.le_of_eq (QN _ _),trivial,fun b hb=>absurd (show b∈([]:List Addr) from hb) (by simp),hok,.of_eq hg⟩
  refine codeAny_mono ((F _ hKb (nsK hns)).run callerA [] s₁ H ⟨[.ref a],[]⟩ [.ref a] [.ref a] _ _ hr e0 (hbind s₁ (.ref a)) (.cons rfl .nil) (hsp H hO hS)) fun r s' h=>?_
  cases r with
  | error e=>exact (hCX H e s' h).elim
  | ok fl =>
   cases fl with
   | next=>exact False.elim h
   | brk=>exact False.elim h
   | cont=>exact False.elim h
   | ret u =>
    obtain ⟨v,H',os,bare,un,hok',r',q⟩:=h
    have q':v=.bl true:=q
    subst q'
    obtain rfl:u=Value.bool true:=r'
    refine ⟨rfl,OldK.of_keep fun b o e=>?_,os,bare⟩
    cases q:H b with
    | none=>exact un.keep b o e q (by intro z;exact absurd (show b∈([]:List Addr) from z) (by simp)) (by simp)
    | some u =>
     rcases hO b with z|⟨ob,xs,z⟩
     ·rw [q] at z;cases z
     ·have z2:=un.KO b ob _ z
      obtain ⟨e1,_⟩:=hok b _ z
      obtain ⟨e2,_⟩:=hok' b _ z2
      rw [e] at e1;cases e1
      exact e2
 cases hk:K.lookup a with
 | some o =>
  have e:=KX a o hk
  rw [ha] at e
  cases e
  refine core (fun _=>none) (fun _=>.inl rfl) (.inr ⟨_,vs.toArray,_,hk,rfl,rfl,rfl,by rw [List.size_toArray,lenV];exact hl,by simpa using rv⟩) (fun b u z=>by have z':(none:Option HO)=some u:=z;cases z') (fun b z=>absurd rfl z) fun z=>absurd rfl z
 | none =>
  refine core (fun b=>if b=a then some (.frz { cls:=.type "list", data:=.seq vs.toArray } (.lst (ns.map V.int))) else none) (fun b=>?_) (.inl (.inr ⟨{ cls:=.type "list", data:=.seq vs.toArray },if_pos rfl⟩)) (fun b u z=>?_) (fun b z=>?_) fun _=>hk
  ·by_cases hb:b=a
   ·exact .inr ⟨_,_,if_pos hb⟩
   ·exact .inl (if_neg hb)
  ·by_cases hb:b=a
   ·have z':=(if_pos hb).symm.trans z
    cases z'
    subst hb
    exact ⟨ha,by rw [List.length_map];exact hl,vs,_,rv,ha⟩
   ·have z':=(if_neg hb).symm.trans z
    cases z'
  ·by_cases hb:b=a
   ·exact hb
   ·exact absurd (if_neg hb) z
end L2
namespace L2
open PySem PySem.Spec PyProof.Rows
theorem Sw {l:PySem.W.OpenLaw}{n k:Nat}{q:Program}{loose:List Str}{XP:(Str→Option Value)→Heap→Prop}{YP:World→Heap→Prop}{d:DefRec}{K:Params→PySem.W.Frag}{CX:World→CXT}{sp:World→Sp}{x:Str}
  (hn:l.most=some n) (hn2:n≤sizeLine) (hdf:d.params.defaults=[]) (hr:DC k callerA)
  (hY:∀(w:World) (h:Heap),YP w h→(K w.params).In h)
  (F:∀(w:World) (mg:Str→Option Value) (fa:Addr) (h:Heap),(K w.params).In h→h.Ns mainGlobals mg→mg d.name=some (.ref fa) →
   ∃fd:FuncData,(∀(s:Shared) (u:Value),BindsTo s fd ⟨[u],[]⟩ [(x,u)]) /\
    ∀base:Heap,(K w.params).In base→base.Ns mainGlobals mg→BM l.prog w (K w.params) mg base (CX w) k fa fd [x] (sp w))
  (hsp:∀(w:World) (H:Hp) (a:Addr) (ns:List Int),ns.length≤n→Sr H→SqL (K w.params) H a (ns.map V.int)→sp w [.ref a] H (fun v _=>v=.bl true) fun _ _ _=>False)
  (hCX:∀(w:World) (H:Hp) (s:Shared) (e:Value) (s':Shared),CX w [] H s (fun _ _ _=>False) e s'→False) :
  PySem.W.WalkO q loose XP YP l.row.toRowW d [] (fun f vs=>PySem.call f vs):=by
 refine Att.Nc hn hdf fun w s₀ s₁ mg mb fa o pm cd doc a vs ns G Y ho hd hcd hmg hobj hints hlen hg=>?_
 have KX:=hY w _ Y
 obtain ⟨fd,hb,hF⟩:=F w mg fa _ KX G.T.g hmg
 exact SM KX G.T.g G.T.b G.T.builtins G.T.nolimit hg hobj hints (Nat.le_trans hlen hn2) hr hF hb (fun H hO hS=>hsp w H a ns hlen hO hS) fun H e s'=>hCX w H s₁ e s'
theorem Qt {l:PySem.W.OpenLaw}{n k:Nat}{q:Program}{loose:List Str}{XP:(Str→Option Value)→Heap→Prop}{YP:World→Heap→Prop}{d:DefRec}{K:Params→PySem.W.Frag}{CX:CXT}{sp:PySem.W.Frag→Sp}{x:Str}
  (hn:l.most=some n) (hn2:n≤sizeLine) (hdf:d.params.defaults=[]) (hr:DC k callerA)
  (hY:∀(w:World) (h:Heap),YP w h→(K w.params).In h)
  (F:∀(w:World) (mg:Str→Option Value) (fa:Addr) (h:Heap),(K w.params).In h→h.Ns mainGlobals mg→mg d.name=some (.ref fa) →
   ∃fd:FuncData,(∀(s:Shared) (u:Value),BindsTo s fd ⟨[u],[]⟩ [(x,u)]) /\
    ∀base:Heap,(K w.params).In base→base.Ns mainGlobals mg→BM l.prog w (K w.params) mg base CX k fa fd [x] (sp (K w.params)))
  (hsp:∀(K:PySem.W.Frag) (H:Hp) (a:Addr) (ns:List Int),ns.length≤n→Sr H→SqL K H a (ns.map V.int)→sp K [.ref a] H (fun v _=>v=.bl true) fun _ _ _=>False)
  (hCX:∀(H:Hp) (s:Shared) (e:Value) (s':Shared),CX [] H s (fun _ _ _=>False) e s'→False) :
  PySem.W.WalkO q loose XP YP l.row.toRowW d [] (fun f vs=>PySem.call f vs) :=
 Sw (K:=K) (CX:=fun _=>CX) (sp:=fun w=>sp (K w.params)) hn hn2 hdf hr hY F (fun w H a ns h1 h2 h3=>hsp (K w.params) H a ns h1 h2 h3) fun _ H s e s'=>hCX H s e s'
end L2
namespace L2
open PySem PySem.Spec PyProof.Rows
def IT (s:Stmt):Arguments:=match s with
 | .FunctionDef _ a _ _ _ _ _ _ _ _=>a
 | _=>{ posonlyargs:=[],args:=[],vararg:=none,kwonlyargs:=[],kw_defaults:=[],kwarg:=none,defaults:=[] }
def Gy (s:Stmt):List Stmt:=match s with
 | .FunctionDef _ _ b _ _ _ _ _ _ _=>b
 | _=>[]
def AL (s:Stmt):Scope:=match s with
 | .FunctionDef _ _ _ _ _ _ sc _ _ _=>sc
 | _=>{ kind:=.function,names:=[],isGenerator:=false,isCoroutine:=false }
abbrev CX0:CXT:=fun _ _ _ _ _ _=>False
abbrev E0:XK:=fun _ _ _=>False
theorem Rm {X:Cx}:Passes CX0 X E0:=fun _ _ _ _ _ _ _ h=>h.elim
structure Fun (K:PySem.W.Frag) (x qual:Str) (st:Stmt) (f:Addr) (fd:FuncData):Prop where
 ex:∃(oc:Value) (od:Option Addr) (kV doc pm:Value) (an:Option Addr) (cdv ct:Value) (osl:Array (Option Value)),
  fd=PySem.W.fnOf x qual (IT st) (Gy st) (AL st) .none kV doc pm an cdv ct/\K.lookup f=some ⟨oc,od,.func fd,osl⟩/\PySem.W.codeIn K cdv qual=true
 kp:PySem.W.keepIn K (.ref f)=true
section
variable {P:Program}{w:World}{K:PySem.W.Frag}{mg:Str→Option Value}{base:Heap}
theorem Fun.ok {x qual:Str}{st:Stmt}{f:Addr}{fd:FuncData}{N ps:List Str}{k:Nat}{sp:Sp}(F:Fun K x qual st f fd) (S:Aa N ps (AL st)) (len:∀vs H Q E,sp vs H Q E→vs.length=ps.length)
  (hbody:∀(cdv:Value) (A:Around) (outer:List Env) (s:Shared) (H:Hp) (vs:List V) (Q:VK) (E:XK),DC k (A.deeper (envOfC qual (AL st) s.heap.objs.size f cdv))→sp vs H Q E →
   ∃t,PSs (QV CX0 P w K mg base N qual (AL st) f cdv A outer s H E).nox (Gy st) t/\t { nx:=fun _ H'=>Q .non H',rt:=Q } (start N vs) H):BM P w K mg base CX0 (k+1) f fd ps sp:=by
 obtain ⟨oc,od,kV,doc,pm,an,cdv,ct,osl,rfl,lk,hcd⟩:=F.ex
 refine WM lk hcd S len fun A outer s H vs Q E hr hsp=>?_
 obtain ⟨t,h,q⟩:=hbody cdv A outer s H vs Q E hr hsp
 exact ⟨t,h.nox,q⟩
theorem Fun.binds {x qual:Str}{st:Stmt}{f:Addr}{fd:FuncData}{ps:List Str}(F:Fun K x qual st f fd)
  (h:∀(kV doc pm:Value) (an:Option Addr) (cdv ct:Value) (us:List Value),us.length=ps.length→bindArgs (PySem.W.fnOf x qual (IT st) (Gy st) (AL st) .none kV doc pm an cdv ct) ⟨us,[]⟩=pure (ps.zip us)):Binds K fd ps []:=by
 obtain ⟨oc,od,kV,doc,pm,an,cdv,ct,osl,rfl,lk,hcd⟩:=F.ex
 exact .all (h kV doc pm an cdv ct)
theorem VY {x qual:Str}{st:Stmt}{f:Addr}{oc:Value}{od an:Option Addr}{osl:Array (Option Value)}{kV doc pm cdv ct:Value}(l:K.lookup f=some ⟨oc,od,.func (PySem.W.fnOf x qual (IT st) (Gy st) (AL st) .none kV doc pm an cdv ct),osl⟩)
  (c:PySem.W.codeIn K cdv qual=true) (k:PySem.W.keepIn K (.ref f)=true):Fun K x qual st f (PySem.W.fnOf x qual (IT st) (Gy st) (AL st) .none kV doc pm an cdv ct):=⟨⟨oc,od,kV,doc,pm,an,cdv,ct,osl,rfl,l,c⟩,k⟩
end
section
variable {X:Cx}
theorem pv (i:Nat) {x:Str}{pos:Pos}(hN:X.N[i]?=some x:=by rfl) (hv:Vis X.env.scope x:=by first|exact Or.inl rfl|exact Or.inr (Or.inl rfl)|exact Or.inr (Or.inr rfl)) (hd:(x==("__debug__" : Str))=false:=by decide)
  (hcd:(x==("__classdict__" : Str))=false:=by decide):PE X (.Name x pos) (Vi i):=Rh hN hv hd hcd
end
section
variable {X:Cx}
end
theorem ES {A B:Prop}(h:B):if false=true then A else B:=by
 rw [if_neg Bool.false_ne_true]
 exact h
theorem VT {A B:Prop}(h:A):if true=true then A else B:=by
 rw [if_pos rfl]
 exact h
def AK (H H':Hp):Prop:=∀b o,H b=some o→H' b=some o
theorem AK.refl (H:Hp):AK H H:=fun _ _ h=>h
theorem AK.trans {H H1 H2:Hp}(a:AK H H1) (b:AK H1 H2):AK H H2:=fun c o h=>b c o (a c o h)
theorem AK.free {H H':Hp}(e:AK H H') {l:Addr}(h:H' l=Option.none):H l=Option.none:=by
 cases q:H l with
 | none=>rfl
 | some o =>
  rw [e l o q] at h
  cases h
theorem AK.seq {K:PySem.W.Frag}{H H':Hp}{a:Addr}{xs:List V}(e:AK H H') (h:SqL K H a xs):SqL K H' a xs:=by
 rcases h with (h|⟨o,h⟩)|h
 ·exact .inl (.inl (e _ _ h))
 ·exact .inl (.inr ⟨o,e _ _ h⟩)
 ·exact .inr h
section
variable {κ:Type}[DecidableEq κ]
theorem Qu {kvs:List (κ×V)}{k:κ}(h:BL kvs k=none):¬ k∈kvs.map (·.1):=by
 intro m
 obtain ⟨p,hp,e⟩:=List.mem_map.mp m
 have q:(kvs.any fun kv=>decide (kv.1=k))=true:=List.any_eq_true.mpr ⟨p,hp,decide_eq_true e⟩
 rw [E8,h] at q
 exact absurd q (by simp)
theorem Om:∀{l:List κ}{k:κ},l.Nodup→¬ k∈l→(l++[k]).Nodup
 | [],k,_,_=>by simp
 | a::r,k,h,hk=>by
  obtain ⟨h1,h2⟩:=List.nodup_cons.mp h
  show (a::(r++[k])).Nodup
  refine List.nodup_cons.mpr ⟨fun m=>?_,Om h2 fun m=>hk (List.mem_cons.mpr (Or.inr m))⟩
  rcases List.mem_append.mp m with q|q
  ·exact h1 q
  ·exact hk (List.mem_cons.mpr (Or.inl (List.mem_singleton.mp q).symm))
end
end L2
namespace L2
open PySem PySem.Spec PyProof.Rows
theorem HOk.UK {P:Program}{w:World}{H:Hp}{h:Heap}{a:Addr}{o:HO}(x:HOk P w H h) (hn:H a=none) (new:BB P w (upd H a o) h a o):HOk P w (upd H a o) h:=by
 intro b u e
 by_cases hb:b=a
 ·subst hb
  rw [AE] at e
  cases e
  exact new
 ·rw [AO hb] at e
  refine (x b u e).Nm (fun _ _ _ q=>q) (fun c q=>?_) fun c xs q=>?_
  ·rw [AO (AM q hn)];exact q
  ·rw [AO (AM q hn)];exact q
def Cq (env:Env) (cs:List (Str×Addr)) (x:Str×NameKind):List (Str×Addr):=if x.2=.free then (x.1,(env.cells.lookup x.1).getD 0)::cs else cs
def Hh (env:Env) (names:List (Str×NameKind)):List (Str×Addr):=names.foldl (Cq env) []
theorem Jp {α β:Type}{f:α→β→Sem (ForInStep β)}{g:β→α→β}:∀(l:List α) (acc:β),(∀x∈l,∀c,f x c=pure (.yield (g c x)))→forIn l acc f=pure (l.foldl g acc)
 | [],acc,_=>rfl
 | x::l,acc,h=>by
  rw [List.forIn_cons,h x List.mem_cons_self acc]
  show forIn l (g acc x) f=_
  rw [Jp l (g acc x) fun y hy=>h y (List.mem_cons_of_mem _ hy)]
  rfl
theorem KQ {scope:Scope}{env:Env}(h:∀y∈scope.names,y.2=.free→∃c,env.cells.lookup y.1=some c):closureFor scope env=pure (Hh env scope.names):=by
 simp only [closureFor]
 rw [Jp (g:=Cq env) scope.names [] fun x hx c=>by
  obtain ⟨n,kind⟩:=x
  by_cases hk:kind=.free
  ·subst hk
   obtain ⟨a,ha⟩:=h _ hx rfl
   have ha':env.cells.lookup n=some a:=ha
   simp only [beq_self_eq_true,if_true,Cq,cellOf,ha',Option.getD_some]
   rfl
  ·have hb:(kind==NameKind.free)=false:=by simpa using hk
   simp only [hb,Bool.false_eq_true,if_false,Cq,hk]]
 rfl
theorem LH {env:Env}{y:Str}{c:Addr}:∀(names:List (Str×NameKind)) (acc:List (Str×Addr)),(names.foldl (Cq env) acc).lookup y=some c →
  acc.lookup y=some c\/((y,NameKind.free)∈names/\(env.cells.lookup y).getD 0=c)
 | [],acc,h=>.inl h
 | (n,k)::r,acc,h=>by
  rw [List.foldl_cons] at h
  rcases LH r _ h with q|⟨q,z⟩
  ·unfold Cq at q
   by_cases hk:k=.free
   ·rw [if_pos hk,List.lookup_cons] at q
    cases hy:y==n with
    | true =>
     rw [hy] at q
     have e:y=n:=eq_of_beq hy
     subst e hk
     exact .inr ⟨List.mem_cons_self,Option.some.inj q⟩
    | false =>
     rw [hy] at q
     exact .inl q
   ·rw [if_neg hk] at q
    exact .inl q
  ·exact .inr ⟨List.mem_cons_of_mem _ q,z⟩
theorem Jw {env:Env}{y:Str}:∀(names:List (Str×NameKind)) (acc:List (Str×Addr)),((y,NameKind.free)∈names\/∃c,acc.lookup y=some c)→∃c,(names.foldl (Cq env) acc).lookup y=some c
 | [],acc,h=>by
  rcases h with h|h
  ·cases h
  ·exact h
 | (n,k)::r,acc,h=>by
  rw [List.foldl_cons]
  refine Jw r _ ?_
  by_cases hy:(y,NameKind.free)∈r
  ·exact .inl hy
  ·refine .inr ?_
   rcases h with h|⟨c,h⟩
   ·rcases List.mem_cons.mp h with e|e
    ·cases e
     exact ⟨_,by unfold Cq;rw [if_pos rfl,List.lookup_cons_self]⟩
    ·exact absurd e hy
   ·unfold Cq
    by_cases hk:k=.free
    ·rw [if_pos hk,List.lookup_cons]
     cases y==n with
     | true=>exact ⟨_,rfl⟩
     | false=>exact ⟨c,h⟩
    ·rw [if_neg hk]
     exact ⟨c,h⟩
theorem MI {prog:Program}{w:World}{A:Around}{R:Result→Shared→Prop}{s:Shared}{elt target iter:Expr}{ifs:List Expr}{scope:Scope}{pos:Pos}{it acc:Value}{env:Env}(I:Nat→Shared→Prop)
  (turn:∀n s,I n s→wpAny (model prog w) A (pyNext it) (fun r s₁=>match r with
   | none=>R (.ok .next) s₁
   | some v=>wpAny (model prog w) A (letOwnedTupleGo target it v) (fun _ s₁'=>wpAny (model prog w) A (assign target env v) (fun _ s₂ =>
     wpAny (model prog w) A (forIn ifs true fun c r=>if r=true then do let ok ← isTrue c env (eval c env);pure (ForInStep.yield ok) else pure (ForInStep.yield r)) (fun ok s₃ =>
      if ok=true then wpAny (model prog w) A (eval elt env) (fun x s₄ =>
       wpAny (model prog w) A (call (.builtin "list.append") [acc,x]) (fun _ s₅=>∃m,m<n/\I m s₅) (fun _ _=>False) s₄) (fun _ _=>False) s₃
      else ∃m,m<n/\I m s₃) (fun _ _=>False) s₂) (fun _ _=>False) s₁') (fun _ _=>False) s₁) (fun _ _=>False) s)
  (n:Nat) (h:I n s) :
  codeAny (model prog w) A (.compLoop (.ListComp elt [⟨target,iter,ifs,0⟩] scope pos) 0 it acc env) R s:=by
 refine codeAny_loop rfl I (fun n s hI=>?_) n h
 show wpAny _ A ((compTurn (.ListComp elt [⟨target,iter,ifs,0⟩] scope pos) 0 it acc env).onRaise (fun x=>do noteFrame x env;theTreesLotGoes x)) _ _ s
 refine wpAny_noted ?_
 rw [compTurn_list]
 refine wpAny_bind (wpAny_standAt (wpAny_bind (wpAny_mono (turn n s hI) (fun r s₁ h₁=>?_) fun _ _ h'=>h'.elim)))
 cases r with
 | none=>exact wpAny_pure h₁
 | some v =>
  refine wpAny_bind (wpAny_mono h₁ (fun _ s₁' h₁'=>?_) fun _ _ h'=>h'.elim)
  refine wpAny_bind (wpAny_mono h₁' (fun _ s₂ h₂=>wpAny_bind (wpAny_mono h₂ (fun ok s₃ h₃=>?_) fun _ _ h'=>h'.elim)) fun _ _ h'=>h'.elim)
  cases ok with
  | false=>exact wpAny_pure ⟨rfl,h₃⟩
  | true =>
   exact wpAny_bind (wpAny_bind (wpAny_mono h₃ (fun x s₄ h₄=>wpAny_bind (wpAny_mono h₄ (fun _ s₅ h₅=>wpAny_pure (wpAny_pure ⟨rfl,h₅⟩)) fun _ _ h'=>h'.elim)) fun _ _ h'=>h'.elim))
def PTs (X:Cx) (ifs:List Expr) (t:TT):Prop :=
 ∀(pins:List (Addr×Obj)) (s:Shared) (σ:St) (H:Hp) (Q:Bool→Hp→Prop),Inv X pins σ H s→t σ H Q →
  wpAny (model X.prog X.w) X.A (forIn ifs true fun c r=>if r=true then do let ok ← isTrue c X.env (eval c X.env);pure (ForInStep.yield ok) else pure (ForInStep.yield r)) (TP X pins σ Q) X.xe s
def Q2:TT:=fun _ H Q=>Q true H
theorem Bc {X:Cx}:PTs X [] Q2:=fun pins s σ H Q I h=>wpAny_tests_nil ⟨H,I,h⟩
theorem Dd {X:Cx}{c:Expr}{t:TT}(h:PT X c t):PTs X [c] t:=fun pins s σ H Q I hw=>wpAny_tests_one (h pins s σ H Q I hw)
def Av (X:Cx) (scope:Scope) (N:List Str) (C:Addr) (s:Shared) (H:Hp) (ex:List Addr):Cx :=
 { X with N:=N,s₀:=s,H₀:=H,env:=compEnvC scope (Hh X.env scope.names) C X.env,outer:=X.stack,stack:=X.stack,ex:=ex,fn:=fun _=>false,pn:=[],xe:=fun _ _=>False }
def pick (σ:St) (j:Nat):Option V:=(σ[j]?).getD none
def HE (n0:Nat) (fr:List Nat) (g:TG) (tt:TT) (te:TE) (σ:St) (Q:VK) (J:It) (H1:Hp):Prop:=∃W:Nat→Nat→St→List V→Hp→Prop,
 (∃m,W 0 m (List.replicate n0 none++fr.map (pick σ)) [] H1)/\∀i m τ acc H,W i m τ acc H →
  (J.stop i H/\∀D,H D=none→Q (.ref D) (upd H D (.lst acc))) \/
  (J.go i H/\acc.length<sizeLine/\∀x H',J.yld i H x H'→g x τ H' fun τ1 H1=>tt τ1 H1 fun b H2 =>
   if b=true then te τ1 H2 fun y H3=>∃m',m'<m/\W (i+1) m' τ1 (acc++[y]) H3 else ∃m',m'<m/\W (i+1) m' τ1 acc H2)
def Hr (n0:Nat) (fr:List Nat) (wi:TI) (g:TG) (tt:TT) (te:TE):TE:=fun σ H Q=>wi σ H (HE n0 fr g tt te σ Q)
theorem GY {env:Env}:∀{names:List (Str×NameKind)}{y:Str},(∀z∈names,z.2≠.cell) →
    ((names.map fun (n,k)=>if (k==NameKind.free&&env.scope.kind==.function&&env.kindOf n==some .cell) then (n,NameKind.cell) else (n,k)).lookup y=some .cell \/
     (names.map fun (n,k)=>if (k==NameKind.free&&env.scope.kind==.function&&env.kindOf n==some .cell) then (n,NameKind.cell) else (n,k)).lookup y=some .free)→(y,NameKind.free)∈names
  | [],y,_,h=>by simp at h
  | (n,k)::r,y,hc,h=>by
    have ih:=@GY env r y fun z hz=>hc z (List.mem_cons_of_mem _ hz)
    by_cases hy:y=n
    · subst hy
      by_cases hk:k=.free
      · subst hk;exact List.mem_cons_self
      · have hkb:(k==NameKind.free)=false:=by simpa using hk
        simp only [List.map_cons,hkb,Bool.false_and,Bool.false_eq_true,if_false,List.lookup_cons_self,Option.some.injEq] at h
        rcases h with h|h
        · exact absurd h (hc _ List.mem_cons_self)
        · exact absurd h hk
    · have hyb:(y==n)=false:=by simpa using hy
      refine List.mem_cons_of_mem _ (ih ?_)
      simp only [List.map_cons] at h
      by_cases hcnd:(k==NameKind.free&&env.scope.kind==.function&&env.kindOf n==some .cell)=true
      · rw [if_pos hcnd] at h
        simp only [List.lookup_cons,hyb] at h
        exact h
      · rw [if_neg hcnd] at h
        simp only [List.lookup_cons,hyb] at h
        exact h
theorem DU {env:Env}:∀{names:List (Str×NameKind)}{y:Str},names.lookup y=some .free →
    (names.map fun (n,k)=>if (k==NameKind.free&&env.scope.kind==.function&&env.kindOf n==some .cell) then (n,NameKind.cell) else (n,k)).lookup y=some .cell \/
     (names.map fun (n,k)=>if (k==NameKind.free&&env.scope.kind==.function&&env.kindOf n==some .cell) then (n,NameKind.cell) else (n,k)).lookup y=some .free
  | [],y,h=>by simp at h
  | (n,k)::r,y,h=>by
    have ih:=@DU env r y
    simp only [List.map_cons]
    cases hy:y==n with
    | true =>
      simp only [List.lookup_cons,hy] at h
      cases h
      by_cases hcnd:(NameKind.free==NameKind.free&&env.scope.kind==.function&&env.kindOf n==some .cell)=true
      · rw [if_pos hcnd];simp [List.lookup_cons,hy]
      · rw [if_neg hcnd];simp [List.lookup_cons,hy]
    | false =>
      simp only [List.lookup_cons,hy] at h
      by_cases hcnd:(k==NameKind.free&&env.scope.kind==.function&&env.kindOf n==some .cell)=true
      · rw [if_pos hcnd];simp only [List.lookup_cons,hy];exact ih h
      · rw [if_neg hcnd];simp only [List.lookup_cons,hy];exact ih h
def II (X:Cx) (scope:Scope):List (Str×Nat)→Prop
 | []=>True
 | p::r=>X.N[p.2]?=some p.1/\scope.names.lookup p.1=some .free/\II X scope r
theorem II.all {X:Cx}{scope:Scope}:∀{fr:List (Str×Nat)},II X scope fr→∀p∈fr,X.N[p.2]?=some p.1/\scope.names.lookup p.1=some .free
 | p::r,h,q,hq=>by
  rcases List.mem_cons.mp hq with e|e
  ·subst e;exact ⟨h.1,h.2.1⟩
  ·exact II.all h.2.2 q e
section
variable {X:Cx}
theorem LG {tg iter elt:Expr}{ifs:List Expr}{scope:Scope}{wi:TI}{g:TG}{tt:TT}{te:TE}{own:List Str}{fr:List (Str×Nat)}{pos p0:Pos}{use:Option (Value→Sem Unit)}{PQ:Value→Shared→Prop}{pins:List (Addr×Obj)}{s:Shared}{σ:St}{H:Hp}{Q:VK}
  (hc:X.calm=true) (hi:PI X tg iter wi)
  (hk:scope.kind=.function) (hcell:∀y∈scope.names,y.2≠.cell) (hnames:∀y∈scope.names,y.2=.local→scope.names.lookup y.1=some .local)
  (hfree:∀y∈scope.names,y.2=.free→X.env.kindOf y.1=some .cell\/X.env.kindOf y.1=some .free) (hfr:II X scope fr)
  (hg:∀C s H ex,PG (Av X scope (own++fr.map (·.1)) C s H ex) tg g)
  (ht:∀C s H ex,PTs (Av X scope (own++fr.map (·.1)) C s H ex) ifs tt)
  (he:∀C s H ex,PE (Av X scope (own++fr.map (·.1)) C s H ex) elt te)
  (hs:∀x,foldedSetIterable iter X.env x=pure x)
  (I:Inv X pins σ H s) (h:Hr own.length (fr.map (·.2)) wi g tt te σ H Q)
  (fin:∀(D C:Addr) m (s4:Shared) (H5:Hp) v,Inv X pins σ H5 s4→s4.heap.Ns C m→H5 C=none→C≠X.env.locals→X.s₀.heap.objs.size≤C→(∀x c,X.env.cells.lookup x=some c→c≠C)→(∀p∈X.pn++pins,p.1≠C)→Q (.ref D) H5→compPost (model X.prog X.w) X.A X.xe use PQ (.ref D) C (.ok v) s4) :
  wpAny (model X.prog X.w) X.A (comprehension (.ListComp elt [⟨tg,iter,ifs,0⟩] scope pos) scope X.env p0 (newList []) false (eval iter X.env) use) PQ X.xe s:=by
 have hcl:∀y c,(Hh X.env scope.names).lookup y=some c→X.env.cells.lookup y=some c:=fun y c e=>by
  rcases LH scope.names [] e with q|⟨q,z⟩
  ·simp at q
  ·obtain ⟨c',e'⟩:=I.ok.has y (hfree _ q rfl)
   rw [e'] at z
   rw [e',←z]
   rfl
 have hclos:closureFor scope X.env=pure (Hh X.env scope.names):=KQ fun y hy e=>I.ok.has y.1 (hfree y hy e)
 refine wpAny_comprehension_free (use:=use) (cl:=Hh X.env scope.names) (Q:=PQ) rfl hs hclos hk hnames ?_
 refine thn (hi pins s σ H _ I h) fun v s1 h1=>thn h1 fun itv s2 h2=>?_
 obtain ⟨it,fp,tn,J,H2,e,I2,T,st2,f2,W,⟨m0,w0⟩,turn⟩:=h2
 subst e
 refine wpAny_newObj_type (wpAny_newFunctionEnv hcell (by intro y hy;simp at hy) (fun h₁ hns₁ hsb₁=>?_) hk)
 dsimp only at hns₁ hsb₁ ⊢
 generalize hH2:s2.heap.push { cls:=.type "list", dict:=none,data:=.seq ([]:List Value).toArray }=HL at hns₁ hsb₁ ⊢
 have hC:HL.objs.size=s2.heap.objs.size+1:=by rw [←hH2,Heap.size_push]
 generalize hCC:HL.objs.size=C at hns₁ hsb₁ hC ⊢
 have hDC:s2.heap.objs.size≠C:=by rw [hC];exact Nat.ne_of_lt (Nat.lt_succ_self _)
 have below:∀b,b<s2.heap.objs.size→b≠C/\b≠s2.heap.objs.size:=fun b hb=>⟨by rw [hC];exact Nat.ne_of_lt (Nat.lt_succ_of_lt hb),Nat.ne_of_lt hb⟩
 have old:∀b o,s2.heap.get? b=some o→h₁.get? b=some o:=fun b o e=>hsb₁.extBut b o (below b (Heap.lt_size e)).1 (Heap.get?_push_of_some _ (hH2 ▸ Heap.get?_push_of_some _ e))
 have eD0:h₁.get? s2.heap.objs.size=some { cls:=.type "list", data:=.seq ([]:List Value).toArray }:=hsb₁.extBut _ _ hDC (Heap.get?_push_of_some _ (hH2 ▸ Heap.get?_push_size _ rfl))
 have fpLt:∀b∈fp,b<s2.heap.objs.size:=fun b hb=>by
  obtain ⟨o,e,_⟩:=T.obj _ _ st2 b hb
  exact Heap.lt_size e
 generalize hD:s2.heap.objs.size=D at hDC below eD0 fpLt hC
 have hDfp:D∉fp:=fun z=>Nat.lt_irrefl _ (fpLt D z)
 have okY:(Av X scope (own++fr.map (·.1)) C s2 H2 fp).Ok:=by
  refine ⟨I2.ok.mod,hk,I2.ok.glob,I2.ok.blt,by show s2.heap.objs.size≤C;omega,fun x y c e1 e2=>I2.ok.inj x y c (hcl x c e1) (hcl y c e2),fun y hy=>?_,fun x c z _=>(by cases z),I2.ok.hd,I2.ok.frames,.inl rfl,fun b hb=>⟨(below b (fpLt b hb)).1,fun y c e=>?_⟩,I2.bs,
   Nat.le_trans I2.ok.bsz I2.sz,fun b o e hb=>?_,fun b hb z=>?_,I2.stack,I2.Oa⟩
  ·exact Jw scope.names [] (.inl (GY (env:=X.env) hcell hy))
  ·exact (f2 b hb).2.2.2.2.1 y c (hcl y c e)
  ·rcases (f2 b hb).2.2.2.1 with z|z
   ·exact I2.ok.R4 b o e z
   ·exact absurd (Nat.lt_of_lt_of_le (Heap.lt_size e) (Nat.le_trans I2.ok.bsz z)) (Nat.lt_irrefl _)
  ·rcases List.mem_cons.mp (I2.Lb b z) with q|q
   ·exact (f2 b hb).2.1 q
   ·exact (f2 b hb).2.2.1 q
 have cellLt:∀y c,X.env.cells.lookup y=some c→c<D:=fun y c e=>by
  obtain ⟨v,z⟩:=I2.cell y c e
  exact Nat.lt_of_lt_of_le z.lt (Nat.le_of_eq hD)
 have stkLt:∀b∈frs X.stack,b<D:=fun b hb=>by
  rcases List.mem_cons.mp (I2.Lb b hb) with q|q
  ·rw [q];exact Nat.lt_of_lt_of_le I2.lt (Nat.le_of_eq hD)
  ·obtain ⟨_,o,ho,_⟩:=I2.ok.IG.mem q
   exact Nat.lt_of_lt_of_le (Heap.lt_size ho) (Nat.le_trans I2.sz (Nat.le_of_eq hD))
 have fresh:∀a,D≤a→H2 a=none:=fun a ha=>I2.hok.fresh (Nat.le_trans (Nat.le_of_eq hD) ha)
 have IY:Inv (Av X scope (own++fr.map (·.1)) C s2 H2 fp) [] (List.replicate own.length none++(fr.map (·.2)).map (pick σ)) H2 { s2 with heap:=h₁,toks:=s2.toks+([]:List (Str×Value)).length }:=by
  refine ⟨okY,rfl,I2.bare,Un.kept old,⟨_,hns₁,fun i y v e1 e2 e3=>?_⟩,fun y c e=>?_,fresh C (by omega),fun y c e=>I2.Fx y c (hcl y c e),fun p hp=>absurd (show p∈([]:List (Addr×Obj)) from hp) (by simp),I2.hok.kept old,?_⟩
  ·have e1:(own++fr.map (·.1))[i]?=some y:=e1
   have hi':own.length≤i:=by
    by_cases hlt:i<own.length
    ·rw [List.getElem?_append_left (by simpa using hlt),List.getElem?_replicate,if_pos hlt] at e2
     cases e2
    ·omega
   rw [List.getElem?_append_right hi',List.getElem?_map] at e1
   rw [List.getElem?_append_right (by simpa using hi'),List.getElem?_map,List.getElem?_map,List.length_replicate] at e2
   cases hp:fr[i-own.length]? with
   | none=>rw [hp] at e1;cases e1
   | some p =>
    rw [hp] at e1 e2
    have ey:p.1=y:=Option.some.inj e1
    have ev:pick σ p.2=some v:=Option.some.inj e2
    obtain ⟨a1,a3⟩:=hfr.all p (List.mem_of_getElem? hp)
    have es:σ[p.2]?=some (some v):=by
     unfold pick at ev
     cases q:σ[p.2]? with
     | none=>rw [q] at ev;cases ev
     | some z=>rw [q] at ev;exact congrArg some ev
    have hfk:X.env.kindOf p.1=some .cell\/X.env.kindOf p.1=some .free:=hfree (p.1,.free) (PySem.mem_of_lookup a3) rfl
    obtain ⟨m,hn,hl⟩:=I2.loc
    obtain ⟨u,r,l⟩:=hl p.2 p.1 v a1 es (hfk.elim (fun z=>.inr (.inl z)) fun z=>.inr (.inr z))
    refine ⟨u,r,.inr ?_⟩
    rcases l with ⟨z,_⟩|⟨_,c,ec,zc⟩
    ·rcases hfk with q|q <;> rw [z] at q <;> cases q
    ·obtain ⟨c',ec'⟩:=Jw (env:=X.env) (y:=p.1) scope.names [] (.inl (PySem.mem_of_lookup a3))
     have:c'=c:=Option.some.inj ((hcl _ _ ec').symm.trans ec)
     subst this
     rw [←ey]
     obtain ⟨o,ho,hdd⟩:=zc
     exact ⟨DU (env:=X.env) a3,c',ec',o,old _ o ho,hdd⟩
  ·obtain ⟨v,z⟩:=I2.cell y c (hcl y c e)
   obtain ⟨o,ho,hdd⟩:=z
   exact ⟨v,o,old _ o ho,hdd⟩
  ·show (List.replicate own.length (none:Option V)++(fr.map (fun p=>p.2)).map (pick σ)).length=(own++fr.map (fun p=>p.1)).length
   simp
 have fpY:∀{H3:Hp} {ob:Obj},(∀b∈fp,H3 b=none)→∀b∈fp,OV (Av X scope (own++fr.map (·.1)) C s2 H2 fp) [(D,ob)] H3 b:=fun {H3 ob} hn b hb =>
  ⟨hn b hb,(below b (fpLt b hb)).1,fun z=>okY.Se b hb z,.inl hb,fun y c e=>(okY.exf b hb).2 y c e,fun p hp=>by
   have e:p=(D,ob):=by simpa [Av] using hp
   rw [e]
   show D≠b
   exact fun z=>hDfp (z ▸ hb)⟩
 have noC:∀(xs:Array Value) (k:Nat) (v:Option Value),({ cls:=.type "list", data:=.seq xs k }:Obj).data≠.cell v:=fun xs k v z=>by cases z
 have loop:∀s₃:Shared,s₃={ s2 with heap:=h₁,toks:=s2.toks+([]:List (Str×Value)).length } →
   codeAny (model X.prog X.w) X.A (.compLoop (.ListComp elt [⟨tg,iter,ifs,0⟩] scope pos) 0 (.ref it) (.ref D) (compEnvC scope (Hh X.env scope.names) C X.env))
    (compPost (model X.prog X.w) X.A X.xe use PQ (.ref D) C) s₃:=by
  rintro s₃ rfl
  refine MI (fun n s'=>∃(i:Nat) (τ:St) (acc:List V) (H':Hp) (its:List Value) (k:Nat),Inv (Av X scope (own++fr.map (·.1)) C s2 H2 fp) [] τ H' s'/\tn i s'.heap/\(∀b∈fp,H' b=none)/\H' D=none/\Vals acc its /\
   s'.heap.get? D=some { cls:=.type "list", data:=.seq its.toArray k }/\acc.length≤sizeLine/\W i n τ acc H') ?_ m0
   ⟨0,_,[],H2,[],0,IY,T.keep _ _ _ st2 fun b _ o e=>old b o e,fun b hb=>(f2 b hb).1,fresh D (Nat.le_refl _),.nil,eD0,Nat.zero_le _,w0⟩
  rintro n s3 ⟨i,τ,acc,H3,its,k,I3,st3,fr3,fD,rv,eD,hz,w3⟩
  have I3':Inv (Av X scope (own++fr.map (·.1)) C s2 H2 fp) [(D,{ cls:=.type "list", data:=.seq its.toArray k })] τ H3 s3:=I3.Ga fun p hp=>by
   have e:p=(D,{ cls:=.type "list", data:=.seq its.toArray k }):=by simpa using hp
   subst e
   exact ⟨eD,fD,hDC,fun z=>Nat.lt_irrefl _ (stkLt D z),noC _ _⟩
  rcases turn i n τ acc H3 w3 with ⟨stop,qn⟩|⟨go,hlt,step⟩
  ·refine thn (T.done (Av X scope (own++fr.map (·.1)) C s2 H2 fp) rfl rfl rfl hc i _ s3 τ H3 (fun _ _=>False) I3' (fpY fr3) st3 stop) fun r s4 ⟨hr,I4⟩=>?_
   subst hr
   obtain ⟨m,hn4,_⟩:=I4.loc
   obtain ⟨eD4,fD4,_⟩:=I4.pin (D,{ cls:=.type "list", data:=.seq its.toArray k }) (List.mem_append_right _ (List.mem_singleton.mpr rfl))
   have b4:Un (frs X.stack) fp H2 H3 s2.heap s4.heap:=I4.base
   have lt2:∀b o,s2.heap.get? b=some o→b≠C/\b≠D:=fun b o e=>below b (Nat.lt_of_lt_of_le (Heap.lt_size e) (Nat.le_of_eq hD))
   have tr2:∀b o,H2 b=some o→b≠D:=fun b o e z=>by
    have:=fresh D (Nat.le_refl _)
    rw [z,this] at e
    cases e
   have un:Un (frs X.stack) fp H2 (upd H3 D (.lst acc)) s2.heap s4.heap:=by
    refine ⟨fun b o e n hb hx=>b4.keep b o e n hb hx,fun b o e n hb hx=>?_,fun b o e n hx=>?_,fun b o e hx=>?_,fun b xs e=>?_,fun b o u e=>?_,fun b ps e=>?_⟩
    ·obtain ⟨sl,q⟩:=b4.slot b o e n hb hx
     exact ⟨sl,q⟩
    ·rw [AO (lt2 b o e).2];exact b4.free b o e n hx
    ·obtain ⟨o',q⟩:=b4.there b o e hx
     exact ⟨o',q⟩
    ·rw [AO (tr2 _ _ e)];exact b4.LY b xs e
    ·rw [AO (tr2 _ _ e)];exact b4.KO b o u e
    ·rw [AO (tr2 _ _ e)];exact b4.La b ps e
   have hok':HOk X.prog X.w (upd H3 D (.lst acc)) s4.heap:=I4.hok.UK fD4 ⟨hz,its,k,rv,eD4⟩
   have IX:Inv X pins σ (upd H3 D (.lst acc)) s4:=I2.UX (s':=s4) (ch:=fp) I4.os un hok' I4.bare fun b hb=>⟨(f2 b hb).2.2.2.1,(f2 b hb).2.1,(f2 b hb).2.2.2.2.1,(f2 b hb).2.2.2.2.2⟩
   have hHC:H3 C=none:=I4.free
   have noCD:∀b:Addr,b<D→C≠b:=fun b hb z=>by
    rw [←z,hC] at hb
    exact Nat.lt_irrefl D (Nat.lt_of_succ_lt hb)
   have hCL:C≠X.env.locals:=noCD _ (Nat.lt_of_lt_of_le I2.lt (Nat.le_of_eq hD))
   refine fin D C m s4 _ _ IX hn4 (by rw [AO hDC.symm];exact hHC) hCL (Nat.le_trans I2.sz (by omega)) (fun z c e q=>?_) (fun p hp q=>?_) (qn D fD4)
   ·exact noCD _ (cellLt z c e) q.symm
   ·exact noCD _ (Nat.lt_of_lt_of_le (Heap.lt_size (I2.pin p hp).1) (Nat.le_of_eq hD)) q.symm
  ·refine thn (T.item (Av X scope (own++fr.map (·.1)) C s2 H2 fp) rfl rfl rfl hc i _ s3 τ H3 (fun _ _=>False) I3' (fpY fr3) st3 go) fun r s4 ⟨u,hr,h4⟩=>?_
   subst hr
   refine thn h4 fun _ s5 ⟨x,H5,I5,r5,y5,st5,fr5⟩=>?_
   have I5':=I5.pinned (fpY fr5) (T.obj _ _ st5)
   refine thn (hg _ _ _ _ _ s5 τ H5 x u _ I5' r5 (step x H5 y5)) fun _ s6 ⟨τ6,H6,I6,q6⟩=>?_
   refine thn (ht _ _ _ _ _ s6 τ6 H6 _ I6 q6) fun b s7 ⟨H7,I7,q7⟩=>?_
   have facts:∀{s8:Shared} {H8:Hp} {τ8:St},Inv (Av X scope (own++fr.map (·.1)) C s2 H2 fp) ([(D,{ cls:=.type "list", data:=.seq its.toArray k })]++JN fp s5.heap) τ8 H8 s8 →
     tn (i+1) s8.heap/\(∀b∈fp,H8 b=none)/\H8 D=none/\s8.heap.get? D=some { cls:=.type "list", data:=.seq its.toArray k }:=fun {s8 H8 τ8} I8=>by
    have hp:∀b∈fp,∀o,s5.heap.get? b=some o→s8.heap.get? b=some o/\H8 b=none:=fun b hb o e=>by
     have q:=I8.pin (b,o) (List.mem_append_right _ (List.mem_append_right _ (GB hb e)))
     exact ⟨q.1,q.2.1⟩
    have qD:=I8.pin (D,{ cls:=.type "list", data:=.seq its.toArray k }) (List.mem_append_right _ (List.mem_append_left _ (List.mem_singleton.mpr rfl)))
    refine ⟨T.keep _ _ _ st5 fun b hb o e=>(hp b hb o e).1,fun b hb=>?_,qD.2.1,qD.1⟩
    obtain ⟨o,e,_⟩:=T.obj _ _ st5 b hb
    exact (hp b hb o e).2
   cases b with
   | false =>
    have q7:∃m',m'<n/\W (i+1) m' τ6 acc H7:=q7
    obtain ⟨m',hm,w7⟩:=q7
    obtain ⟨z1,z2,z3,z4⟩:=facts I7
    exact ⟨m',hm,i+1,τ6,acc,H7,its,k,I7.Ga fun p hp=>absurd hp (by simp),z1,z2,z3,rv,z4,hz,w7⟩
   | true =>
    refine thn (he _ _ _ _ _ s7 τ6 H7 _ I7 q7) fun u8 s8 ⟨y,H8,I8,r8,m',hm,w8⟩=>?_
    obtain ⟨z1,z2,z3,z4⟩:=facts I8
    have hl:=rv.length
    refine call_meets F.slot_list_append ⟨_,z4,rfl⟩ F.entry_list_append (F.args_list_append_2 _ _) (PySem.list_append D its.toArray k u8 (by rw [List.size_toArray];omega)) ⟨z4,?_⟩
    have z5:=PySem.IsL.update z4 (·.push u8)
    have z6:its.toArray.push u8=(its++[u8]).toArray:=by simp
    rw [z6] at z5
    have kk:∀b o,b≠D→s8.heap.get? b=some o→(s8.heap.update D (Obj.mapSeq (·.push u8))).get? b=some o:=fun b o hb e=>(Heap.get?_update_other s8.heap (Obj.mapSeq (·.push u8)) (Ne.symm hb)).trans e
    have I8':Inv (Av X scope (own++fr.map (·.1)) C s2 H2 fp) [] τ6 H8 s8:=I8.Ga fun p hp=>absurd hp (by simp)
    refine ⟨m',hm,i+1,τ6,acc++[y],H8,its++[u8],_,I8'.turned (it:=D) kk z3 hDC (.inr (by show s2.heap.objs.size≤D;omega)) (fun y c e=>Nat.ne_of_lt (cellLt y c (hcl y c e))) (fun p hp=>absurd (show p∈([]:List (Addr×Obj)) from hp) (by simp)),?_,z2,z3,
     rv.append (.cons r8 .nil),z5,?_,w8⟩
    ·exact T.keep _ _ _ z1 fun b hb o e=>kk b o (fun z=>hDfp (z ▸ hb)) e
    ·rw [List.length_append,List.length_singleton];omega
 exact codeAny_compStart_list (loop _ rfl) (T.self X.A 0 _ _ _ (T.keep _ _ _ st2 fun b _ o e=>old b o e) (loop _ rfl))
theorem Oh {tg iter elt:Expr}{ifs:List Expr}{scope:Scope}{wi:TI}{g:TG}{tt:TT}{te:TE}{own:List Str}{fr:List (Str×Nat)}{pos:Pos}
  (hc:X.calm=true) (hi:PI X tg iter wi)
  (hk:scope.kind=.function) (hcell:∀y∈scope.names,y.2≠.cell) (hnames:∀y∈scope.names,y.2=.local→scope.names.lookup y.1=some .local)
  (hfree:∀y∈scope.names,y.2=.free→X.env.kindOf y.1=some .cell\/X.env.kindOf y.1=some .free) (hfr:II X scope fr)
  (hg:∀C s H ex,PG (Av X scope (own++fr.map (·.1)) C s H ex) tg g)
  (ht:∀C s H ex,PTs (Av X scope (own++fr.map (·.1)) C s H ex) ifs tt)
  (he:∀C s H ex,PE (Av X scope (own++fr.map (·.1)) C s H ex) elt te)
  (hs:∀x,foldedSetIterable iter X.env x=pure x:=by intro _;rfl) :
  PE X (.ListComp elt [⟨tg,iter,ifs,0⟩] scope pos) (Hr own.length (fr.map (·.2)) wi g tt te):=by
 intro pins s σ H Q I h
 rw [eval_ListComp]
 exact LG hc hi hk hcell hnames hfree hfr hg ht he hs I h fun D C m s4 H5 v I4 hn hC hL h1 h2 h3 q=>⟨m,hn,fun h' sb=>⟨.ref D,_,I4.turned (it:=C) (t':=s4.toks) (fun b o hb e=>(sb.2 b hb).trans e) hC hL (.inr h1) h2 h3,rfl,q⟩⟩
end
section
variable {X:Cx}
theorem Rk {iter elt:Expr}{ifs:List Expr}{scope osc:Scope}{wi:TI}{tt:TT}{te:TE}{x:Str}{px:Pos}{pos:Pos}(fr:List (Str×Nat))
  (hc:X.calm=true) (hi:PI X (.Name x px) iter wi) (ho:X.env.scope=osc)
  (hk:scope.kind=.function) (hcell:∀y∈scope.names,y.2≠.cell) (hnames:∀y∈scope.names,y.2=.local→scope.names.lookup y.1=some .local)
  (hfree:∀y∈scope.names,y.2=.free→osc.names.lookup y.1=some .cell\/osc.names.lookup y.1=some .free) (hfr:II X scope fr)
  (hx:scope.names.lookup x=some .local) (hnd:(x::fr.map (·.1)).Nodup)
  (ht:∀C s H ex,PTs (Av X scope (x::fr.map (·.1)) C s H ex) ifs tt)
  (he:∀C s H ex,PE (Av X scope (x::fr.map (·.1)) C s H ex) elt te)
  (hs:∀x,foldedSetIterable iter X.env x=pure x:=by intro _;rfl) :
  PE X (.ListComp elt [⟨.Name x px,iter,ifs,0⟩] scope pos) (Hr 1 (fr.map (·.2)) wi (Ct 0) tt te) :=
 Oh (own:=[x]) hc hi hk hcell hnames (fun y hy e=>by show X.env.scope.names.lookup y.1=_\/X.env.scope.names.lookup y.1=_;rw [ho];exact hfree y hy e) hfr
  (fun C s H ex=>EA (i:=0) hnd rfl (.inl (lookup_relabel_local hx)) (.inr (lookup_relabel_local hx))) ht he hs
end
section
variable {X:Cx}{tg:Expr}
end
theorem LF {J:It}{fr:List Nat}{tt:TT}{te:TE}{σ:St}{H:Hp}{Q:VK}(xs:List V) (p:V→Bool) (f:V→V) (hn:xs.length≤sizeLine)
  (hgo:∀i,i<xs.length→J.go i H) (hst:J.stop xs.length H) (hy:∀i x H',i<xs.length→J.yld i H x H'→H'=H/\xs[i]?=some x)
  (htt:∀x (R:Bool→Hp→Prop),x∈xs→R (p x) H→tt (some x::fr.map (pick σ)) H R)
  (hte:∀x (R:VK),x∈xs→p x=true→R (f x) H→te (some x::fr.map (pick σ)) H R)
  (hd:∀D,H D=none→Q (.ref D) (upd H D (.lst ((xs.filter p).map f)))) :
  HE 1 fr (Ct 0) tt te σ Q J H:=by
 refine ⟨fun i m τ acc H'=>m=xs.length-i/\i≤xs.length/\H'=H/\(∃o,τ=o::fr.map (pick σ))/\acc=(((xs.take i).filter p).map f),⟨xs.length,by simp,Nat.zero_le _,rfl,⟨none,rfl⟩,rfl⟩,?_⟩
 rintro i m τ acc H' ⟨rfl,hi,rfl,⟨o,rfl⟩,rfl⟩
 by_cases hlt:i<xs.length
 ·refine .inr ⟨hgo i hlt,?_,fun x H1 y=>?_⟩
  ·rw [List.length_map]
   have h1:((xs.take i).filter p).length≤(xs.take i).length:=List.length_filter_le _ _
   rw [List.length_take] at h1
   omega
  ·obtain ⟨e1,e2⟩:=hy i x H1 hlt y
   subst e1
   have hx:x∈xs:=List.mem_of_getElem? e2
   show tt ((o::fr.map (pick σ)).set 0 (some x)) _ _
   refine htt x _ hx ?_
   have ht:=take_succ_filter p xs i x e2
   cases hp:p x with
   | true =>
    show te (some x::fr.map (pick σ)) _ _
    refine hte x _ hx hp ⟨xs.length-(i+1),by omega,rfl,hlt,rfl,⟨some x,rfl⟩,?_⟩
    rw [ht,hp]
    simp
   | false =>
    show ∃m',m'<xs.length-i/\_
    refine ⟨xs.length-(i+1),by omega,rfl,hlt,rfl,⟨some x,rfl⟩,?_⟩
    rw [ht,hp]
    simp
 ·have e:i=xs.length:=by omega
  subst e
  rw [List.take_length]
  exact .inl ⟨hst,hd⟩
theorem Jv {K:PySem.W.Frag}{a:Addr}{fr:List Nat}{tt:TT}{te:TE}{σ:St}{H:Hp}{Q:VK}{xs:List V}(p:V→Bool) (f:V→V) (hq:SqL K H a xs) (hn:xs.length≤sizeLine)
  (htt:∀x (R:Bool→Hp→Prop),x∈xs→R (p x) H→tt (some x::fr.map (pick σ)) H R)
  (hte:∀x (R:VK),x∈xs→p x=true→R (f x) H→te (some x::fr.map (pick σ)) H R)
  (hd:∀D,H D=none→Q (.ref D) (upd H D (.lst ((xs.filter p).map f)))) :
  HE 1 fr (Ct 0) tt te σ Q (Itl K a) H :=
 LF xs p f hn (fun i hi=>⟨xs,xs[i],hq,by simp [hi]⟩) ⟨xs,hq,Nat.le_refl _⟩ (fun i x H' _ y=>⟨y.1,y.2 xs hq⟩) htt hte hd
section
variable {X:Cx}
def Wl:V→Option Int→Option Int→Hp→VK→Prop:=fun x lo hi H Q=>∃z,x=.str z/\z.length≤sizeLine/\Q (.str (Txt.slice z lo hi)) H
theorem part_of {v:Value}{o:Option Int}(p:IsPart v o):∃l:Option (Int×Tok),v=partValue l/\l.map (·.1)=o:=by
 cases p with
 | none=>exact ⟨none,rfl,rfl⟩
 | int i t=>exact ⟨some (i,t),rfl,rfl⟩
theorem RI:SlR X Wl:=by
 intro pins s σ H x v vl vu lo hi sl Q I rx hs pl pu h
 obtain ⟨z,rfl,hz,q⟩:=h
 obtain ⟨t,rfl⟩:=rx
 obtain ⟨l,rfl,rfl⟩:=part_of pl
 obtain ⟨u,rfl,rfl⟩:=part_of pu
 exact ⟨"str", _,F.slot_str_getitem.lookup,typeIs_str _ _ _,wpAny_getItem_str_slice (l:=l) (u:=u) (st:=none) hs rfl
  (post_val_or_str ⟨Nat.le_trans (Txt.slice_le z _ _) hz,fun t' k=>⟨.str _,H,I.tok _,⟨_,rfl⟩,q⟩⟩)⟩
theorem DS {K:PySem.W.Frag}(hK:X.K=K:=by rfl):CJ X (.builtin "isinstance") (fun xs H Q=>∃x n t b,xs=[x,.ty n]/\Hm K H x t/\PySem.W.kitOne K t (.type n)=some b/\Q (.bl b) H):=by
 subst hK
 intro pins s σ H xs us Q I r h
 obtain ⟨x,n,t,b,rfl,ty,e,q⟩:=h
 obtain ⟨u,w',rfl,rx,rn⟩:=vals2 r
 cases (show w'=Value.type n from rn)
 exact QK I rx ty e fun tk=>⟨.bl b,H,I.tok _,rfl,q⟩
end
mutual
inductive Dv (K:PySem.W.Frag) (H:Hp):V→PyData→Prop where
 | non:Dv K H .non .none
 | bl (b:Bool):Dv K H (.bl b) (.bool b)
 | int (i:Int):Dv K H (.int i) (.int i)
 | str (x:Str):Dv K H (.str x) (.str x)
 | lst {a:Addr} {xs:List V} {ds:List PyData}:SqL K H a xs→Dvs K H xs ds→Dv K H (.ref a) (.list ds)
 | tup {a:Addr} {xs:List V} {ds:List PyData}:SqT K H a xs→Dvs K H xs ds→Dv K H (.ref a) (.tuple ds)
inductive Dvs (K:PySem.W.Frag) (H:Hp):List V→List PyData→Prop where
 | nil:Dvs K H [] []
 | cons {x:V} {d:PyData} {xs:List V} {ds:List PyData}:Dv K H x d→Dvs K H xs ds→Dvs K H (x::xs) (d::ds)
end
section
variable {X:Cx}{pins:List (Addr×Obj)}{σ:St}{H:Hp}{s:Shared}
mutual
theorem Dv.reads (I:Inv X pins σ H s):∀{x:V}{d:PyData}{u:Value},Dv X.K H x d→RelV x u→∃as,Reads s.heap u d as
 | _,_,_,.non,r=>by cases (show _=Value.none from r);exact ⟨_,.none⟩
 | _,_,_,.bl b,r=>by cases (show _=Value.bool b from r);exact ⟨_,.bool b⟩
 | _,_,_,.int i,r=>by obtain ⟨t,rfl⟩:=r;exact ⟨_,.int i t⟩
 | _,_,_,.str x,r=>by obtain ⟨t,rfl⟩:=r;exact ⟨_,.str x t⟩
 | _,_,_,.lst hq ds,r=>by
  cases r
  obtain ⟨its,rv,pl,_⟩:=I.list hq
  obtain ⟨as,q⟩:=Dvs.reads I ds rv
  obtain ⟨o,e,c,n,d⟩:=pl.isList
  exact ⟨_,.list e c d (by simpa using q)⟩
 | _,_,_,.tup hq ds,r=>by
  cases r
  obtain ⟨its,rv,pl,_⟩:=I.tuple hq
  obtain ⟨as,q⟩:=Dvs.reads I ds rv
  obtain ⟨o,e,c,n,d⟩:=pl
  exact ⟨_,.tuple e c d (by simpa using q)⟩
theorem Dvs.reads (I:Inv X pins σ H s):∀{xs:List V}{ds:List PyData}{us:List Value},Dvs X.K H xs ds→Vals xs us→∃as,ReadsAll s.heap us ds as
 | _,_,_,.nil,r=>by cases r;exact ⟨_,.nil⟩
 | _,_,_,.cons d ds,r=>by
  cases r with
  | cons r1 r2 =>
   obtain ⟨as,q⟩:=Dv.reads I d r1
   obtain ⟨bs,p⟩:=Dvs.reads I ds r2
   exact ⟨_,.cons q p⟩
end
end
section
variable {X:Cx}
def Wn (K:PySem.W.Frag):R2:=fun x y H Q=>∃d e,Dv K H x d/\Dv K H y e/\SeqAt.shaped d=true/\SeqAt.shaped e=true/\Q (.bl (PyData.eqv d e)) H
def V3 (K:PySem.W.Frag):R2:=fun x y H Q=>∃d e,Dv K H x d/\Dv K H y e/\SeqAt.shaped d=true/\SeqAt.shaped e=true/\Q (.bl (!PyData.eqv d e)) H
theorem Rq {K:PySem.W.Frag}(hu:X.A.units+64<cLine) (hK:X.K=K:=by rfl):OpR X (compareOp .Eq) (Wn K):=by
 subst hK
 intro pins s σ H x y v u Q I rx ry h
 obtain ⟨d,e,hd,he,sd,se,q⟩:=h
 obtain ⟨as,r1⟩:=hd.reads I rx
 obtain ⟨bs,r2⟩:=he.reads I ry
 exact eq_dataH r1 r2 sd se hu ⟨.bl _,H,I,rfl,q⟩
theorem Ny {K:PySem.W.Frag}(hu:X.A.units+64<cLine) (hK:X.K=K:=by rfl):OpR X (compareOp .NotEq) (V3 K):=by
 subst hK
 intro pins s σ H x y v u Q I rx ry h
 obtain ⟨d,e,hd,he,sd,se,q⟩:=h
 obtain ⟨as,r1⟩:=hd.reads I rx
 obtain ⟨bs,r2⟩:=he.reads I ry
 exact ne_dataH r1 r2 sd se hu ⟨.bl _,H,I,rfl,q⟩
theorem Gv {K:PySem.W.Frag}{H:Hp}:∀ys:List Int,Dvs K H (ys.map V.int) (ys.map PyData.int)
 | []=>.nil
 | y::r=>.cons (.int y) (Gv r)
end
section
variable {X:Cx}
def Uz (K:PySem.W.Frag):R2:=fun x y H Q=>∃a b xs,x=.ref a/\y=.ref b/\SqL K H a xs/\SqL K H b []/\Q (.bl xs.isEmpty) H
theorem Rp {K:PySem.W.Frag}(hu:X.A.units<cLine) (hK:X.K=K:=by rfl):OpR X (compareOp .Eq) (Uz K):=by
 subst hK
 intro pins s σ H x y v u Q I rx ry h
 obtain ⟨a,b,xs,rfl,rfl,ha,hb,q⟩:=h
 cases rx
 cases ry
 obtain ⟨its,r1,p1,_⟩:=I.list ha
 obtain ⟨its2,r2,p2,_⟩:=I.list hb
 cases r2
 have hl:=r1.length
 cases xs with
 | nil =>
  cases r1
  exact SeqAt.eq_listAt (e:=fun _=>true) p1.isList p2.isList rfl hu (fun j h1 _=>absurd h1 (by simp)) ⟨.bl true,H,I,rfl,q⟩
 | cons x r =>
  refine SeqAt.eq_list_lengthsAt p1.isList p2.isList ?_ hu ⟨.bl false,H,I,rfl,q⟩
  rw [List.size_toArray,←hl]
  rfl
end
theorem Bs {α:Type}(xs:List α) (n:Int) (hn:(xs.length:Int)=n) (h0:0<n) (c:Int):∃v,atI xs (c % n)=some v/\v∈xs:=by
 have h1:0≤c % n:=Int.emod_nonneg _ (by omega)
 have h2:c % n<n:=Int.emod_lt_of_pos _ h0
 obtain ⟨j,hj⟩:=Int.eq_ofNat_of_zero_le h1
 have hlt:j<xs.length:=by omega
 refine ⟨xs[j],?_,List.getElem_mem hlt⟩
 rw [hj]
 exact AF (List.getElem?_eq_getElem hlt)
theorem OF {c:Bool}{A B:Prop}(h1:c=true→A) (h2:c=false→B):if c=true then A else B:=by
 cases c with
 | true=>exact VT (h1 rfl)
 | false=>exact ES (h2 rfl)
theorem AK.upd {H H':Hp}{a:Addr}{o:HO}(e:AK H H') (h:H' a=none):AK H (upd H' a o):=fun b u q=>by
 rw [AO (AM (e b u q) h)]
 exact e b u q
section
variable {X:Cx}{K:PySem.W.Frag}
theorem NK (hK:X.K=K:=by rfl):IxR X (TU K):=by subst hK;exact Oz
theorem Oy (hK:X.K=K:=by rfl):IxR X (TR K):=by subst hK;exact SO
theorem T3 (hK:X.K=K:=by rfl):IxR X (rIx K):=by subst hK;exact VS
theorem Ci (hK:X.K=K:=by rfl):SlR X (V2 K):=by subst hK;exact TM
theorem CQ (hK:X.K=K:=by rfl):SlR X (V1 K):=by subst hK;exact Us
theorem JW (hK:X.K=K:=by rfl):OpR X (compareOp .In) (rIn K false):=by subst hK;exact Px
theorem JX (hK:X.K=K:=by rfl):OpR X (binaryOp .Add) (UQ K):=by subst hK;exact Tg
theorem A7 (hK:X.K=K:=by rfl):CJ X (.builtin "len") (fun xs H Q=>∃p ys,xs=[.ref p]/\(SqL K H p ys\/SqT K H p ys)/\Q (.int ys.length) H):=by subst hK;exact MM
theorem EI (hK:X.K=K:=by rfl):CJ X (.type "list") (fun xs H Q=>∃p ys,xs=[.ref p]/\(SqL K H p ys\/SqT K H p ys)/\∀l,H l=none→Q (.ref l) (upd H l (.lst ys))):=by subst hK;exact MK
theorem AY {tg l:Expr}{tl:TE}(hl:PE X l tl) (hK:X.K=K:=by rfl):PI X tg l (UW K tl):=by subst hK;exact Tc hl
theorem Og {tg l:Expr}{tl:TE}(hl:PE X l tl) (hK:X.K=K:=by rfl):PI X tg l (WI K tl):=by subst hK;exact U4 hl
theorem Oi {o:Expr}{to:TE}{name:Str}{apos cpos:Pos}{T id:String}{r:V→List V→Hp→VK→Prop}(pa:PlainAttrs T) (slot:Slot T name id) (hty:typeOf (.builtin id)=pure (.type "method_descriptor")) (hm:MtR X id r) (ho:PE X o to)
  (hK:X.K=K:=by rfl) (hbase:attributeBase o name X.env (eval o X.env)=eval o X.env:=by rfl) (hline:(apos.endLine==cpos.line)=true:=by rfl):PE X (.Call (.Attribute o name apos) [] [] cpos) (Vs K T r to):=by
 subst hK;exact U6 pa slot hty hm ho hbase hline
theorem JR {o e:Expr}{es:List Expr}{to:TE}{t:TA}{name:Str}{apos cpos:Pos}{T id:String}{r:V→List V→Hp→VK→Prop}(pa:PlainAttrs T) (slot:Slot T name id) (hty:typeOf (.builtin id)=pure (.type "method_descriptor")) (hm:MtR X id r) (ho:PE X o to) (ha:PA X (e::es) t)
  (hK:X.K=K:=by rfl) (hbase:attributeBase o name X.env (eval o X.env)=eval o X.env:=by rfl)
  (hfew:((backTo cpos (starEach (e::es) X.env)).all (fun x=>!x.1)&&(backToKw cpos (keywordEach [] X.env)).all (fun x=>x.1.isSome)
   && decide ((e::es).length+([]:List Keyword).length+(if ([]:List Keyword).isEmpty then 0 else 1)<30))=true:=by rfl)
  (hline:(apos.endLine==cpos.line)=true:=by rfl) (hs:starEach (e::es) X.env=(false,eval e X.env)::starEach es X.env:=by rfl) (hplain:(backTo cpos (starEach es X.env)).any (·.1)=false:=by rfl) :
  PE X (.Call (.Attribute o name apos) (e::es) [] cpos) (tBM K T r to t):=by
 subst hK;exact WA pa slot hty hm ho ha hbase hfew hline hs hplain
end
section
variable {X:Cx}{K:PySem.W.Frag}
theorem Nz:OpR X (binaryOp .Mult) (fun x y H Q=>∃z n,x=.str z/\y=.int n/\MulOk z n/\Q (.str (Txt.mul z n)) H):=by
 intro pins s σ H x y v u Q I rx ry h
 obtain ⟨z,n,rfl,rfl,hz,q⟩:=h
 obtain ⟨t,rfl⟩:=rx
 obtain ⟨t',rfl⟩:=ry
 exact SB.mul hz fun t' k=>⟨.str _,H,I.tok _,⟨_,rfl⟩,q⟩
end
end L2
namespace Rev
open PySem PySem.Builtin PySem.Builtin.Str PySem.Builtin.Int
section
variable {prog:Program}{w:World}{A:Around}{R:Result→Shared→Prop}{I:Addr}{fp wr:List Addr}{G:Array GenState→Array GenState→Prop}{n:Nat}{P:Nat→Value→Prop}{St:Nat→Shared→Prop}{Live:Shared→Prop}
end
section
variable {prog:Program}{w:World}{A:Around}{E:Value→Shared→Prop}{s:Shared}
end
section
variable {prog:Program}{w:World}{A:Around}{E:Value→Shared→Prop}{s:Shared}{I:Addr}{fp wr:List Addr}{G:Array GenState→Array GenState→Prop}{n:Nat}{P:Nat→Value→Prop}{St:Nat→Shared→Prop}{Live:Shared→Prop}
end
end Rev
namespace Rev
open PySem PySem.Builtin PySem.Builtin.Str PySem.Builtin.Int
section
variable {prog:Program}{w:World}{A:Around}{E:Value→Shared→Prop}{s:Shared}{x:Str}{t:Tok}{Q:Value→Shared→Prop}{I:Addr}{fp wr:List Addr}{G:Array GenState→Array GenState→Prop}{n:Nat}{P:Nat→Value→Prop}{St:Nat→Shared→Prop}{Live:Shared→Prop}
end
end Rev
namespace L2
open PySem PySem.Spec PyProof.Rows
section
variable {X:Cx}{K:PySem.W.Frag}
end
end L2
namespace Att
open PySem PySem.W PySem.Calls PyProof.Rows
end Att
namespace L2
open PySem PySem.Spec PyProof.Rows
end L2
namespace L2
open PySem PySem.Spec PyProof.Rows
section
variable {X:Cx}{K:PySem.W.Frag}
def Uy (K:PySem.W.Frag):R2:=fun x y H Q=>∃a b xs,x=.ref a/\y=.ref b/\SqL K H a xs/\SqL K H b []/\Q (.bl (!xs.isEmpty)) H
theorem JU (hu:X.A.units<cLine) (hK:X.K=K:=by rfl):OpR X (compareOp .NotEq) (Uy K):=by
 subst hK
 intro pins s σ H x y v u Q I rx ry h
 obtain ⟨a,b,xs,rfl,rfl,ha,hb,q⟩:=h
 cases rx
 cases ry
 obtain ⟨its,r1,p1,_⟩:=I.list ha
 obtain ⟨its2,r2,p2,_⟩:=I.list hb
 cases r2
 have hl:=r1.length
 cases xs with
 | nil =>
  cases r1
  exact SeqAt.RcNeAt.lists (e:=fun _=>true) p1.isList p2.isList rfl hu (fun j h1 _=>absurd h1 (by simp)) _ _ _ _ ⟨.bl false,H,I,rfl,q⟩
 | cons x r =>
  refine SeqAt.RcNeAt.lists_lengths p1.isList p2.isList ?_ hu _ _ _ _ ⟨.bl true,H,I,rfl,q⟩
  rw [List.size_toArray,←hl]
  rfl
end
end L2
namespace Fig
open PySem
end Fig
namespace L2
open PySem PySem.Spec PyProof.Rows
section
variable {X:Cx}{K:PySem.W.Frag}{w:World}{o i:Expr}{pos:Pos}{td ty:TE}
end
end L2
namespace L2
open PySem PySem.Spec PyProof.Rows
inductive F2 (Pr:V→V→Prop):List V→List V→Prop where
 | nil:F2 Pr [] []
 | cons {x y:V} {xs ys:List V} (h:Pr x y) (t:F2 Pr xs ys):F2 Pr (x::xs) (y::ys)
theorem DC.u1 {k:Nat}{A:Around}(r:DC k A):A.units+1<cLine:=by have:=r.un;omega
def V7:R2:=fun x y H Q=>∃a b xs ys,x=.ref a/\y=.ref b/\H a=some (.tup xs)/\H b=some (.tup ys)/\xs.length+ys.length≤sizeLine /\
 ∀p H',AK H H'→H' p=some (.tup (xs++ys))→Q (.ref p) H'
theorem Co {X:Cx}:OpR X (binaryOp .Add) V7:=by
 intro pins s σ H x y v u Q I rx ry h
 obtain ⟨a,b,xs,ys,rfl,rfl,ha,hb,hz,q⟩:=h
 cases rx
 cases ry
 obtain ⟨its,r1,p1,_⟩:=I.tuple (SqT.of (K:=X.K) ha)
 obtain ⟨its2,r2,p2,_⟩:=I.tuple (SqT.of (K:=X.K) hb)
 by_cases he:its=[]
 ·have hx:xs=[]:=r1.Gk.mp he
  subst he hx
  obtain ⟨⟨cls,dd,data,sl⟩,ho,hc,n,hd⟩:=id p1
  obtain ⟨⟨cls2,dd2,data2,sl2⟩,ho2,hc2,n2,hd2⟩:=id p2
  simp only at hc hd hc2 hd2
  subst hc hd hc2 hd2
  exact concat_meets ⟨_,ho,rfl⟩ ⟨_,ho2,rfl⟩ noFill_tuple_add seq_tuple_add PySem.F.slot_tuple_add PySem.F.entry_tuple_add (PySem.F.args_tuple_add_2 _ _)
   (tuple_addW0 a b [].toArray its2.toArray n n2 dd dd2 sl sl2 (by simp)) ⟨ho,ho2,⟨.ref b,H,I,rfl,q b H (AK.refl H) hb⟩⟩
 ·refine HT.PD p1 p2 he (fun z=>⟨.ref a,H,I,rfl,?_⟩) (fun z=>?_) (by rw [←r1.length,←r2.length];exact hz)
  ·have hy:ys=[]:=r2.Gk.mp z
   subst hy
   exact q a H (AK.refl H) (by rw [List.append_nil];exact ha)
  ·have hf:=I.hok.fresh (Nat.le_refl s.heap.objs.size)
   refine ⟨.ref s.heap.objs.size,_,I.laid (t':=s.toks) (o:=.tup (xs++ys)) (fun b ob q=>Heap.get?_push_of_some _ q) (Nat.le_refl _) ?_,rfl,q _ _ ((AK.refl H).upd hf) AE⟩
   exact ⟨by rw [List.length_append];exact hz,_,r1.append r2,IsTup.new _ _⟩
def BH (lo hi d:Int):Nat:=if lo<hi then ((hi-lo-1) / d+1).toNat else 0
theorem UO {lo hi d:Int}(hd:1≤d):Builtin.Range.rangeSize lo hi d=(BH lo hi d:Int):=by
 unfold Builtin.Range.rangeSize BH
 rw [if_pos (by omega)]
 split
 ·have:0≤(hi-lo-1) / d:=Int.ediv_nonneg (by omega) (by omega)
  omega
 ·rfl
theorem PM {lo hi d:Int}(hd:1≤d):(BH lo hi d:Int)≤(if lo<hi then hi-lo else 0):=by
 unfold BH
 split
 ·have h1:0≤(hi-lo-1) / d:=Int.ediv_nonneg (by omega) (by omega)
  have h2:(hi-lo-1) / d≤hi-lo-1:=Int.ediv_le_self _ (by omega)
  omega
 ·exact Int.le_refl 0
section
variable {X:Cx}{tg:Expr}
end
section
variable {X:Cx}
end
end L2
namespace L2
open PySem PySem.Spec PyProof.Rows
section
variable {X:Cx}
theorem Mo {tg iter elt:Expr}{ifs:List Expr}{scope:Scope}{wi:TI}{g:TG}{tt:TT}{te:TE}{own:List Str}{fr:List (Str×Nat)}{pos spos py:Pos}{iy:Nat}{y:Str}
  (hN:X.N.Nodup) (hiy:X.N[iy]?=some y) (hxy:Loc X.env.scope y) (hfy:X.fn y=true\/X.env.scope.names.lookup y=some .local)
  (hc:X.calm=true) (hi:PI X tg iter wi)
  (hk:scope.kind=.function) (hcell:∀y∈scope.names,y.2≠.cell) (hnames:∀y∈scope.names,y.2=.local→scope.names.lookup y.1=some .local)
  (hfree:∀y∈scope.names,y.2=.free→X.env.kindOf y.1=some .cell\/X.env.kindOf y.1=some .free) (hfr:II X scope fr)
  (hg:∀C s H ex,PG (Av X scope (own++fr.map (·.1)) C s H ex) tg g)
  (ht:∀C s H ex,PTs (Av X scope (own++fr.map (·.1)) C s H ex) ifs tt)
  (he:∀C s H ex,PE (Av X scope (own++fr.map (·.1)) C s H ex) elt te)
  (hsw:swapsWith (.ListComp elt [⟨tg,iter,ifs,0⟩] scope pos) (some (.Name y py)) spos.line X.env=pure true)
  (hs:∀x,foldedSetIterable iter X.env x=pure x:=by intro _;rfl) :
  PS X (.Assign [.Name y py] (.ListComp elt [⟨tg,iter,ifs,0⟩] scope pos) spos) (Q5 (Hr own.length (fr.map (·.2)) wi g tt te) (Ct iy)):=by
 intro pins s σ H D0 I h
 rw [exec_Assign_Name_used _ _ _ _ hsw]
 refine wpAny_bind (wpAny_standAt (wpAny_bind ?_))
 show wpAny _ X.A (do let _ ← comprehension (.ListComp elt [⟨tg,iter,ifs,0⟩] scope pos) scope X.env _ (newList []) false (eval iter X.env) (some (assign (.Name y py) X.env))) _ _ s
 refine wpAny_bind (wpAny_mono (LG (PQ:=fun _ s'=>SP X pins D0 .next s') (Q:=fun v H1=>D0.nx (σ.set iy (some v)) H1) hc hi hk hcell hnames hfree hfr hg ht he hs I h fun D C m s4 H5 v I4 hn hC hL h1 h2 h3 q=>?_) (fun _ s' hq=>wpAny_pure (wpAny_pure hq)) fun _ _ e=>e)
 show wpAny (model X.prog X.w) X.A (assign (.Name y py) X.env (.ref D)) _ X.xe s4
 refine wpAny_assign_Name (Ki I4 hN hiy hxy (v:=.ref D) rfl (fun s5 I5 ⟨a,sb5,ha⟩=>?_) hfy)
 have hCa:C≠a:=by
  rcases ha with z|z
  ·rw [z];exact hL
  ·exact (h2 _ _ z).symm
 exact ⟨m,Heap.Ns.sameBut hn sb5 hCa,fun h' sb=>⟨_,_,I5.turned (it:=C) (t':=s5.toks) (fun b o hb e=>(sb.2 b hb).trans e) hC hL (.inr h1) h2 h3,q⟩⟩
theorem IP {i:Nat}{y:Str}{iter elt:Expr}{ifs:List Expr}{scope osc:Scope}{wi:TI}{tt:TT}{te:TE}{x:Str}{px py pos spos:Pos}(fr:List (Str×Nat))
  (hN:X.N.Nodup) (hiy:X.N[i]?=some y) (hxy:Loc X.env.scope y)
  (hc:X.calm=true) (hi:PI X (.Name x px) iter wi) (ho:X.env.scope=osc)
  (hk:scope.kind=.function) (hcell:∀y∈scope.names,y.2≠.cell) (hnames:∀y∈scope.names,y.2=.local→scope.names.lookup y.1=some .local)
  (hfree:∀y∈scope.names,y.2=.free→osc.names.lookup y.1=some .cell\/osc.names.lookup y.1=some .free) (hfr:II X scope fr)
  (hx:scope.names.lookup x=some .local) (hnd:(x::fr.map (·.1)).Nodup)
  (ht:∀C s H ex,PTs (Av X scope (x::fr.map (·.1)) C s H ex) ifs tt)
  (he:∀C s H ex,PE (Av X scope (x::fr.map (·.1)) C s H ex) elt te)
  (hsw:swapsWith (.ListComp elt [⟨.Name x px,iter,ifs,0⟩] scope pos) (some (.Name y py)) spos.line X.env=pure true:=by rfl)
  (hf:X.fn y=true\/X.env.scope.names.lookup y=some .local:=by first|exact .inl rfl|exact .inr rfl|assumption)
  (hs:∀x,foldedSetIterable iter X.env x=pure x:=by intro _;rfl) :
  PS X (.Assign [.Name y py] (.ListComp elt [⟨.Name x px,iter,ifs,0⟩] scope pos) spos) (Q5 (Hr 1 (fr.map (·.2)) wi (Ct 0) tt te) (Ct i)) :=
 Mo (own:=[x]) hN hiy hxy hf hc hi hk hcell hnames (fun y hy e=>by show X.env.scope.names.lookup y.1=_\/X.env.scope.names.lookup y.1=_;rw [ho];exact hfree y hy e) hfr
  (fun C s H ex=>EA (i:=0) hnd rfl (.inl (lookup_relabel_local hx)) (.inr (lookup_relabel_local hx))) ht he hsw hs
end
end L2
namespace L2
open PySem PySem.Spec PyProof.Rows
open Sem (wp)
def Kd {α:Type}:Sem α→Prop
 | .pure _=>True
 | .raise _=>True
 | .unsupported _=>True
 | .finish _=>True
 | .rule _ k=>Kd (k ())
 | .at _ k=>Kd (k ())
 | .load _ _ k=>∀o,Kd (k o)
 | .update _ _ f k=>(∀o,(f o).dict=o.dict)/\Kd (k ())
 | .loadIfAlive _ k=>∀o,Kd (k o)
 | .point _ k=>Kd (k ())
 | .alloc _ k=>∀a,Kd (k a)
 | .fresh k=>∀t,Kd (k t)
 | .ask k=>∀t,Kd (k t)
 | .stack k=>∀l,Kd (k l)
 | _=>False
def DictAt (e:Addr) (d:Option Addr) (h:Heap):Prop:=∃o,h.objs[e]?=some o/\o.dict=d
section
variable {M:Model}{A:Around}{E:Value→Shared→Prop}{s:Shared}{base:Heap}{env:Env}{outer l:List Env}{L e:Addr}{cls a0:Value}{dd:Option Addr}{Q:Unit→Shared→Prop}
end
end L2
namespace L2
open PySem PySem.Spec PyProof.Rows
section
variable {P:Program}{w:World}{K:PySem.W.Frag}{mg:Str→Option Value}{base:Heap}{N:List Str}{qual:Str}{scope:Scope}{f:Addr}{cd:Value}{A:Around}{outer:List Env}{s₀:Shared}{H₀:Hp}{E E':XK}
structure ExC (K:PySem.W.Frag) (C:Addr) (bm:List Value):Prop where
 obj:∃(nm q:Str) (NS:Addr) (bs:List Value) (hdct:Bool) (sn:List Str) (sub:List Value) (ab:Bool) (col:Option Bool) (dd:Option Addr) (k0 k1 k2 k3 k5:Option Value) (mN:Str→Option Value),
  K.lookup C=some (excClassObj nm q C NS bs bm hdct sn sub ab col dd k0 k1 k2 k3 k5 "ValueError.__new__")/\mN "__init__" = none/\∀h:Heap,K.In h→h.Ns NS mN/\OwnTail h [.type "ValueError", .type "Exception", .type "BaseException", .type "object"] bm
 base:bm.contains (.type "BaseException")=true
end
end L2
namespace L2
open PySem PySem.Spec PyProof.Rows
section
variable {X:Cx}{pins:List (Addr×Obj)}{σ:St}{H H':Hp}{s s':Shared}{B h':Heap}
end
end L2
namespace L2
open PySem PySem.Spec PyProof.Rows
section
variable {X:Cx}{pins:List (Addr×Obj)}{σ:St}{H:Hp}{s:Shared}
end
end L2
namespace L2
open PySem PySem.Spec PyProof.Rows
end L2
namespace L2
open PySem PySem.Spec PyProof.Rows
end L2
namespace L2
open PySem PySem.Spec PyProof.Rows
theorem Ur {a b c:Int}(hc1:1≤c) (hc2:c≤2000000) (ha:-(2 ^ 40)≤a) (ha':a<2 ^ 40) (hb:-(2 ^ 40)≤b) (hb':b<2 ^ 40):Builtin.Range.small a b c=true:=by
 have h:=PM (lo:=a) (hi:=b) hc1
 have hs:=UO (lo:=a) (hi:=b) hc1
 unfold Builtin.Range.small
 have h2:(BH a b c:Int)≤2 ^ 42:=by split at h <;> omega
 have h3:(BH a b c:Int) * c≤2 ^ 42 * 2000000:=Int.mul_le_mul h2 (by omega) (by omega) (by omega)
 have h4:0≤(BH a b c:Int) * c:=Int.mul_nonneg (by omega) (by omega)
 have h5:0≤c * (BH a b c:Int):=Int.mul_nonneg (by omega) (by omega)
 have h6:c * (BH a b c:Int)≤2 ^ 42 * 2000000:=by rw [Int.mul_comm];exact h3
 rw [hs]
 simp only [Builtin.Range.rangeFitsLong,Bool.and_eq_true,Bool.or_eq_true,decide_eq_true_eq,beq_iff_eq,show c > 0 by omega,if_true]
 generalize (BH a b c:Int) * c=A at *
 generalize c * (BH a b c:Int)=B at *
 refine ⟨?_,?_⟩ <;> omega
theorem Ax {α β:Type}{F:α→β→Prop}:∀{l₁:List α}{l₂:List β},l₁.length=l₂.length→(∀(i:Nat) a b,l₁[i]?=some a→l₂[i]?=some b→F a b)→Paired F l₁ l₂
 | [],[],_,_=>.nil
 | a::l₁,b::l₂,hl,h=>.cons (h 0 a b rfl rfl) (Ax (by simpa using hl) fun i x y hx hy=>h (i+1) x y (by simpa using hx) (by simpa using hy))
def Nu (i j d:Int):List Int:=(List.range (BH i j d)).map fun k:Nat=>i+(k:Int) * d
theorem DO (i j d:Int):(Nu i j d).length=BH i j d:=by unfold Nu;rw [List.length_map,List.length_range]
theorem JE {i j d:Int}{k:Nat}(h:k<BH i j d):(Nu i j d)[k]?=some (i+(k:Int) * d):=by
 unfold Nu
 rw [List.getElem?_map,List.getElem?_range h]
 rfl
def PX (ta:TA):TE:=fun σ H Q=>ta σ H fun vs H1=>∃i j d:Int,vs=[.int i,.int j,.int d]/\(1≤d/\d≤2000000/\-(2 ^ 40)≤i/\i<2 ^ 40/\-(2 ^ 40)≤j/\j<2 ^ 40/\BH i j d≤16777216) /\
 ∀l,H1 l=none→Q (.ref l) (upd H1 l (.lst ((Nu i j d).map V.int)))
section
variable {X:Cx}
theorem Mp {a b c:Expr}{ta:TA}{p p2 pos pos2:Pos}(hc:X.calm=true) (hgl:Gl X "list") (hml:X.mg "list" = none) (hg:Gl X "range") (hm:X.mg "range" = none) (ha:PA X [a,b,c] ta)
  (hs:starEach [a,b,c] X.env=[(false,eval a X.env),(false,eval b X.env),(false,eval c X.env)]:=by rfl) (hs2:starEach [b,c] X.env=[(false,eval b X.env),(false,eval c X.env)]:=by rfl)
  (hs0:starEach [.Call (.Name "range" p2) [a,b,c] [] pos2] X.env=[(false,eval (.Call (.Name "range" p2) [a,b,c] [] pos2) X.env)]:=by rfl) :
  PE X (.Call (.Name "list" p) [.Call (.Name "range" p2) [a,b,c] [] pos2] [] pos) (PX ta):=by
 intro pins s σ H Q I h
 refine wpAny_Call_Name_kw (EH I hgl hml boot_list ?_)
 refine PyProof.Rows.callWith_type1 ?_ (by rw [hs0];rfl) rfl
 rw [hs0]
 refine Calls.spliced_cons ?_
 refine Call_ (EH I hg hm boot_range (PyProof.Rows.callWith_type1 (thn (ha pos2 pins s σ H _ I h) fun us s1 ⟨vs,H1,I1,r1,q1⟩=>?_) (by rw [hs,hs2]) (by rw [hs2];rfl)))
 obtain ⟨i,j,d,e,⟨d1,d2,q1,q2,q3,q4,q5⟩,q⟩:=q1
 subst e
 cases r1 with
 | cons r rr =>
  cases rr with
  | cons r' rr =>
   cases rr with
   | cons r2 rr =>
    cases rr
    obtain ⟨t,rfl⟩:=r
    obtain ⟨t',rfl⟩:=r'
    obtain ⟨t2,rfl⟩:=r2
    refine call_range_3 (by omega) ?_ (.inl (PyProof.noPylong_small (by omega)))
    refine Calls.spliced_nil ?_
    have I2:Inv X pins σ H1 { s1 with heap:=s1.heap.push { cls:=.type "range", data:=.fields #[.int i t,.int j t',.int d t2] },toks:=s1.toks }:=I1.kept fun b o e=>Heap.get?_push_of_some _ e
    refine PySem.call_list_range (I1.ok.hd hc) (IsRange.new ..) (Ur d1 d2 q1 q2 q3 q4) (UO d1) q5 fun h' tk acc c' hk hS hacc=>?_
    refine ⟨.ref _,_,I2.laid (t':=tk) hk (Nat.le_refl _) (show BB X.prog X.w _ h' _ (.lst ((Nu i j d).map V.int)) from ⟨?_,acc.toList,c',?_,by simpa using hS⟩),rfl,q _ (I2.hok.fresh (Nat.le_refl _))⟩
    ·rw [List.length_map,DO]
     exact q5
    ·refine Ax (by rw [List.length_map,DO,Array.length_toList,hacc.1]) fun k x u hx hu=>?_
     have hk':k<BH i j d:=by
      have:=(List.getElem?_eq_some_iff.mp hx).1
      rw [List.length_map,DO] at this
      exact this
     rw [List.getElem?_map,JE hk'] at hx
     obtain ⟨tk',e⟩:=hacc.2 k u (by simpa using hu)
     rw [←Option.some.inj hx,e]
     exact ⟨_,rfl⟩
theorem QZ {K:PySem.W.Frag}(hc:X.calm=true) (hK:X.K=K:=by rfl):CJ X (.builtin "sum") (fun xs H Q=>∃(p:Addr) (ns:List Int),xs=[.ref p]/\SqL K H p (ns.map V.int)/\Q (.int ns.sum) H):=by
 subst hK
 intro pins s σ H xs us Q I r h
 obtain ⟨p,ns,rfl,hq,q⟩:=h
 obtain ⟨u,rfl,ru⟩:=vals1 r
 cases ru
 obtain ⟨its,rv,pl,hz⟩:=I.list hq
 have hi:=intsAre_of rv
 obtain ⟨zs,hx⟩:=hi.allInts.items
 have hl':s.heap.IsList p (intItems zs):=hx ▸ pl.isList
 refine sum_intListG (I.ok.hd hc) hl' fun h' tk t' hk=>?_
 have e1:ns=zs.toList.map (·.1):=by
  rw [←nums_intItems,←hx]
  exact (show numsOf its.toArray.toList=ns from hi.numsOf).symm
 have e2:preSum (numAt zs) zs.size=ns.sum:=by
  rw [preSum_eq,List.take_of_length_le (by simp),e1]
 rw [e2]
 exact ⟨.int _,H,I.kept (t':=tk) hk,⟨_,rfl⟩,q⟩
theorem Qc {K:PySem.W.Frag}(hc:X.calm=true) (hK:X.K=K:=by rfl):CJ X (.builtin "min") (fun xs H Q=>∃(p:Addr) (ns:List Int),xs=[.ref p]/\SqL K H p (ns.map V.int)/\0<ns.length/\∀M,M∈ns→(∀a,a∈ns→M≤a)→Q (.int M) H):=by
 subst hK
 intro pins s σ H xs us Q I r h
 obtain ⟨p,ns,rfl,hq,hne,q⟩:=h
 obtain ⟨u,rfl,ru⟩:=vals1 r
 cases ru
 obtain ⟨its,rv,pl,hz⟩:=I.list hq
 have hi:=intsAre_of rv
 obtain ⟨zs,e⟩:=hi.allInts.items
 have hns:ns=zs.toList.map (·.1):=by
  rw [←nums_intItems,←e]
  exact (show numsOf its.toArray.toList=ns from hi.numsOf).symm
 have hsz:0<zs.size:=by
  have h3:=hne;rw [hns,List.length_map,Array.length_toList] at h3;exact h3
 have hl:s.heap.IsList p (intItems zs):=e ▸ pl.isList
 refine min_intList (I.ok.hd hc) hl hsz fun v h' tk hv hk=>?_
 obtain ⟨t,rfl⟩:=intItems_at hv
 obtain ⟨h1,h2⟩:=argBest_lt (numAt zs) (zs.size-1)
 refine ⟨.int _,H,I.kept (t':=tk) hk,⟨_,rfl⟩,q _ ?_ fun a ha=>?_⟩
 ·rw [hns,numAt_eq];exact getD_mem (by rw [List.length_map,Array.length_toList];omega)
 ·rw [hns] at ha
  obtain ⟨j,hj,rfl⟩:=mem_getD ha
  rw [List.length_map,Array.length_toList] at hj
  rw [←numAt_eq];exact h2 j (by omega)
theorem Qe {K:PySem.W.Frag}(hc:X.calm=true) (hK:X.K=K:=by rfl):CJ X (.builtin "max") (fun xs H Q=>∃(p:Addr) (ns:List Int),xs=[.ref p]/\SqL K H p (ns.map V.int)/\0<ns.length/\∀M,M∈ns→(∀a,a∈ns→a≤M)→Q (.int M) H):=by
 subst hK
 intro pins s σ H xs us Q I r h
 obtain ⟨p,ns,rfl,hq,hne,q⟩:=h
 obtain ⟨u,rfl,ru⟩:=vals1 r
 cases ru
 obtain ⟨its,rv,pl,hz⟩:=I.list hq
 have hi:=intsAre_of rv
 obtain ⟨zs,e⟩:=hi.allInts.items
 have hns:ns=zs.toList.map (·.1):=by
  rw [←nums_intItems,←e]
  exact (show numsOf its.toArray.toList=ns from hi.numsOf).symm
 have hsz:0<zs.size:=by
  have h3:=hne;rw [hns,List.length_map,Array.length_toList] at h3;exact h3
 have hl:s.heap.IsList p (intItems zs):=e ▸ pl.isList
 refine max_intList (I.ok.hd hc) hl hsz fun v h' tk hv hk=>?_
 obtain ⟨t,rfl⟩:=intItems_at hv
 obtain ⟨h1,h2⟩:=argBest_gt (numAt zs) (zs.size-1)
 refine ⟨.int _,H,I.kept (t':=tk) hk,⟨_,rfl⟩,q _ ?_ fun a ha=>?_⟩
 ·rw [hns,numAt_eq];exact getD_mem (by rw [List.length_map,Array.length_toList];omega)
 ·rw [hns] at ha
  obtain ⟨j,hj,rfl⟩:=mem_getD ha
  rw [List.length_map,Array.length_toList] at hj
  rw [←numAt_eq];exact h2 j (by omega)
end
theorem NN:∀ys zs:List Int,PyData.eqvAll (ys.map PyData.int) (zs.map PyData.int)=decide (ys=zs)
 | [],[]=>rfl
 | [],_::_=>rfl
 | _::_,[]=>rfl
 | y::ys,z::zs=>by
  show (PyData.eqv (.int y) (.int z)&&PyData.eqvAll (ys.map PyData.int) (zs.map PyData.int))=_
  rw [NN ys zs]
  show ((y==z)&&decide (ys=zs))=_
  by_cases h1:y=z
  ·subst h1
   simp
  ·simp [h1]
theorem lay_ints:∀ys:List Int,PyData.canLayAll0 (ys.map PyData.int)=true/\PyData.depthAll (ys.map PyData.int)=0
 | []=>⟨rfl,rfl⟩
 | y::r=>by
  obtain ⟨a,b⟩:=lay_ints r
  simp [PyData.canLayAll0,PyData.canLay0,PyData.depthAll,PyData.depth,a,b]
theorem shaped_ints (ys:List Int):SeqAt.shaped (.list (ys.map PyData.int))=true:=by
 obtain ⟨a,b⟩:=lay_ints ys
 simp [SeqAt.shaped,PyData.canLay0,PyData.depth,a,b]
theorem Je {K:PySem.W.Frag}{H:Hp}{x y:V}{d:PyData}{Q:VK}(h1:Dv K H x d) (h2:Dv K H y d) (hs:SeqAt.shaped d=true) (q:Q (.bl false) H):V3 K x y H Q :=
 ⟨d,d,h1,h2,hs,hs,by rw [PySem.SeqAt.eqv_refl d (SeqAt.canLay_of_shaped hs)];exact q⟩
theorem M8 {xs:List V}{lo hi:Option Int}{y:V}(h:y∈CK xs lo hi):y∈xs:=List.mem_of_mem_drop (List.mem_of_mem_take h)
end L2
namespace L2
open PySem PySem.Spec PyProof.Rows
theorem HOk.others {P:Program}{w:World}{H:Hp}{h h':Heap}(l:List Addr) (x:HOk P w H h) (hn:∀a∈l,H a=none) (k:∀b u,b∉l→h.get? b=some u→h'.get? b=some u):HOk P w H h':=by
 intro b u e
 refine (x b u e).Nm (fun c v hc q=>k c v ?_ q) (fun _ q=>q) fun _ _ q=>q
 intro hm
 rcases hc with z|z
 ·rw [z] at hm;rw [hn _ hm] at e;cases e
 ·rw [hn _ hm] at z;cases z
def Ite (K:PySem.W.Frag) (a:Addr):It :=
 ⟨fun i H=>∃xs x,SqL K H a xs/\xs[i]?=some x,fun i H x H'=>∃p y,x=.ref p/\H p=none/\H'=upd H p (.tup [.int (i:Int),y])/\∀xs,SqL K H a xs→xs[i]?=some y,fun i H=>∃xs,SqL K H a xs/\xs.length≤i⟩
theorem PR {P:Program}{w:World}{K:PySem.W.Frag}{elts:List Expr}{x1}{tpos:Pos}(a e it:Addr) (hne:e≠it) :
  Turn P w K (.Tuple elts x1 tpos) (Ite K a) [e,it] e (fun i h=>(∃old,IsEnum h e it i old)/\h.IsListIter it a i) where
 mem:=by simp
 obj:=fun i h st b hb=>by
  obtain ⟨⟨old,he⟩,o,e2,c,d⟩:=st
  rcases List.mem_cons.mp hb with z|z
  ·subst z
   exact ⟨_,he,fun v z=>by
    have z':Data.fields _=Data.cell v:=z
    cases z'⟩
  ·have z:b=it:=by simpa using z
   subst z
   exact ⟨o,e2,fun v z=>by rw [d] at z;cases z⟩
 keep:=fun i h h' st k=>by
  obtain ⟨⟨old,he⟩,st⟩:=st
  exact ⟨⟨old,k e (by simp) _ he⟩,st.at fun o q=>k it (by simp) o q⟩
 item:=by
  intro X hP hw hK hc i pins s σ H E I hf st hg
  subst hP hw hK
  obtain ⟨xs,x,hq,hx⟩:=hg
  obtain ⟨its,rv,p,hz⟩:=I.list hq
  obtain ⟨u,hu,ru⟩:=rv.get hx
  obtain ⟨⟨old,he⟩,hit⟩:=st
  obtain ⟨f0,f1,f2,f3,f4,f5⟩:=hf e (by simp)
  obtain ⟨g0,g1,g2,g3,g4,g5⟩:=hf it (by simp)
  have elt:e<s.heap.objs.size:=Heap.lt_size he
  have ilt:it<s.heap.objs.size:=by obtain ⟨o,q,_⟩:=id hit;exact Heap.lt_size q
  refine wpAny_pyNext_enum_item he hit p.isList (x:=u) (by simpa using hu) hne fun h' eo hit' ht hsz kk=>⟨_,rfl,wpAny_letOwnedTupleGo_enum eo fun h2 he2 sb=>?_⟩
  have hp:H s.heap.objs.size=none:=I.hok.fresh (Nat.le_refl _)
  have pe:s.heap.objs.size≠e:=Nat.ne_of_gt elt
  have pit:s.heap.objs.size≠it:=Nat.ne_of_gt ilt
  have kk2:∀b o,b∉[e,it]→s.heap.get? b=some o→h2.get? b=some o:=fun b o hb q=>by
   have b1:b≠e:=fun z=>hb (by simp [z])
   have b2:b≠it:=fun z=>hb (by simp [z])
   exact (sb.2 b b1).trans (kk b o b1 b2 q)
  have hit2:h2.IsListIter it a (i+1):=by
   obtain ⟨o,q,c,d⟩:=id hit'
   exact ⟨o,(sb.2 it (fun z=>hne z.symm)).trans q,c,d⟩
  have ht2:h2.get? s.heap.objs.size=some { cls:=.type "tuple", data:=.seq #[.int i s.toks,u] }:=(sb.2 _ pe).trans ht
  have hok:HOk X.prog X.w (upd H s.heap.objs.size (.tup [.int (i:Int),x])) h2:=by
   refine (I.hok.others [e,it] (fun b hb=>(hf b hb).1) kk2).UK hp ?_
   exact ⟨show 2≤sizeLine by decide,[.int i s.toks,u],.cons ⟨_,rfl⟩ (.cons ru .nil),⟨_,ht2,rfl,_,rfl⟩⟩
  have un:Un (frs X.stack) [e,it] H (upd H s.heap.objs.size (.tup [.int (i:Int),x])) s.heap h2:=by
   refine ⟨fun b o q n hb hx=>kk2 b o hx q,fun b o q n hb hx=>⟨o.slots,kk2 b o hx q⟩,fun b o q n hx=>?_,fun b o q hx=>⟨o,kk2 b o hx q⟩,fun b ys q=>?_,fun b o u q=>?_,fun b ps q=>?_⟩
   ·rw [AO (Nat.ne_of_lt (Heap.lt_size q))];exact n
   ·rw [AO (AM q hp)];exact q
   ·rw [AO (AM q hp)];exact q
   ·exact ⟨#[],by rw [AO (AM q hp),Array.append_empty];exact q⟩
  have I2:Inv X pins σ (upd H s.heap.objs.size (.tup [.int (i:Int),x])) { s with heap:=h2,toks:=s.toks+1 } :=
   I.UX (s':={ s with heap:=h2,toks:=s.toks+1 }) (ch:=[e,it]) rfl un hok I.bare fun b hb=>by
    obtain ⟨q0,q1,q2,q3,q4,q5⟩:=hf b hb
    exact ⟨q3,q1,q4,q5⟩
  refine ⟨.ref s.heap.objs.size,_,I2,rfl,⟨_,x,rfl,hp,rfl,fun ys hy=>by rw [I.NF hy hq];exact hx⟩,⟨⟨u,?_⟩,hit2⟩,fun b hb=>?_⟩
  ·have:((i+1:Nat):Int)=(i:Int)+1:=by omega
   rw [this]
   exact he2
  ·have hb':b≠s.heap.objs.size:=fun z=>by
    rcases List.mem_cons.mp hb with q|q
    ·exact pe (z.symm.trans q)
    ·exact pit (z.symm.trans (by simpa using q))
   rw [AO hb']
   exact (hf b hb).1
 done:=by
  intro X hP hw hK hc i pins s σ H E I hf st hg
  subst hP hw hK
  obtain ⟨xs,hq,hx⟩:=hg
  obtain ⟨its,rv,p,hz⟩:=I.list hq
  obtain ⟨⟨old,he⟩,hit⟩:=st
  obtain ⟨f0,f1,f2,f3,f4,f5⟩:=hf it (by simp)
  have hl:=rv.length
  exact wpAny_pyNext_enum_end (I.ok.hd hc) he hit p.isList (by simp;omega) fun h' eb=>⟨rfl,I.turned (t':=s.toks) (fun b o hb e=>eb b o hb e) f0 f1 f3 f4 f5⟩
 self:=fun _ _ _ _ _ st h=>by
  obtain ⟨⟨old,he⟩,_⟩:=st
  exact wpAny_pyIter_enum he h
section
variable {X:Cx}
def WL (K:PySem.W.Frag) (tl:TE):TI:=fun σ H R=>tl σ H fun x H1=>∃a,x=.ref a/\(∃xs,SqL K H1 a xs)/\R (Ite K a) H1
theorem Lr {K:PySem.W.Frag}{l:Expr}{tl:TE}{elts:List Expr}{x1}{tpos p pos:Pos}(hg:Gl X "enumerate") (hm:X.mg "enumerate" = none) (hl:PE X l tl) (hK:X.K=K:=by rfl)
  (hs:starEach [l] X.env=[(false,eval l X.env)]:=by rfl):PI X (.Tuple elts x1 tpos) (.Call (.Name "enumerate" p) [l] [] pos) (WL K tl):=by
 subst hK
 intro pins s σ H R I h
 refine Call_ (EH I hg hm boot_enumerate (PyProof.Rows.callWith_type1 ?_ hs rfl))
 rw [hs]
 refine Calls.spliced_cons (thn (hl pins s σ H _ I h) fun v s1 ⟨x,H1,I1,r1,q1⟩=>?_)
 refine Calls.spliced_nil ?_
 obtain ⟨a,e,⟨xs,hq⟩,q⟩:=q1
 subst e
 cases r1
 obtain ⟨its,rv,p,hz⟩:=I1.list hq
 refine call_enumerate_list p.isList fun h' he hit hsz kk=>?_
 have I2:Inv X pins σ H1 { s1 with heap:=h' }:=I1.kept (t':=s1.toks) kk
 refine wpAny_pyIter_enum he ?_
 refine ⟨s1.heap.objs.size+1,[s1.heap.objs.size+1,s1.heap.objs.size],_,_,H1,rfl,I2,PR a _ _ (Nat.succ_ne_self _),⟨⟨_,he⟩,hit⟩,fun b hb=>?_,q⟩
 rcases List.mem_cons.mp hb with z|z
 ·subst z
  exact I1.QO (Nat.le_succ _) (I1.hok.fresh (Nat.le_succ _))
 ·have z:b=s1.heap.objs.size:=by simpa using z
  subst z
  exact I1.QO (Nat.le_refl _) (I1.hok.fresh (Nat.le_refl _))
end
section
variable {X:Cx}
theorem JQ {iter elt:Expr}{ifs:List Expr}{scope osc:Scope}{wi:TI}{tt:TT}{te:TE}{x y:Str}{px py tpos:Pos}{kk}{pos:Pos}(fr:List (Str×Nat))
  (hc:X.calm=true) (hi:PI X (.Tuple [.Name x px,.Name y py] kk tpos) iter wi) (ho:X.env.scope=osc)
  (hk:scope.kind=.function) (hcell:∀y∈scope.names,y.2≠.cell) (hnames:∀y∈scope.names,y.2=.local→scope.names.lookup y.1=some .local)
  (hfree:∀y∈scope.names,y.2=.free→osc.names.lookup y.1=some .cell\/osc.names.lookup y.1=some .free) (hfr:II X scope fr)
  (hx:scope.names.lookup x=some .local) (hy:scope.names.lookup y=some .local) (hnd:(x::y::fr.map (·.1)).Nodup)
  (ht:∀C s H ex,PTs (Av X scope (x::y::fr.map (·.1)) C s H ex) ifs tt)
  (he:∀C s H ex,PE (Av X scope (x::y::fr.map (·.1)) C s H ex) elt te)
  (hs:∀x,foldedSetIterable iter X.env x=pure x:=by intro _;rfl) :
  PE X (.ListComp elt [⟨.Tuple [.Name x px,.Name y py] kk tpos,iter,ifs,0⟩] scope pos) (Hr 2 (fr.map (·.2)) wi (VW X.K 2 (K8 (Ct 0) (K8 (Ct 1) VX))) tt te) :=
 Oh (own:=[x,y]) hc hi hk hcell hnames (fun y hy e=>by show X.env.scope.names.lookup y.1=_\/X.env.scope.names.lookup y.1=_;rw [ho];exact hfree y hy e) hfr
  (fun C s H ex=>F8 (show (Av X scope (x::y::fr.map (fun p:Str×Nat=>p.1)) C s H ex).calm=true from hc) (A3 (EA (i:=0) hnd rfl (.inl (lookup_relabel_local hx)) (.inr (lookup_relabel_local hx))) (A3 (EA (i:=1) hnd rfl (.inl (lookup_relabel_local hy)) (.inr (lookup_relabel_local hy))) Eg))) ht he hs
end
theorem Sa {K:PySem.W.Frag}{a:Addr}{xs:List V}{g:TG}{tb:TS}{D:Ends}{σ:St}{H:Hp}(Pv:Nat→St→Hp→Prop) (h0:Pv 0 σ H) (hl:∀i σ H,i≤xs.length→Pv i σ H→SqL K H a xs)
  (hs:∀(i:Nat) x σ H p,xs[i]?=some x→Pv i σ H→H p=none→g (.ref p) σ (upd H p (.tup [.int (i:Int),x])) fun σ2 H2=>tb { D with nx:=Pv (i+1),ct:=Pv (i+1),bk:=D.nx } σ2 H2) (hd:∀σ H,Pv xs.length σ H→D.nx σ H) :
  ∃W:Nat→Nat→St→Hp→Prop,(∃m,W 0 m σ H)/\∀i m σ H,W i m σ H →
   ((Ite K a).stop i H/\D.nx σ H)\/((Ite K a).go i H/\∃N:St→Hp→Prop,(∀σ' H',N σ' H'→∃m',m'<m/\W (i+1) m' σ' H')/\∀x H',(Ite K a).yld i H x H'→g x σ H' fun σ2 H2=>tb { D with nx:=N,ct:=N,bk:=D.nx } σ2 H2):=by
 refine ⟨fun i m σ H=>m=xs.length-i/\i≤xs.length/\Pv i σ H,⟨xs.length,by simp,Nat.zero_le _,h0⟩,?_⟩
 rintro i m σ H ⟨rfl,hi,p⟩
 have q:=hl i σ H hi p
 by_cases hlt:i<xs.length
 ·refine .inr ⟨⟨xs,xs[i],q,by simp [hlt]⟩,Pv (i+1),fun σ' H' p'=>⟨xs.length-(i+1),by omega,rfl,hlt,p'⟩,fun x H' y=>?_⟩
  obtain ⟨r,z,rfl,hr,rfl,hy⟩:=y
  exact hs i z σ H r (hy xs q) p hr
 ·have e:i=xs.length:=by omega
  subst e
  exact .inl ⟨⟨xs,q,Nat.le_refl _⟩,hd σ H p⟩
theorem QW {K:PySem.W.Frag}{a:Addr}{fr:List Nat}{tt:TT}{te:TE}{σ:St}{H:Hp}{Q:VK}{xs:List V}{g:TG}(pk:Nat→V→Bool) (f:Nat→V→V) (hn:xs.length≤sizeLine) (hq:∀H1,AK H H1→SqL K H1 a xs)
  (hg:∀(i:Nat) x p o1 o2 H1 (R:St→Hp→Prop),xs[i]?=some x→AK H H1→H1 p=some (.tup [.int (i:Int),x])→R (some (.int (i:Int))::some x::fr.map (pick σ)) H1→g (.ref p) (o1::o2::fr.map (pick σ)) H1 R)
  (htt:∀(i:Nat) x H1 (R:Bool→Hp→Prop),xs[i]?=some x→AK H H1→(∀H2,AK H1 H2→R (pk i x) H2)→tt (some (.int (i:Int))::some x::fr.map (pick σ)) H1 R)
  (hte:∀(i:Nat) x H1 (R:VK),xs[i]?=some x→pk i x=true→AK H H1→(∀H2,AK H1 H2→R (f i x) H2)→te (some (.int (i:Int))::some x::fr.map (pick σ)) H1 R)
  (hd:∀H1,AK H H1→∀D,H1 D=none→Q (.ref D) (upd H1 D (.lst (((List.zip (List.range xs.length) xs).filter fun q=>pk q.1 q.2).map fun q=>f q.1 q.2)))) :
  HE 2 fr g tt te σ Q (Ite K a) H:=by
 refine ⟨fun i m τ acc H'=>m=xs.length-i/\i≤xs.length/\AK H H'/\(∃o1 o2,τ=o1::o2::fr.map (pick σ))/\acc=((((List.zip (List.range xs.length) xs).take i).filter fun q=>pk q.1 q.2).map fun q=>f q.1 q.2),
  ⟨xs.length,by simp,Nat.zero_le _,AK.refl H,⟨none,none,rfl⟩,rfl⟩,?_⟩
 rintro i m τ acc H' ⟨rfl,hi,s1,⟨o1,o2,rfl⟩,hacc⟩
 have hzl:(List.zip (List.range xs.length) xs).length=xs.length:=by simp
 by_cases hlt:i<xs.length
 ·have hxi:xs[i]?=some xs[i]:=List.getElem?_eq_getElem hlt
  have tk:(List.zip (List.range xs.length) xs).take (i+1)=(List.zip (List.range xs.length) xs).take i++[(i,xs[i])]:=by
   rw [List.take_add_one]
   have:(List.zip (List.range xs.length) xs)[i]?=some (i,xs[i]):=by
    rw [List.getElem?_zip_eq_some]
    exact ⟨by simp [hlt],hxi⟩
   rw [this]
   rfl
  refine .inr ⟨⟨xs,xs[i],hq _ s1,hxi⟩,?_,fun x H1 y=>?_⟩
  ·have:acc.length≤i:=by
    rw [hacc,List.length_map]
    refine Nat.le_trans (List.length_filter_le _ _) ?_
    rw [List.length_take]
    exact Nat.min_le_left _ _
   omega
  ·obtain ⟨p,z,rfl,hp,rfl,hz⟩:=y
   have ez:z=xs[i]:=Option.some.inj ((hz xs (hq _ s1)).symm.trans hxi)
   subst ez
   have s2:=s1.upd (o:=.tup [.int (i:Int),xs[i]]) hp
   refine hg i xs[i] p o1 o2 _ _ hxi s2 AE ?_
   refine htt i xs[i] _ _ hxi s2 fun H2 s3=>?_
   cases hpk:pk i xs[i] with
   | true =>
    rw [if_pos rfl]
    refine hte i xs[i] _ _ hxi hpk (s2.trans s3) fun H3 s4=>⟨xs.length-(i+1),by omega,rfl,hlt,(s2.trans s3).trans s4,⟨_,_,rfl⟩,?_⟩
    rw [tk,List.filter_append,List.map_append,←hacc]
    simp [hpk]
   | false =>
    rw [if_neg Bool.false_ne_true]
    refine ⟨xs.length-(i+1),by omega,rfl,hlt,s2.trans s3,⟨_,_,rfl⟩,?_⟩
    rw [tk,List.filter_append,List.map_append,←hacc]
    simp [hpk]
 ·have e:i=xs.length:=by omega
  subst e
  rw [List.take_of_length_le (by rw [hzl];exact Nat.le_refl _)] at hacc
  exact .inl ⟨⟨xs,hq _ s1,Nat.le_refl _⟩,fun D hD=>by rw [hacc];exact hd H' s1 D hD⟩
theorem OO {K:PySem.W.Frag}{a:Addr}{fr:List Nat}{tt:TT}{te:TE}{σ:St}{H:Hp}{Q:VK}{xs:List V}{g:TG}(Pv:Nat→List V→Hp→Prop) (hn:xs.length≤sizeLine) (h0:Pv 0 [] H)
  (hq:∀i acc H1,Pv i acc H1→SqL K H1 a xs)
  (hs:∀(i:Nat) x p o1 o2 acc H1 (R:St→List V→Hp→Prop),xs[i]?=some x→Pv i acc H1→H1 p=none→(∀o1 o2 acc' H2,acc'.length≤acc.length+1→Pv (i+1) acc' H2→R (o1::o2::fr.map (pick σ)) acc' H2) →
   g (.ref p) (o1::o2::fr.map (pick σ)) (upd H1 p (.tup [.int (i:Int),x])) fun τ1 H2=>tt τ1 H2 fun b H3=>if b=true then te τ1 H3 fun y H4=>R τ1 (acc++[y]) H4 else R τ1 acc H3)
  (hd:∀acc H1,Pv xs.length acc H1→∀D,H1 D=none→Q (.ref D) (upd H1 D (.lst acc))) :
  HE 2 fr g tt te σ Q (Ite K a) H:=by
 refine ⟨fun i m τ acc H'=>m=xs.length-i/\i≤xs.length/\acc.length≤i/\(∃o1 o2,τ=o1::o2::fr.map (pick σ))/\Pv i acc H',⟨xs.length,by simp,Nat.zero_le _,Nat.zero_le _,⟨none,none,rfl⟩,h0⟩,?_⟩
 rintro i m τ acc H' ⟨rfl,hi,hl,⟨o1,o2,rfl⟩,p⟩
 have q:=hq i acc H' p
 by_cases hlt:i<xs.length
 ·refine .inr ⟨⟨xs,xs[i],q,by simp [hlt]⟩,by omega,fun x H1 y=>?_⟩
  obtain ⟨r,z,rfl,hr,rfl,hy⟩:=y
  refine hs i z r o1 o2 acc H' (fun τ1 acc' H2=>∃m',m'<xs.length-i/\(m'=xs.length-(i+1)/\i+1≤xs.length/\acc'.length≤i+1/\(∃o1 o2,τ1=o1::o2::fr.map (pick σ))/\Pv (i+1) acc' H2)) (hy xs q) p hr fun u1 u2 acc' H2 h2 p'=>⟨xs.length-(i+1),by omega,rfl,hlt,by omega,⟨u1,u2,rfl⟩,p'⟩
 ·have e:i=xs.length:=by omega
  subst e
  exact .inl ⟨⟨xs,q,Nat.le_refl _⟩,hd acc H' p⟩
end L2
namespace L2
open PySem PySem.Spec PyProof.Rows
abbrev TX:=St→Hp→VK→XK→Prop
section
variable {X:Cx}{k:Nat}{f C:Addr}{fd:FuncData}{ps:List Str}{sp:Sp}{x:Str}{p pos:Pos}{e:Expr}{es:List Expr}{t:TA}{te:TE}
end
section
variable {X:Cx}{cn n:Str}{rpos np hpos pos:Pos}{e0:Expr}{tx:TX}{CF:Addr}{b₀:Stmt}{suite:List Stmt}{th:Addr→TS}{i:Nat}
end
structure ExD (K:PySem.W.Frag) (C:Addr) (bm:List Value):Prop where
 obj:∃(nm q:Str) (NS:Addr) (bs:List Value) (hdct:Bool) (sn:List Str) (sub:List Value) (ab:Bool) (col:Option Bool) (dd:Option Addr) (k0 k1 k2 k3 k5:Option Value),
  K.lookup C=some (excClassObj nm q C NS bs bm hdct sn sub ab col dd k0 k1 k2 k3 k5 "ValueError.__new__") /\
   ∀h:Heap,K.In h→(∃mN,h.Ns NS mN/\mN "__init__" = none)/\OwnTail h [.type "ValueError", .type "Exception", .type "BaseException", .type "object"] bm
section
variable {P:Program}{w:World}{K:PySem.W.Frag}{mg:Str→Option Value}{base:Heap}{N:List Str}{qual:Str}{scope:Scope}{f:Addr}{cd:Value}{A:Around}{outer:List Env}{s₀:Shared}{H₀:Hp}{E':XK}
end
end L2
namespace L2
open PySem PySem.Spec PyProof.Rows
open AutoSeq1 (wpAny_loadPart')
open MeetsSeq
theorem LZ (l:Addr) (items:Array Value) (n:Nat) (dd:Option Addr) (sl:Array (Option Value)) (x:Value) (e:Value→Bool) (he:∀y,y∈items→EqGives y x (e y)) (j:Nat) (hj:j<items.size)
  (hit:e items[j]=true) (hno:∀m (hm:m<items.size),m<j→e items[m]=false) :
  Meets (Builtin.«tuple.index» ⟨[.ref l,x],[]⟩) (fun _ R s=>s.heap.get? l=some { cls:=.type "tuple", dict:=dd,data:=.seq items n,slots:=sl }/\R (.ok (.ret (.int j s.toks))) { s with toks:=s.toks+1 }) :=
 .of_wp fun prog w A R s h=>by
  obtain ⟨hp,g,d,tk,os⟩:=s;obtain ⟨hl,h⟩:=h
  wp_walk using wpAny_loadPart' hl
  change wpAny (model prog w) A.in1 (forIn [:min items.size items.size] ((none,()):Option Fin×Unit) _) _ _ _
  rw [Std.Legacy.Range.forIn_eq_forIn_range']
  simp only [Std.Legacy.Range.size,Nat.sub_zero,Nat.add_sub_cancel,Nat.div_one,Nat.min_self]
  refine wpAny_forIn_list _ (fun rest b s'=>∃k,rest=List.range' k (items.size-k) 1/\k≤j/\b.1=none/\s'=(⟨hp,g,d,tk,os⟩:Shared)) _ ?_ ?_ _ _ ⟨0,rfl,Nat.zero_le _,rfl,rfl⟩
  ·rintro i rest b s' ⟨k,hk,hkj,hb,rfl⟩
   have hks:k<items.size:=Nat.lt_of_le_of_lt hkj hj
   rw [show items.size-k=(items.size-(k+1))+1 by omega,List.range'_succ] at hk
   injection hk with e1 e2
   subst e1 e2
   have hy:items[i]?=some items[i]:=Array.getElem?_eq_getElem hks
   simp only [hy]
   refine wpAny_bind (he _ (Array.getElem_mem hks) prog w _ _ _ _ ?_)
   by_cases hij:i=j
   ·subst hij
    rw [hit]
    wp_walk
    exact ⟨_,rfl,h⟩
   ·rw [hno i hks (by omega)]
    wp_walk
    exact ⟨i+1,rfl,by omega,rfl,rfl⟩
  ·rintro b s' ⟨k,hk,hkj,_⟩
   have:items.size-k=0:=by
    cases hn:items.size-k with
    | zero=>rfl
    | succ m=>rw [hn,List.range'_succ] at hk;cases hk
   omega
section
variable {X:Cx}
theorem OY {ys:List Str}{its:List Value}(r:Vals (ys.map V.str) its) {i:Nat}{z:Str}(h:ys[i]?=some z):∃t,its[i]?=some (.str z t):=by
 obtain ⟨u,hu,t,rfl⟩:=r.get (i:=i) (x:=.str z) (by rw [List.getElem?_map,h];rfl)
 exact ⟨t,hu⟩
def UN (z:Str):Value→Bool
 | .str y _=>y==z
 | _=>false
theorem P7 {K:PySem.W.Frag}(hK:X.K=K:=by rfl):MtR X "tuple.index" (fun x xs H Q=>∃(p:Addr) (ys:List Str) (z:Str) (j:Nat),x=.ref p/\xs=[.str z]/\SqT K H p (ys.map V.str)/\ys[j]?=some z/\(∀m,m<j→ys[m]?≠some z)/\Q (.int (j:Int)) H):=by
 subst hK
 intro pins s σ H x xs v us Q I rx rs h
 obtain ⟨p,ys,z,j,rfl,rfl,hq,hj,hno,q⟩:=h
 cases rx
 obtain ⟨u,rfl,t,rfl⟩:=vals1 rs
 obtain ⟨its,rv,ht,hz⟩:=I.tuple hq
 obtain ⟨⟨c,dd,dt,sl⟩,ho,hc,n,hd⟩:=ht
 have hc:c=.type "tuple" := hc
 have hd:dt=.seq its.toArray n:=hd
 subst hc hd
 have hl:=rv.length
 rw [List.length_map] at hl
 have hjl:j<ys.length:=(List.getElem?_eq_some_iff.mp hj).1
 have he:∀y,y∈its.toArray→EqGives y (.str z t) (UN z y):=fun y hy=>by
  obtain ⟨i,hi,rfl⟩:=List.mem_iff_getElem.mp (by simpa using hy)
  obtain ⟨t',e'⟩:=OY rv (List.getElem?_eq_getElem (by omega:i<ys.length))
  rw [List.getElem?_eq_getElem hi] at e'
  rw [Option.some.inj e']
  exact PyProof.Rows.eqGives_str _ _ _ _
 have at_:∀m (hm:m<its.toArray.size),∃t',its.toArray[m]=.str (ys[m]'(by simp at hm;omega)) t':=fun m hm=>by
  have hm':m<ys.length:=by simp at hm;omega
  obtain ⟨t',e'⟩:=OY rv (List.getElem?_eq_getElem hm')
  refine ⟨t',?_⟩
  have hm2:m<its.length:=by omega
  rw [List.getElem?_eq_getElem hm2] at e'
  simpa using Option.some.inj e'
 refine call_meets F.slot_tuple_index ⟨_,ho,rfl⟩ F.entry_tuple_index (F.args_tuple_index_2 _ _) (LZ p its.toArray n dd sl (.str z t) (UN z) he j (by simp;omega) ?_ ?_) ⟨ho,⟨.int (j:Int),H,I.tok _,⟨_,rfl⟩,q⟩⟩
 ·obtain ⟨t',e'⟩:=at_ j (by simp;omega)
  rw [e']
  rw [List.getElem?_eq_getElem hjl] at hj
  show (ys[j]==z)=true
  rw [Option.some.inj hj]
  exact beq_self_eq_true z
 ·intro m hm hmj
  obtain ⟨t',e'⟩:=at_ m hm
  rw [e']
  show (ys[m]==z)=false
  have hne:=hno m hmj
  rw [List.getElem?_eq_getElem (by omega:m<ys.length)] at hne
  exact beq_eq_false_iff_ne.mpr fun q=>hne (congrArg some q)
end
theorem SR {b:Bool}{A B:Prop}(hb:b=false) (h:B):if b=true then A else B:=by rw [hb];exact ES h
end L2
namespace L2
open PySem PySem.Spec PyProof.Rows
structure ExI (K:PySem.W.Frag) (C:Addr):Prop where
 ga:PySem.W.findIn K (.ref C) "__getattribute__" = some (some (.builtin "BaseException.__getattribute__"))
 gt:PySem.W.findIn K (.ref C) "__getattr__" = some none
 ck:PySem.W.findIn K (.ref C) "__class__" = some (some (.builtin "object.__class__"))
 sb:PySem.W.subIn K (.ref C) (.type "BaseException")=some true
 so:PySem.W.subIn K (.ref C) (.type "object")=some true
 cl:(PySem.W.clsIn K C).isSome=true
section
variable {prog:Program}{w:World}{A:Around}{E:Value→Shared→Prop}{K:PySem.W.Frag}{h:Heap}{g:Array GenState}{d:Drawn}{t:Nat}{os:OsState}{a C:Addr}{o:Obj}
end
section
variable {X:Cx}
end
theorem AK.F0 {H H':Hp}{b:Addr}{o:HO}(e:AK H H') (h:H b=none):AK H (L2.upd H' b o):=fun c u q=>by
 rw [AO (AM q h)]
 exact e c u q
end L2
namespace L2
open PySem PySem.Spec PyProof.Rows
section
variable {X:Cx}{k:Nat}{f C:Addr}{fd:FuncData}{ps:List Str}{sp:Sp}{m:Str}{apos pos:Pos}{e o:Expr}{es:List Expr}{t:TA}{ta te:TE}
abbrev TSX:=Ends→(St→XK)→St→Hp→Prop
variable {st:Stmt}{sts a b:List Stmt}{c0:Expr}{tx:TX}{u v:TSX}{tc:TT}{x:Str}{px:Pos}{i:Nat}
variable {cn n:Str}{np hpos:Pos}{CF:Addr}{b₀:Stmt}{suite:List Stmt}{th:Addr→TS}
end
section
variable {X:Cx}
end
end L2
namespace L2
open PySem Builtin Builtin.Str
section
variable {X:Cx}
end
theorem S0 {a b:Str}(h:a.cps.toList=b.cps.toList):a=b:=by
 cases a;cases b
 congr 1
 exact Array.toList_inj.mp h
end L2
namespace L2
open PySem PySem.Spec PyProof.Rows
open MeetsSeq
section
variable {X:Cx}
theorem JT {α β:Type}{F:α→β→Prop}:∀{l₁:List α}{l₂:List β},Paired F l₁ l₂→∀{i:Nat}{a:α}{b:β},l₁[i]?=some a→l₂[i]?=some b→F a b
 | _,_,.nil,i,a,b,h,_=>by simp at h
 | _,_,.cons h _,0,a,b,h1,h2=>by
  have e1:=Option.some.inj h1
  have e2:=Option.some.inj h2
  subst e1 e2
  exact h
 | _,_,.cons _ r,i+1,a,b,h1,h2=>JT r (i:=i) (by simpa using h1) (by simpa using h2)
theorem Ox {k:Key}{v:Value}(h:DV k v=true):RelV (kV k) v:=by
 rcases A1 h with ⟨i,t,rfl,rfl⟩|⟨x,t,rfl,rfl⟩
 ·exact ⟨t,rfl⟩
 ·exact ⟨t,rfl⟩
theorem Kz {kvs:List (Key×V)}{vs:List (Key×Value)}{acc:List Value}(rel:KV kvs vs) (hl:acc.length=vs.length) (h:∀(j:Nat) (v:Value),acc[j]?=some v→∃(k:Key) (x:Value),vs[j]?=some (k,x)/\DV k v=true):Vals (kvs.map fun p=>kV p.1) acc:=by
 refine Ax ?_ ?_
 ·rw [List.length_map,hl];exact Paired.length rel
 ·intro i a b ha hb
  obtain ⟨k,x,hv,hk⟩:=h i b hb
  rw [List.getElem?_map] at ha
  obtain ⟨p,hp,rfl⟩:=Option.map_eq_some_iff.mp ha
  have q:=JT rel hp hv
  rw [q.1]
  exact Ox hk
theorem Jy {K:PySem.W.Frag}(hc:X.calm=true):CJ X (.type "list") (fun xs H Q=>∃(a:Addr) (kvs:List (Key×V)),xs=[.ref a]/\H a=some (.dK kvs)/\∀l,H l=none→Q (.ref l) (upd H l (.lst (kvs.map fun p=>kV p.1)))):=by
 intro pins s σ H xs us Q I r h
 obtain ⟨a,kvs,rfl,e,q⟩:=h
 obtain ⟨u,rfl,rx⟩:=vals1 r
 cases rx
 obtain ⟨z,lo,vs,rel,dd⟩:=NQ I.hok e
 obtain ⟨ep,hat⟩:=dd.dictAt
 have hlen:kvs.length=vs.length:=Paired.length rel
 refine PySem.W.kdl_call (PySem.W.kdl_dict (knd:=Ah X.prog X.w) (kvs:=vs) (ep:=ep) lo) (I.ok.hd hc) hat (by omega) fun h' tk acc c' kp e' it=>?_
 refine ⟨.ref s.heap.objs.size,_,I.laid (t':=tk) kp (Nat.le_refl _) (show BB X.prog X.w _ h' _ (.lst (kvs.map fun p=>kV p.1)) from ⟨by rw [List.length_map];exact z,acc.toList,c',?_,by simpa using e'⟩),rfl,q _ (I.hok.fresh (Nat.le_refl _))⟩
 exact Kz rel (by rw [Array.length_toList];exact it.1) fun j v hv=>it.2 j v (by rw [←Array.getElem?_toList];exact hv)
end
end L2
namespace L2
open PySem
section
variable {prog:Program}{w:World}{A:Around}{E:Value→Shared→Prop}{s:Shared}
end
end L2
set_option maxRecDepth 100000
namespace L2
open PySem PySem.Spec PyProof.Rows
open MeetsSeq
section
variable {X:Cx}{o i value:Expr}{pos pos':Pos}{td ty tv:TE}
theorem MW {x:V}{u:Value}(r:RelV x u):∀{xs:List V}{us:List Value},Vals xs us→∀j,Vals (xs.set j x) (us.set j u)
 | _,_,.nil,_=>.nil
 | _,_,.cons a b,0=>.cons r b
 | _,_,.cons a b,j+1=>.cons a (MW r b j)
end
end L2
namespace L2
open PySem PySem.Spec PyProof.Rows
structure ExF (K:PySem.W.Frag) (C:Addr) (f:Str):Prop where
 ex:ExI K C
 hd:PySem.W.hasDictIn K C=true
 na:PySem.W.findIn K (.ref C) f=some none
 sa:PySem.W.findIn K (.ref C) "__setattr__" = some (some (.builtin "object.__setattr__"))
section
variable {prog:Program}{w:World}{A:Around}{E:Value→Shared→Prop}{K:PySem.W.Frag}{h:Heap}{g:Array GenState}{d:Drawn}{t:Nat}{os:OsState}{a C dx:Addr}{o:Obj}{f:Str}{v:Value}
end
abbrev VB:List Value:=[.type "ValueError", .type "Exception", .type "BaseException", .type "object"]
structure ExP (K:PySem.W.Frag) (C cF fI:Addr) (f:Str):Prop where
 lk:∃(nm q:Str) (NS:Addr) (bs:List Value) (hdct:Bool) (sn:List Str) (sub:List Value) (ab:Bool) (col:Option Bool) (dd:Option Addr) (k0 k1 k2 k3 k5:Option Value),
  K.lookup C=some (excClassObj nm q C NS bs (.ref cF::VB) hdct sn sub ab col dd k0 k1 k2 k3 k5 "ValueError.__new__")
 tl:PySem.W.excIn K cF VB "ValueError.__new__" = true
 init:PySem.W.findIn K (.ref C) "__init__" = some (some (.ref fI))
 fn:PySem.W.isFn K (.ref fI)=true
 fl:ExF K C f
section
variable {X:Cx}{o e value:Expr}{f:Str}{pos pos':Pos}{ta tv:TE}
end
section
variable {prog:Program}{w:World}{A:Around}{E:Value→Shared→Prop}{K:PySem.W.Frag}{h:Heap}{g:Array GenState}{d:Drawn}{t:Nat}{os:OsState}{C cF fI:Addr}{f:Str}
end
section
variable {P:Program}{w:World}{K:PySem.W.Frag}{mg:Str→Option Value}{base:Heap}{N:List Str}{qual:Str}{scope:Scope}{f:Addr}{cd:Value}{A:Around}{outer:List Env}{s₀:Shared}{H₀:Hp}{E':XK}{fl:Str}
end
end L2
namespace L2
open PySem PySem.Spec PyProof.Rows
theorem Gq {a b:Int}{A B:Prop}(h1:a=b→A) (h2:¬ a=b→B):if decide (V.int a=V.int b)=true then A else B :=
 OF (fun e=>h1 (V.int.inj (of_decide_eq_true e))) fun e=>h2 fun z=>of_decide_eq_false e (congrArg V.int z)
theorem K7 {a b:Str}{A B:Prop}(h1:a=b→A) (h2:¬ a=b→B):if decide (V.str a=V.str b)=true then A else B :=
 OF (fun e=>h1 (V.str.inj (of_decide_eq_true e))) fun e=>h2 fun z=>of_decide_eq_false e (congrArg V.str z)
theorem He {c:Prop}[Decidable c] {A B:Prop}(h1:c→A) (h2:¬ c→B):if decide c=true then A else B :=
 OF (fun e=>h1 (of_decide_eq_true e)) fun e=>h2 (of_decide_eq_false e)
def Vq (t:TS):TS:=fun D σ H=>∃N:St→Hp→Prop,t { D with nx:=N } σ H/\∀σ' H',N σ' H'→D.nx σ' H'
theorem HQ {X:Cx}{st:PySem.Stmt}{t:TS}(h:PS X st t):PS X st (Vq t):=fun pins s σ H D I ⟨N,q,k⟩=>by
 refine thn (h pins s σ H { D with nx:=N } I q) fun f s' z=>?_
 cases f with
 | next=>obtain ⟨σ',H',I',n⟩:=z;exact ⟨σ',H',I',k _ _ n⟩
 | brk=>exact z
 | cont=>exact z
 | ret u=>exact z
theorem LC {t:TS} {D:Ends} {σ:St} {H:Hp} (N:St→Hp→Prop) (h:t { D with nx:=N } σ H) (k:∀σ' H',N σ' H'→D.nx σ' H'):Vq t D σ H:=⟨N,h,k⟩
theorem AK.Ay {H:Hp}{a:Addr}{o:HO}(h:H a=none):AK H (L2.upd H a o):=(AK.refl H).upd h
end L2
namespace Srt
open PySem PyProof.Rows
structure Cmp (prog:Program) (w:World) (A:Around) (s:Shared) (κ:SortKind) (O:KeyOrd) (kf:Value→O.α) (a₀:Array Keyed):Prop where
 ask:∀p∈a₀.toList,∀q∈a₀.toList,∀(Q:Bool→Shared→Prop) (E:Value→Shared→Prop),Q (O.blt (kf p.1) (kf q.1)) s→wpAny (model prog w) A (keyLt' κ p.1 q.1) Q E s
structure SB (κ:SortKind) (a₀:Array Keyed) (st:SortSt):Prop where
 perm:(arrOf st).Perm a₀
 kind:kindOf st=κ
 failed:failedOf st=none
def KX {O:KeyOrd}(kf:Value→O.α) (xs:Array Keyed) (i:Nat):O.α:=kf ((xs[i]?.map (·.1)).getD .none)
def Up {O:KeyOrd}(kf:Value→O.α) (xs:Array Keyed) (lo hi:Nat):Prop:=∀i j,lo≤i→i≤j→j<hi→O.kle (KX kf xs i) (KX kf xs j)
theorem A9 {O:KeyOrd}{kf:Value→O.α}{xs ys:Array Keyed}{i j:Nat}(h:xs[i]?=ys[j]?):KX kf xs i=KX kf ys j:=by unfold KX;rw [h]
section
variable {prog:Program}{w:World}{A:Around}{E:Value→Shared→Prop}{s:Shared}{κ:SortKind}{O:KeyOrd}{kf:Value→O.α}{a₀:Array Keyed}{st:SortSt}
theorem SB.size (B:SB κ a₀ st):(arrOf st).size=a₀.size:=B.perm.size_eq
theorem SB.put (B:SB κ a₀ st) {xs:Array Keyed}(h:xs.Perm (arrOf st)):SB κ a₀ (setArr st xs):=⟨h.trans B.perm,B.kind,B.failed⟩
theorem SB.at (B:SB κ a₀ st) {i:Nat}(hi:i<a₀.size):∃p,(arrOf st)[i]?=some p/\p∈a₀.toList/\KX kf (arrOf st) i=kf p.1:=by
 have hi':i<(arrOf st).size:=by rw [B.size];exact hi
 refine ⟨(arrOf st)[i],getElem?_pos _ i hi',(Array.perm_iff_toList_perm.mp B.perm).mem_iff.mp (by simp),?_⟩
 unfold KX
 rw [getElem?_pos _ i hi']
 rfl
theorem RQ (C:Cmp prog w A s κ O kf a₀) (B:SB κ a₀ st) {p q:Keyed}(hp:p∈a₀.toList) (hq:q∈a₀.toList) {Q:Option Bool→SortSt→Prop}(h:Q (some (O.blt (kf p.1) (kf q.1))) st):wpS (model prog w) A E s (lt' p q) Q st:=by
 rw [lt'_eq]
 refine wpS_bind (wpS_get ?_)
 rw [B.kind]
 exact wpS_bind (wpS_lift (wpAny_attempt (C.ask p hp q hq _ _ ⟨rfl,wpS_pure h⟩)))
theorem JI (C:Cmp prog w A s κ O kf a₀) (B:SB κ a₀ st) {i j:Nat}(hi:i<a₀.size) (hj:j<a₀.size) {Q:Option Bool→SortSt→Prop}(h:Q (some (O.blt (KX kf (arrOf st) i) (KX kf (arrOf st) j))) st):wpS (model prog w) A E s (ltAt' i j) Q st:=by
 obtain ⟨p,ep,mp,kp⟩:=B.at (kf:=kf) hi
 obtain ⟨q,eq,mq,kq⟩:=B.at (kf:=kf) hj
 rw [kp,kq] at h
 rw [ltAt'_eq]
 refine wpS_bind (wpS_get ?_)
 show wpS _ _ _ _ (elem' (arrOf st) i >>= fun x=>elem' (arrOf st) j >>= fun y=>lt' x y) Q st
 rw [elem'_eq,elem'_eq,ep,eq]
 exact wpS_bind (wpS_pure (wpS_bind (wpS_pure (RQ C B mp mq h))))
theorem HY {xs:Array Keyed}{i j:Nat}(hj:j≤xs.size) (k:Nat):KX kf (mirror xs i j ((j-i) / 2)) k=if i≤k/\k<j then KX kf xs (i+j-1-k) else KX kf xs k:=by
 have e:=getElem?_mirror_all (xs:=xs) (i:=i) hj k
 by_cases h:i≤k/\k<j
 ·rw [if_pos h] at e ⊢;exact A9 e
 ·rw [if_neg h] at e ⊢;exact A9 e
theorem Ky {xs:Array Keyed}{src d:Nat}(hs:src<xs.size) (hd:d≤src) (k:Nat):KX kf (bubble xs src d) k=if k=src-d then KX kf xs src else if src-d<k/\k≤src then KX kf xs (k-1) else KX kf xs k:=by
 have e:=getElem?_bubble hs d hd k
 by_cases h1:k=src-d
 ·rw [if_pos h1] at e ⊢;exact A9 e
 ·rw [if_neg h1] at e ⊢
  by_cases h2:src-d<k/\k≤src
  ·rw [if_pos h2] at e ⊢;exact A9 e
  ·rw [if_neg h2] at e ⊢;exact A9 e
structure Ex (lo:Nat) (st st':SortSt):Prop where
 pend:pendingOf st'=pendingOf st
 low:∀k,k<lo→(arrOf st')[k]?=(arrOf st)[k]?
theorem Ex.refl (lo:Nat) (st:SortSt):Ex lo st st:=⟨rfl,fun _ _=>rfl⟩
theorem Ex.trans {lo:Nat}{a b c:SortSt}(x:Ex lo a b) (y:Ex lo b c):Ex lo a c:=⟨y.pend.trans x.pend,fun k h=>(y.low k h).trans (x.low k h)⟩
theorem RS (C:Cmp prog w A s κ O kf a₀) {lo n ok:Nat}(hn:lo+n≤a₀.size) (hok:ok≤n) (B:SB κ a₀ st) (hs:Up kf (arrOf st) lo (lo+ok)) {Q:Bool→SortSt→Prop}
  (h:∀st',SB κ a₀ st'→Ex lo st st'→Up kf (arrOf st') lo (lo+n)→Q true st'):wpS (model prog w) A E s (binarySort' lo n ok) Q st:=by
 rw [binarySort'_eq]
 refine wpS_bind (wpS_mono (wpS_forRange (I:=fun k c st'=>c=(none,())/\SB κ a₀ st'/\Ex lo st st'/\Up kf (arrOf st') lo (lo+min k n))
  (Q:=fun c st'=>c=(none,())/\SB κ a₀ st'/\Ex lo st st'/\Up kf (arrOf st') lo (lo+n)) ?step ?fin ?init) ?post)
 case post =>
  rintro c st' ⟨rfl,B',K',u⟩
  exact wpS_pure (h st' B' K' u)
 case init =>
  refine ⟨rfl,B,Ex.refl _ _,fun i j h1 h2 h3=>?_⟩
  by_cases z:ok=0
  ·obtain rfl:i=j:=by omega
   exact KeyOrd.kle_refl _
  ·exact hs i j h1 h2 (by omega)
 case fin =>
  rintro c st' ⟨hc,B',K',u⟩
  rw [show min (max (max ok 1) n) n=n by omega] at u
  exact ⟨hc,B',K',u⟩
 case step =>
  rintro k c st' hk1 hk2 ⟨rfl,B',K',u⟩
  rw [show min k n=k by omega] at u
  refine wpS_bind (wpS_mono (wpS_forRange (I:=fun x c st2=>st2=st'/\∃l r,c=(none,l,r)/\l≤r/\r≤k/\r-l≤k-x /\
    (∀i,i<l→O.kle (KX kf (arrOf st') (lo+i)) (KX kf (arrOf st') (lo+k)))/\(∀i,r≤i→i<k→O.klt (KX kf (arrOf st') (lo+k)) (KX kf (arrOf st') (lo+i))))
   (Q:=fun c st2=>st2=st'/\∃l r,c=(none,l,r)/\l≤k/\(∀i,i<l→O.kle (KX kf (arrOf st') (lo+i)) (KX kf (arrOf st') (lo+k)))/\(∀i,l≤i→i<k→O.klt (KX kf (arrOf st') (lo+k)) (KX kf (arrOf st') (lo+i)))) ?i1 ?i2 ?i3) ?i4)
  case i3=>exact ⟨rfl,0,k,rfl,by omega,by omega,by omega,fun i q=>by omega,fun i q1 q2=>by omega⟩
  case i2 =>
   rintro c st2 ⟨rfl,l,r,rfl,h1,h2,h3,h4,h5⟩
   obtain rfl:l=r:=by omega
   exact ⟨rfl,l,l,rfl,h2,h4,h5⟩
  case i1 =>
   rintro x c st2 _ hx ⟨rfl,l,r,rfl,h1,h2,h3,h4,h5⟩
   dsimp only
   by_cases g:l≥r
   ·rw [if_pos g]
    obtain rfl:l=r:=by omega
    exact wpS_pure ⟨rfl,l,l,rfl,h2,h4,h5⟩
   ·rw [if_neg g]
    refine wpS_bind (JI C B' (by omega) (by omega) ?_)
    cases e:O.blt (KX kf (arrOf st2) (lo+k)) (KX kf (arrOf st2) (lo+(l+r) / 2)) with
    | true =>
     refine wpS_pure ⟨rfl,l,(l+r) / 2,rfl,by omega,by omega,by omega,h4,fun i q1 q2=>?_⟩
     exact KeyOrd.klt_of_klt_of_kle e (u _ _ (by omega) (by omega) (by omega))
    | false =>
     refine wpS_pure ⟨rfl,(l+r) / 2+1,r,rfl,by omega,by omega,by omega,fun i q1=>?_,h5⟩
     exact KeyOrd.kle_trans (u (lo+i) (lo+(l+r) / 2) (by omega) (by omega) (by omega)) (show O.kle _ _ from e)
  case i4 =>
   rintro c st2 ⟨rfl,l,r,rfl,h1,h4,h5⟩
   show wpS _ _ _ _ (moveDown' (lo+k) (lo+l) >>= fun _=>pure (ForInStep.yield (none,()))) _ _
   rw [moveDown'_eq]
   have hks:lo+k<(arrOf st2).size:=by rw [B'.size];omega
   have hd:lo+k-(lo+l)≤lo+k:=by omega
   refine wpS_bind (wpS_modify (wpS_pure ⟨rfl,B'.put (bubble_perm _ _ _),K'.trans ⟨rfl,fun z hz=>?_⟩,?_⟩))
   ·show (bubble (arrOf st2) (lo+k) (lo+k-(lo+l)))[z]?=_
    rw [getElem?_bubble hks _ hd,if_neg (by omega),if_neg (by omega)]
   ·rw [show min (k+1) n=k+1 by omega]
    intro i j q1 q2 q3
    show O.kle (KX kf (bubble (arrOf st2) (lo+k) (lo+k-(lo+l))) i) (KX kf (bubble (arrOf st2) (lo+k) (lo+k-(lo+l))) j)
    rw [Ky hks hd,Ky hks hd,show lo+k-(lo+k-(lo+l))=lo+l by omega]
    have lowv:∀z,lo≤z→z<lo+l→O.kle (KX kf (arrOf st2) z) (KX kf (arrOf st2) (lo+k)):=fun z z1 z2=>by
     have:=h4 (z-lo) (by omega)
     rwa [show lo+(z-lo)=z by omega] at this
    have hiv:∀z,lo+l≤z→z<lo+k→O.klt (KX kf (arrOf st2) (lo+k)) (KX kf (arrOf st2) z):=fun z z1 z2=>by
     have:=h5 (z-lo) (by omega) (by omega)
     rwa [show lo+(z-lo)=z by omega] at this
    repeat' split
    all_goals first
     | (exfalso;omega)
     | exact KeyOrd.kle_refl _
     | exact lowv _ (by omega) (by omega)
     | exact KeyOrd.kle_of_klt (hiv _ (by omega) (by omega))
     | exact u _ _ (by omega) (by omega) (by omega)
end
end Srt
namespace Srt
open PySem PyProof.Rows
section
variable {prog:Program}{w:World}{A:Around}{E:Value→Shared→Prop}{s:Shared}{κ:SortKind}{O:KeyOrd}{kf:Value→O.α}{a₀:Array Keyed}{st:SortSt}
theorem Up.grow {xs:Array Keyed}{lo n:Nat}(u:Up kf xs lo (lo+n)) (h1:1≤n) (h:O.kle (KX kf xs (lo+n-1)) (KX kf xs (lo+n))):Up kf xs lo (lo+(n+1)):=fun i j q1 q2 q3=>by
 by_cases z:j=lo+n
 ·subst z
  by_cases z2:i=lo+n
  ·subst z2;exact KeyOrd.kle_refl _
  ·exact KeyOrd.kle_trans (u i (lo+n-1) q1 (by omega) (by omega)) h
 ·exact u i j q1 q2 (by omega)
def Dn (kf:Value→O.α) (xs:Array Keyed) (lo hi:Nat):Prop:=∀i j,lo≤i→i≤j→j<hi→O.kle (KX kf xs j) (KX kf xs i)
theorem Dn.grow {xs:Array Keyed}{lo n:Nat}(u:Dn kf xs lo (lo+n)) (h1:1≤n) (h:O.kle (KX kf xs (lo+n)) (KX kf xs (lo+n-1))):Dn kf xs lo (lo+(n+1)):=fun i j q1 q2 q3=>by
 by_cases z:j=lo+n
 ·subst z
  by_cases z2:i=lo+n
  ·subst z2;exact KeyOrd.kle_refl _
  ·exact KeyOrd.kle_trans h (u i (lo+n-1) q1 (by omega) (by omega))
 ·exact u i j q1 q2 (by omega)
theorem EE (B:SB κ a₀ st) {lo i j:Nat}(hi:lo≤i) (hj:j≤a₀.size):SB κ a₀ (setArr st (mirror (arrOf st) i j ((j-i) / 2)))/\Ex lo st (setArr st (mirror (arrOf st) i j ((j-i) / 2))):=by
 refine ⟨B.put (mirror_perm _ _ _ _),rfl,fun k hk=>?_⟩
 show (mirror (arrOf st) i j ((j-i) / 2))[k]?=_
 rw [getElem?_mirror_all (by rw [B.size];exact hj),if_neg (by omega)]
theorem Fe (B:SB κ a₀ st) {i j:Nat}(hj:j≤a₀.size) (h:∀k,i≤k→k<j→KX kf (arrOf st) k=KX kf (arrOf st) (j-1)) (k:Nat):KX kf (mirror (arrOf st) i j ((j-i) / 2)) k=KX kf (arrOf st) k:=by
 rw [HY (by rw [B.size];exact hj)]
 split
 ·rw [h _ (by omega) (by omega),h k (by omega) (by omega)]
 ·rfl
theorem RP (C:Cmp prog w A s κ O kf a₀) {lo nrem n0:Nat}(hn:lo+nrem≤a₀.size) (h0:1≤n0) (h1:n0≤nrem) (B:SB κ a₀ st) (u:Up kf (arrOf st) lo (lo+n0)) {Q:Option (Option Nat)×Nat→SortSt→Prop}
  (h:∀n,n0≤n→n≤nrem→Up kf (arrOf st) lo (lo+n)→(n<nrem→O.klt (KX kf (arrOf st) (lo+n)) (KX kf (arrOf st) (lo+n-1)))→Q (none,n) st)
  {f:Nat→Option (Option Nat)×Nat→StateT SortSt Sem (ForInStep (Option (Option Nat)×Nat))} (hf:∀x c,f x c=(do
   match (← ltAt' (lo+c.2) (lo+c.2-1)) with
   | some b=>if b=true then pure (.done (none,c.2)) else pure (.yield (none,c.2+1))
   | none=>pure (.done (some none,c.2)))):wpS (model prog w) A E s (forIn [n0:nrem] (none,n0) f) Q st:=by
 refine wpS_forRange (I:=fun x c st'=>st'=st/\c=(none,x)/\n0≤x/\x≤nrem/\Up kf (arrOf st) lo (lo+x)) ?_ ?_ ⟨rfl,rfl,Nat.le_refl _,h1,u⟩
 ·rintro x c st' hx1 hx2 ⟨rfl,rfl,h2,h3,u'⟩
  rw [hf]
  refine wpS_bind (JI C B (by omega) (by omega) ?_)
  cases e:O.blt (KX kf (arrOf st') (lo+x)) (KX kf (arrOf st') (lo+x-1)) with
  | true=>exact wpS_pure (h x h2 h3 u' fun _=>e)
  | false=>exact wpS_pure ⟨rfl,rfl,by omega,by omega,u'.grow (by omega) e⟩
 ·rintro c st' ⟨rfl,rfl,h2,h3,u'⟩
  rw [show max n0 nrem=nrem by omega] at u' ⊢
  exact h nrem h1 (Nat.le_refl _) u' fun q=>absurd q (Nat.lt_irrefl _)
end
section
variable {prog:Program}{w:World}{A:Around}{E:Value→Shared→Prop}{s:Shared}{κ:SortKind}{O:KeyOrd}{kf:Value→O.α}{a₀:Array Keyed}{st:SortSt}
abbrev RSt:=Option (Option Nat)×Nat
def JG (lo:Nat) (c:RSt):StateT SortSt Sem (ForInStep RSt):=ltAt' (lo+c.2) (lo+c.2-1) >>= fun o=>match o with
 | some b=>if b=true then pure (.done (none,c.2)) else pure (.yield (none,c.2+1))
 | _=>pure (.done (some none,c.2))
def tl3 (lo nrem n:Nat):StateT SortSt Sem (Option Nat):=reverseSlice' lo (lo+n) >>= fun _=>forIn [n:nrem] ((none,n):RSt) (fun _ c=>JG lo c) >>= fun c=>match c.1 with
 | some r=>pure r
 | none=>pure (some c.2)
abbrev DSt:=Option (Option Nat)×Nat×Nat
def O3 (lo:Nat) (c:DSt):StateT SortSt Sem (ForInStep DSt):=ltAt' (lo+c.2.1) (lo+c.2.1-1) >>= fun o=>match o with
 | some b=>if b=true then (if c.2.2 > 0 then reverseSlice' (lo+c.2.1-(c.2.2+1)) (lo+c.2.1) >>= fun _=>pure (.yield (none,c.2.1+1,0)) else pure (.yield (none,c.2.1+1,0)))
   else ltAt' (lo+c.2.1-1) (lo+c.2.1) >>= fun o2=>match o2 with
    | some b2=>if b2=true then pure (.done (none,c.2.1,c.2.2)) else pure (.yield (none,c.2.1+1,c.2.2+1))
    | _=>pure (.done (some none,c.2.1,c.2.2))
 | _=>pure (.done (some none,c.2.1,c.2.2))
def dsc (lo nrem n:Nat):StateT SortSt Sem (Option Nat):=liftM (rule "list.sort.descending-run") >>= fun _=>forIn [n+1:nrem] ((none,n+1,0):DSt) (fun _ c=>O3 lo c) >>= fun c=>match c.1 with
 | some r=>pure r
 | none=>if c.2.2 > 0 then reverseSlice' (lo+c.2.1-(c.2.2+1)) (lo+c.2.1) >>= fun _=>tl3 lo nrem c.2.1 else tl3 lo nrem c.2.1
theorem UR (C:Cmp prog w A s κ O kf a₀) {lo nrem n:Nat}(hn:lo+nrem≤a₀.size) (h0:1≤n) (h1:n≤nrem) (B:SB κ a₀ st) (dn:Dn kf (arrOf st) lo (lo+n)) {Q:Option Nat→SortSt→Prop}
  (h:∀m st',SB κ a₀ st'→Ex lo st st'→1≤m→m≤nrem→Up kf (arrOf st') lo (lo+m)→Q (some m) st'):wpS (model prog w) A E s (tl3 lo nrem n) Q st:=by
 unfold tl3
 rw [reverseSlice'_eq]
 refine wpS_bind (wpS_modify ?_)
 obtain ⟨B1,K1⟩:=EE B (Nat.le_refl lo) (show lo+n≤a₀.size by omega)
 have u:Up kf (mirror (arrOf st) lo (lo+n) ((lo+n-lo) / 2)) lo (lo+n):=fun i j q1 q2 q3=>by
  rw [HY (by rw [B.size];omega),HY (by rw [B.size];omega),if_pos (by omega),if_pos (by omega)]
  exact dn _ _ (by omega) (by omega) (by omega)
 refine wpS_bind (RP C hn h0 h1 B1 u (fun m m1 m2 u2 _=>?_) fun x c=>congrArg (ltAt' _ _ >>= ·) (funext fun o=>by cases o <;> rfl))
 exact wpS_pure (h m _ B1 K1 (by omega) m2 u2)
theorem US (C:Cmp prog w A s κ O kf a₀) {lo nrem n:Nat}(hn:lo+nrem≤a₀.size) (h0:1≤n) (h1:n<nrem) (B:SB κ a₀ st) (eq:∀k,lo≤k→k<lo+n→KX kf (arrOf st) k=KX kf (arrOf st) (lo+n-1)) (lt:O.klt (KX kf (arrOf st) (lo+n)) (KX kf (arrOf st) (lo+n-1))) {Q:Option Nat→SortSt→Prop}
  (h:∀m st',SB κ a₀ st'→Ex lo st st'→1≤m→m≤nrem→Up kf (arrOf st') lo (lo+m)→Q (some m) st'):wpS (model prog w) A E s (dsc lo nrem n) Q st:=by
 unfold dsc
 refine wpS_bind (wpS_lift (wpAny_rule ⟨rfl,?_⟩))
 have dn0:Dn kf (arrOf st) lo (lo+(n+1)):=Dn.grow (fun i j q1 q2 q3=>by rw [eq i q1 (by omega),eq j (by omega) q3];exact KeyOrd.kle_refl _) h0 (KeyOrd.kle_of_klt lt)
 refine wpS_bind (wpS_mono (wpS_forRange (I:=fun x c st'=>∃e,c=(none,x,e)/\n+1≤x/\x≤nrem/\e+1≤x/\SB κ a₀ st'/\Ex lo st st'/\Dn kf (arrOf st') lo (lo+x)/\∀k,lo+x-(e+1)≤k→k<lo+x→KX kf (arrOf st') k=KX kf (arrOf st') (lo+x-1))
  (Q:=fun c st'=>∃x e,c=(none,x,e)/\n+1≤x/\x≤nrem/\e+1≤x/\SB κ a₀ st'/\Ex lo st st'/\Dn kf (arrOf st') lo (lo+x)/\∀k,lo+x-(e+1)≤k→k<lo+x→KX kf (arrOf st') k=KX kf (arrOf st') (lo+x-1)) ?step ?fin ?init) ?post)
 case init=>exact ⟨0,rfl,Nat.le_refl _,h1,by omega,B,Ex.refl _ _,dn0,fun k q1 q2=>by rw [show k=lo+(n+1)-1 by omega]⟩
 case fin =>
  rintro c st' ⟨e,rfl,x1,x2,r⟩
  exact ⟨_,e,rfl,x1,x2,r⟩
 case step =>
  rintro x c st' hx1 hx2 ⟨e,rfl,x1,x2,e1,B',K',dn,eqs⟩
  unfold O3
  dsimp only
  refine wpS_bind (JI C B' (by omega) (by omega) ?_)
  cases b:O.blt (KX kf (arrOf st') (lo+x)) (KX kf (arrOf st') (lo+x-1)) with
  | true =>
   dsimp only
   rw [if_pos rfl]
   have dn2:∀ys:Array Keyed,(∀k,KX kf ys k=KX kf (arrOf st') k)→Dn kf ys lo (lo+(x+1)):=fun ys hk=>by
    have:=dn.grow (by omega) (KeyOrd.kle_of_klt b)
    intro i j q1 q2 q3
    rw [hk,hk]
    exact this i j q1 q2 q3
   by_cases he:e > 0
   ·rw [if_pos he,reverseSlice'_eq]
    refine wpS_bind (wpS_modify (wpS_pure ?_))
    obtain ⟨B1,K1⟩:=EE B' (show lo≤lo+x-(e+1) by omega) (show lo+x≤a₀.size by omega)
    exact ⟨0,rfl,by omega,by omega,by omega,B1,K'.trans K1,dn2 _ (Fe B' (by omega) eqs),fun k q1 q2=>by rw [show k=lo+(x+1)-1 by omega]⟩
   ·rw [if_neg he]
    exact wpS_pure ⟨0,rfl,by omega,by omega,by omega,B',K',dn2 _ (fun _=>rfl),fun k q1 q2=>by rw [show k=lo+(x+1)-1 by omega]⟩
  | false =>
   dsimp only
   rw [if_neg Bool.false_ne_true]
   refine wpS_bind (JI C B' (by omega) (by omega) ?_)
   cases b2:O.blt (KX kf (arrOf st') (lo+x-1)) (KX kf (arrOf st') (lo+x)) with
   | true=>exact wpS_pure ⟨x,e,rfl,x1,x2,e1,B',K',dn,eqs⟩
   | false =>
    have ek:KX kf (arrOf st') (lo+x-1)=KX kf (arrOf st') (lo+x):=O.total _ _ b2 b
    refine wpS_pure ⟨e+1,rfl,by omega,by omega,by omega,B',K',dn.grow (by omega) b2,fun k q1 q2=>?_⟩
    rw [show lo+(x+1)-1=lo+x by omega]
    by_cases z:k=lo+x
    ·rw [z]
    ·rw [eqs k (by omega) (by omega),ek]
 case post =>
  rintro c st' ⟨x,e,rfl,x1,x2,e1,B',K',dn,eqs⟩
  dsimp only
  by_cases he:e > 0
  ·rw [if_pos he,reverseSlice'_eq]
   refine wpS_bind (wpS_modify ?_)
   obtain ⟨B1,K1⟩:=EE B' (show lo≤lo+x-(e+1) by omega) (show lo+x≤a₀.size by omega)
   refine UR C hn (by omega) x2 B1 (fun i j q1 q2 q3=>?_) fun m st2 B2 K2=>h m st2 B2 ((K'.trans K1).trans K2)
   show O.kle (KX kf (mirror (arrOf st') _ _ _) j) (KX kf (mirror (arrOf st') _ _ _) i)
   rw [Fe B' (by omega) eqs,Fe B' (by omega) eqs]
   exact dn i j q1 q2 q3
  ·rw [if_neg he]
   exact UR C hn (by omega) x2 B' dn fun m st2 B2 K2=>h m st2 B2 (K'.trans K2)
theorem Qp {M:Model}{α σ:Type}{m m':StateT σ Sem α}{Q:α→σ→Prop}{t:σ}(e:m'=m) (h:wpS M A E s m Q t):wpS M A E s m' Q t:=by rw [e];exact h
theorem TY (C:Cmp prog w A s κ O kf a₀) {lo nrem:Nat}(hn:lo+nrem≤a₀.size) (h1:1≤nrem) (B:SB κ a₀ st) {Q:Option Nat→SortSt→Prop}
  (h:∀n st',SB κ a₀ st'→Ex lo st st'→1≤n→n≤nrem→Up kf (arrOf st') lo (lo+n)→Q (some n) st'):wpS (model prog w) A E s (countRun' lo nrem) Q st:=by
 rw [countRun'_eq]
 have u1:Up kf (arrOf st) lo (lo+1):=fun i j q1 q2 q3=>by
  obtain rfl:i=j:=by omega
  exact KeyOrd.kle_refl _
 refine wpS_bind (RP C hn (Nat.le_refl _) h1 B u1 (fun n n1 n2 u kl=>?_) fun x c=>congrArg (ltAt' _ _ >>= ·) (funext fun o=>by cases o <;> rfl))
 dsimp only
 by_cases hnr:n=nrem
 ·subst hnr
  rw [if_pos (beq_self_eq_true n)]
  exact wpS_pure (h n st B (Ex.refl _ _) n1 n2 u)
 ·rw [if_neg (by simpa using hnr)]
  by_cases hg:n > 1
  ·rw [if_pos hg]
   refine wpS_bind (JI C B (by omega) (by omega) ?_)
   cases b:O.blt (KX kf (arrOf st) lo) (KX kf (arrOf st) (lo+n-1)) with
   | true=>exact wpS_pure (h n st B (Ex.refl _ _) n1 n2 u)
   | false =>
    have eqk:∀k,lo≤k→k<lo+n→KX kf (arrOf st) k=KX kf (arrOf st) (lo+n-1):=fun k q1 q2=>by
     refine KeyOrd.kle_antisymm (u k (lo+n-1) q1 (by omega) (by omega)) (KeyOrd.kle_trans (show O.kle _ _ from b) (u lo k (Nat.le_refl _) q1 q2))
    dsimp only
    rw [if_neg Bool.false_ne_true]
    refine wpS_bind ?_
    rw [reverseSlice'_eq]
    refine wpS_modify ?_
    refine Qp (m:=dsc lo nrem n) ?same ?_
    case same =>
     exact (by
      unfold dsc
      refine congrArg (liftM (rule _) >>= ·) (funext fun _=>congr (congrArg _ (congrArg (forIn _ _) (funext fun _=>funext fun c=>?_))) (funext fun c=>?_))
      ·unfold O3
       refine congrArg (ltAt' _ _ >>= ·) (funext fun o=>?_)
       cases o with
       | none=>rfl
       | some b =>
        cases b with
        | true=>rfl
        | false=>exact congrArg (ltAt' _ _ >>= ·) (funext fun o2=>by cases o2 <;> rfl)
      ·obtain ⟨c1,c2⟩:=c
       have t3:∀n,tl3 lo nrem n=(reverseSlice' lo (lo+n) >>= fun _=>forIn [n:nrem] ((none,n):RSt) (fun _ c=>JG lo c) >>= fun c=>match c.1 with
        | some r=>pure r
        | none=>pure (some c.2)):=fun _=>rfl
       have t4:∀n (X:Nat→RSt→StateT SortSt Sem (ForInStep RSt)) (Y:RSt→StateT SortSt Sem (Option Nat)),(∀x c,X x c=JG lo c)→(∀c,Y c=match c.1 with
        | some r=>pure r
        | none=>pure (some c.2))→(reverseSlice' lo (lo+n) >>= fun _=>forIn [n:nrem] ((none,n):RSt) X >>= Y)=tl3 lo nrem n:=fun n X Y h1 h2=>by
        rw [t3,show X=fun _ c=>JG lo c from funext fun x=>funext fun c=>h1 x c,show Y=_ from funext h2]
       cases c1 with
       | some r=>rfl
       | none =>
        dsimp only
        by_cases z:c2.2 > 0
        ·rw [if_pos z,if_pos z]
         refine congrArg (reverseSlice' _ _ >>= ·) (funext fun _=>?_)
         exact t4 _ _ _ (fun x c=>congrArg (ltAt' _ _ >>= ·) (funext fun o=>by cases o <;> rfl)) (fun c=>by obtain ⟨d1,d2⟩:=c;cases d1 <;> rfl)
        ·rw [if_neg z,if_neg z]
         exact t4 _ _ _ (fun x c=>congrArg (ltAt' _ _ >>= ·) (funext fun o=>by cases o <;> rfl)) (fun c=>by obtain ⟨d1,d2⟩:=c;cases d1 <;> rfl))
    obtain ⟨B1,K1⟩:=EE B (Nat.le_refl lo) (show lo+n≤a₀.size by omega)
    have me:=Fe B (i:=lo) (j:=lo+n) (by omega) eqk
    refine US C hn n1 (by omega) B1 (fun k q1 q2=>?_) ?_ fun m st2 B2 K2=>h m st2 B2 (K1.trans K2)
    ·show KX kf (mirror (arrOf st) _ _ _) k=KX kf (mirror (arrOf st) _ _ _) _
     rw [me,me]
     exact eqk k q1 q2
    ·show O.klt (KX kf (mirror (arrOf st) _ _ _) _) (KX kf (mirror (arrOf st) _ _ _) _)
     rw [me,me]
     exact kl (by omega)
  ·rw [if_neg hg]
   refine Qp (m:=dsc lo nrem n) ?same ?_
   case same =>
     exact (by
      unfold dsc
      refine congrArg (liftM (rule _) >>= ·) (funext fun _=>congr (congrArg _ (congrArg (forIn _ _) (funext fun _=>funext fun c=>?_))) (funext fun c=>?_))
      ·unfold O3
       refine congrArg (ltAt' _ _ >>= ·) (funext fun o=>?_)
       cases o with
       | none=>rfl
       | some b =>
        cases b with
        | true=>rfl
        | false=>exact congrArg (ltAt' _ _ >>= ·) (funext fun o2=>by cases o2 <;> rfl)
      ·obtain ⟨c1,c2⟩:=c
       have t3:∀n,tl3 lo nrem n=(reverseSlice' lo (lo+n) >>= fun _=>forIn [n:nrem] ((none,n):RSt) (fun _ c=>JG lo c) >>= fun c=>match c.1 with
        | some r=>pure r
        | none=>pure (some c.2)):=fun _=>rfl
       have t4:∀n (X:Nat→RSt→StateT SortSt Sem (ForInStep RSt)) (Y:RSt→StateT SortSt Sem (Option Nat)),(∀x c,X x c=JG lo c)→(∀c,Y c=match c.1 with
        | some r=>pure r
        | none=>pure (some c.2))→(reverseSlice' lo (lo+n) >>= fun _=>forIn [n:nrem] ((none,n):RSt) X >>= Y)=tl3 lo nrem n:=fun n X Y h1 h2=>by
        rw [t3,show X=fun _ c=>JG lo c from funext fun x=>funext fun c=>h1 x c,show Y=_ from funext h2]
       cases c1 with
       | some r=>rfl
       | none =>
        dsimp only
        by_cases z:c2.2 > 0
        ·rw [if_pos z,if_pos z]
         refine congrArg (reverseSlice' _ _ >>= ·) (funext fun _=>?_)
         exact t4 _ _ _ (fun x c=>congrArg (ltAt' _ _ >>= ·) (funext fun o=>by cases o <;> rfl)) (fun c=>by obtain ⟨d1,d2⟩:=c;cases d1 <;> rfl)
        ·rw [if_neg z,if_neg z]
         exact t4 _ _ _ (fun x c=>congrArg (ltAt' _ _ >>= ·) (funext fun o=>by cases o <;> rfl)) (fun c=>by obtain ⟨d1,d2⟩:=c;cases d1 <;> rfl))
   obtain rfl:n=1:=by omega
   exact US C hn n1 (by omega) B (fun k q1 q2=>by rw [show k=lo+1-1 by omega]) (kl (by omega)) h
end
end Srt
namespace Srt
open PySem PyProof.Rows
def T6:Bool→Keyed→Array Keyed→Nat→Nat→Nat→StateT SortSt Sem (Option Nat):=sortPriv% PySem.Builtin.gallop
def R7:Array Keyed→Array Keyed→StateT SortSt Sem (Array Keyed):=sortPriv% PySem.Builtin.mergeLo
def R8:Array Keyed→Array Keyed→StateT SortSt Sem (Array Keyed):=sortPriv% PySem.Builtin.mergeHi
section
variable {prog:Program}{w:World}{A:Around}{E:Value→Shared→Prop}{s:Shared}{κ:SortKind}{O:KeyOrd}{kf:Value→O.α}{a₀:Array Keyed}{st:SortSt}
theorem BP {arr:Array Keyed}{i:Nat}(hi:i<arr.size) {Q:Keyed→SortSt→Prop}(h:Q arr[i] st):wpS (model prog w) A E s (elem' arr i) Q st:=by
 rw [elem'_eq,getElem?_pos arr i hi]
 exact wpS_pure h
def bey (kf:Value→O.α) (left:Bool) (key:Keyed) (arr:Array Keyed) (base i:Nat):Bool:=if left=true then O.blt (KX kf arr (base+i)) (kf key.1) else !O.blt (kf key.1) (KX kf arr (base+i))
theorem BI {arr:Array Keyed}{i:Nat}(hi:i<arr.size):KX kf arr i=kf arr[i].1:=by
 unfold KX
 rw [getElem?_pos arr i hi]
 rfl
theorem V8 (C:Cmp prog w A s κ O kf a₀) (B:SB κ a₀ st) {left:Bool}{key:Keyed}{arr:Array Keyed}{base i:Nat}(hk:key∈a₀.toList) (ha:∀p∈arr.toList,p∈a₀.toList) (hi:base+i<arr.size) {Q:Option Bool→SortSt→Prop}(h:Q (some (bey kf left key arr base i)) st) :
  wpS (model prog w) A E s (elem' arr (base+i) >>= fun x=>if left=true then lt' x key else lt' key x >>= fun o=>pure (o.map fun b=>!b)) Q st:=by
 refine wpS_bind (BP hi ?_)
 have hm:arr[base+i]∈a₀.toList:=ha _ (by simp)
 unfold bey at h
 rw [BI hi] at h
 cases left with
 | true =>
  rw [if_pos rfl] at h ⊢
  exact RQ C B hm hk h
 | false =>
  rw [if_neg Bool.false_ne_true] at h ⊢
  exact wpS_bind (RQ C B hk hm (wpS_pure h))
theorem Sl {left:Bool}{key:Keyed}{arr:Array Keyed}{base n i j:Nat}(u:Up kf arr base (base+n)) (hij:i≤j) (hj:j<n) (h:bey kf left key arr base j=true):bey kf left key arr base i=true:=by
 have uu:=u (base+i) (base+j) (by omega) (by omega) (by omega)
 unfold bey at h ⊢
 cases left with
 | true =>
  rw [if_pos rfl] at h ⊢
  exact KeyOrd.klt_of_kle_of_klt uu h
 | false =>
  rw [if_neg Bool.false_ne_true] at h ⊢
  have h:O.kle (KX kf arr (base+j)) (kf key.1):=by show O.blt _ _=false;simpa using h
  have:O.blt (kf key.1) (KX kf arr (base+i))=false:=KeyOrd.kle_trans uu h
  rw [this]
  rfl
theorem EN (C:Cmp prog w A s κ O kf a₀) (B:SB κ a₀ st) {left:Bool}{key:Keyed}{arr:Array Keyed}{base n hint:Nat}(hk:key∈a₀.toList) (ha:∀p∈arr.toList,p∈a₀.toList) (hb:base+n≤arr.size) (hh:hint<n) (u:Up kf arr base (base+n)) {Q:Option Nat→SortSt→Prop}
  (h:∀k,k≤n→(∀i,i<k→bey kf left key arr base i=true)→(∀i,k≤i→i<n→bey kf left key arr base i=false)→Q (some k) st):wpS (model prog w) A E s (T6 left key arr base n hint) Q st:=by
 have bq:∀{i:Nat} {Q:Option Bool→SortSt→Prop},i<n→Q (some (bey kf left key arr base i)) st→wpS (model prog w) A E s (elem' arr (base+i) >>= fun x=>if left=true then lt' x key else lt' key x >>= fun o=>pure (o.map fun b=>!b)) Q st:=fun hi q=>V8 C B hk ha (by omega) q
 have up:∀i j,i≤j→j<n→bey kf left key arr base j=true→bey kf left key arr base i=true:=fun i j q1 q2 q3=>Sl u q1 q2 q3
 refine wpS_bind (bq hh ?_)
 have fin:∀lo hi,lo≤hi→hi≤n→(∀i,i<lo→bey kf left key arr base i=true)→(∀i,hi≤i→i<n→bey kf left key arr base i=false)→∀{f:Nat→Option (Option Nat)×Nat×Nat→StateT SortSt Sem (ForInStep (Option (Option Nat)×Nat×Nat))} {g:Option (Option Nat)×Nat×Nat→StateT SortSt Sem (Option Nat)},
   (∀x c,f x c=if c.2.1≥c.2.2 then pure (.done (none,c.2.1,c.2.2)) else (elem' arr (base+(c.2.1+(c.2.2-c.2.1) / 2)) >>= fun x=>if left=true then lt' x key else lt' key x >>= fun o=>pure (o.map fun b=>!b)) >>= fun o=>match o with
    | some b=>if b=true then pure (.yield (none,c.2.1+(c.2.2-c.2.1) / 2+1,c.2.2)) else pure (.yield (none,c.2.1,c.2.1+(c.2.2-c.2.1) / 2))
    | none=>pure (.done (some none,c.2.1,c.2.2)))→(∀c,g (none,c)=pure (some c.2))→wpS (model prog w) A E s (forIn [:n] ((none,lo,hi):Option (Option Nat)×Nat×Nat) f >>= g) Q st:=by
  intro lo hi h1 h2 h3 h4 f g hf hg
  refine wpS_bind (wpS_mono (wpS_forRange (I:=fun x c st'=>st'=st/\∃l r,c=(none,l,r)/\l≤r/\r≤n/\r-l≤n-x/\(∀i,i<l→bey kf left key arr base i=true)/\(∀i,r≤i→i<n→bey kf left key arr base i=false))
   (Q:=fun c st'=>st'=st/\∃l,c=(none,l,l)/\l≤n/\(∀i,i<l→bey kf left key arr base i=true)/\(∀i,l≤i→i<n→bey kf left key arr base i=false)) ?_ ?_ ⟨rfl,lo,hi,rfl,h1,h2,by omega,h3,h4⟩) ?_)
  ·rintro x c st' _ hx ⟨rfl,l,r,rfl,q1,q2,q3,q4,q5⟩
   rw [hf]
   dsimp only
   by_cases g:l≥r
   ·rw [if_pos g]
    obtain rfl:l=r:=by (clear q3 q2 hx h2 h1 hh hb;omega)
    exact wpS_pure ⟨rfl,l,rfl,q2,q4,q5⟩
   ·rw [if_neg g]
    refine wpS_bind (bq (by (clear q3 q1 hx h2 h1 hh hb;omega)) ?_)
    cases e:bey kf left key arr base (l+(r-l) / 2) with
    | true=>exact wpS_pure ⟨rfl,_,r,rfl,by (clear q3 q2 q1 hx h2 h1 hh hb;omega),q2,by (clear q2 q1 h2 h1 hh hb;omega),fun i z=>up i _ (by omega) (by (clear z q3 q1 hx h2 h1 hh hb;omega)) e,q5⟩
    | false=>exact wpS_pure ⟨rfl,l,_,rfl,by (clear g q3 q2 q1 hx h2 h1 hh hb;omega),by (clear q3 q1 hx h2 h1 hh hb;omega),by (clear q2 q1 h2 h1 hh hb;omega),q4,fun i z1 z2=>by
      cases z:bey kf left key arr base i with
      | false=>rfl
      | true=>rw [up _ i z1 z2 z] at e;cases e⟩
  ·rintro c st' ⟨rfl,l,r,rfl,q1,q2,q3,q4,q5⟩
   obtain rfl:l=r:=by (clear q2 h2 h1 hh hb;omega)
   exact ⟨rfl,l,rfl,q2,q4,q5⟩
  ·rintro c st' ⟨rfl,l,rfl,q2,q4,q5⟩
   rw [hg]
   exact wpS_pure (h l q2 q4 q5)
 cases e:bey kf left key arr base hint with
 | true =>
  refine wpS_bind (wpS_mono (wpS_forRange (I:=fun x c st'=>st'=st/\∃l o,c=(none,l,o)/\l<o/\hint+l<n/\x+1≤o/\bey kf left key arr base (hint+l)=true)
   (Q:=fun c st'=>st'=st/\∃l o,c=(none,l,o)/\l<o/\hint+l<n/\bey kf left key arr base (hint+l)=true/\(o≥n-hint\/(hint+o<n/\bey kf left key arr base (hint+o)=false))) ?_ ?_ ⟨rfl,0,1,rfl,by omega,by omega,by omega,e⟩) ?_)
  ·rintro x c st' _ hx ⟨rfl,l,o,rfl,q1,q2,q3,q4⟩
   dsimp only
   by_cases g:o≥n-hint
   ·rw [if_pos g]
    exact wpS_pure ⟨rfl,l,o,rfl,q1,q2,q4,.inl g⟩
   ·rw [if_neg g]
    refine wpS_bind (bq (by omega) ?_)
    cases e2:bey kf left key arr base (hint+o) with
    | true=>exact wpS_pure ⟨rfl,o,_,rfl,by omega,by omega,by omega,e2⟩
    | false=>exact wpS_pure ⟨rfl,l,o,rfl,q1,q2,q4,.inr ⟨by omega,e2⟩⟩
  ·rintro c st' ⟨rfl,l,o,rfl,q1,q2,q3,q4⟩
   exact ⟨rfl,l,o,rfl,q1,q2,q4,.inl (by omega)⟩
  ·rintro c st' ⟨rfl,l,o,rfl,q1,q2,q4,q5⟩
   refine fin (hint+l+1) (hint+min o (n-hint)) (by omega) (by omega) (fun i z=>up i _ (by omega) q2 q4) (fun i z1 z2=>?_) (fun x c=>?_) (fun c=>rfl)
   ·rcases q5 with q5|⟨q5,q6⟩
    ·omega
    ·cases z:bey kf left key arr base i with
     | false=>rfl
     | true=>rw [up (hint+o) i (by (clear q5 q2 q1 hb;omega)) z2 z] at q6;cases q6
   ·dsimp only
    split
    ·rfl
    ·exact congrArg (_ >>= ·) (funext fun o=>by cases o <;> rfl)
 | false =>
  refine wpS_bind (wpS_mono (wpS_forRange (I:=fun x c st'=>st'=st/\∃l o,c=(none,l,o)/\l<o/\l≤hint/\x+1≤o/\bey kf left key arr base (hint-l)=false)
   (Q:=fun c st'=>st'=st/\∃l o,c=(none,l,o)/\l<o/\l≤hint/\bey kf left key arr base (hint-l)=false/\(o≥hint+1\/(o≤hint/\bey kf left key arr base (hint-o)=true))) ?_ ?_ ⟨rfl,0,1,rfl,by omega,by omega,by omega,e⟩) ?_)
  ·rintro x c st' _ hx ⟨rfl,l,o,rfl,q1,q2,q3,q4⟩
   dsimp only
   by_cases g:o≥hint+1
   ·rw [if_pos g]
    exact wpS_pure ⟨rfl,l,o,rfl,q1,q2,q4,.inl g⟩
   ·rw [if_neg g]
    refine wpS_bind (bq (by omega) ?_)
    cases e2:bey kf left key arr base (hint-o) with
    | false=>exact wpS_pure ⟨rfl,o,_,rfl,by omega,by omega,by omega,e2⟩
    | true=>exact wpS_pure ⟨rfl,l,o,rfl,q1,q2,q4,.inr ⟨by omega,e2⟩⟩
  ·rintro c st' ⟨rfl,l,o,rfl,q1,q2,q3,q4⟩
   exact ⟨rfl,l,o,rfl,q1,q2,q4,.inl (by omega)⟩
  ·rintro c st' ⟨rfl,l,o,rfl,q1,q2,q4,q5⟩
   refine fin (hint+1-min o (hint+1)) (hint-l) (by (clear q5 hh hb;omega)) (by omega) (fun i z=>?_) (fun i z1 z2=>?_) (fun x c=>?_) (fun c=>rfl)
   ·rcases q5 with q5|⟨q5,q6⟩
    ·(clear q2 q1 hh hb;omega)
    ·exact up i _ (by (clear q2 q1 hh hb;omega)) (by omega) q6
   ·cases z:bey kf left key arr base i with
    | false=>rfl
    | true=>rw [up (hint-l) i (by omega) z2 z] at q4;cases q4
   ·dsimp only
    split
    ·rfl
    ·exact congrArg (_ >>= ·) (funext fun o=>by cases o <;> rfl)
end
structure J (R:Keyed→Keyed→Prop) (la lb lo:List Keyed) (i j:Nat):Prop where
 perm:lo.Perm (la.take i++lb.take j)
 srt:lo.Pairwise R
 a:∀x∈lo,∀y∈la.drop i,R x y
 b:∀x∈lo,∀y∈lb.drop j,R x y
section
variable {R:Keyed→Keyed→Prop}{la lb lo:List Keyed}{i j k:Nat}
theorem J.swap (h:J R la lb lo i j):J R lb la lo j i:=⟨h.perm.trans List.perm_append_comm,h.srt,h.b,h.a⟩
theorem J.M4 (h:J R la lb lo i j) (pa:la.Pairwise R) (hx:∀x∈(la.drop i).take k,∀y∈lb.drop j,R x y):J R la lb (lo++(la.drop i).take k) (i+k) j:=by
 have pd:((la.drop i).take k++(la.drop i).drop k).Pairwise R:=by rw [List.take_append_drop];exact pa.sublist (List.drop_sublist _ _)
 obtain ⟨p1,_,p3⟩:=List.pairwise_append.mp pd
 have ed:la.drop (i+k)=(la.drop i).drop k:=by rw [List.drop_drop]
 refine ⟨?_,List.pairwise_append.mpr ⟨h.srt,p1,fun x hx y hy=>h.a x hx y (List.mem_of_mem_take hy)⟩,fun x hx' y hy=>?_,fun x hx' y hy=>?_⟩
 ·rw [List.take_add,List.append_assoc]
  refine (h.perm.append_right _).trans ?_
  rw [List.append_assoc]
  exact List.Perm.append_left _ List.perm_append_comm
 ·rw [ed] at hy
  rcases List.mem_append.mp hx' with q|q
  ·exact h.a x q y (List.mem_of_mem_drop hy)
  ·exact p3 x q y hy
 ·rcases List.mem_append.mp hx' with q|q
  ·exact h.b x q y hy
  ·exact hx x q y hy
theorem J.Oo (h:J R la lb lo i j) (pb:lb.Pairwise R) (hx:∀x∈(lb.drop j).take k,∀y∈la.drop i,R x y):J R la lb (lo++(lb.drop j).take k) i (j+k):=(h.swap.M4 pb hx).swap
def Fin (R:Keyed→Keyed→Prop) (la lb l:List Keyed):Prop:=l.Perm (la++lb)/\l.Pairwise R
theorem J.T8 (h:J R la lb lo i j) (pa:la.Pairwise R) (pb:lb.Pairwise R) (hx:∀x∈la.drop i,∀y∈lb.drop j,R x y):Fin R la lb (lo++la.drop i++lb.drop j):=by
 refine ⟨?_,List.pairwise_append.mpr ⟨List.pairwise_append.mpr ⟨h.srt,pa.sublist (List.drop_sublist _ _),h.a⟩,pb.sublist (List.drop_sublist _ _),fun x hx' y hy=>?_⟩⟩
 ·refine ((h.perm.append_right _).append_right _).trans ?_
  have e1:la=la.take i++la.drop i:=(List.take_append_drop _ _).symm
  have e2:lb=lb.take j++lb.drop j:=(List.take_append_drop _ _).symm
  conv=>rhs;rw [e1,e2]
  rw [List.append_assoc,List.append_assoc,List.append_assoc]
  refine List.Perm.append_left _ ?_
  rw [←List.append_assoc,←List.append_assoc]
  exact List.Perm.append_right _ List.perm_append_comm
 ·rcases List.mem_append.mp hx' with q|q
  ·exact h.b x q y hy
  ·exact hx x q y hy
theorem Fin.swap {l:List Keyed}(h:Fin R lb la l):Fin R la lb l:=⟨h.1.trans List.perm_append_comm,h.2⟩
end
theorem OW {out a:Array Keyed}{i k:Nat}:(out++a.extract i (i+k)).toList=out.toList++(a.toList.drop i).take k:=by
 simp [List.extract_eq_take_drop]
theorem GN {a:Array Keyed}{i:Nat}:(a.extract i).toList=a.toList.drop i:=by
 simp only [Array.toList_extract,List.extract_eq_take_drop]
 exact List.take_of_length_le (by simp)
theorem Gg {a:Array Keyed}{i:Nat}(hi:i<a.size):(a.toList.drop i).take 1=[a[i]]:=by
 rw [List.drop_eq_getElem_cons (by simpa using hi)]
 simp
theorem MY {out a:Array Keyed}{i:Nat}(hi:i<a.size):(out.push a[i]).toList=out.toList++(a.toList.drop i).take 1:=by
 rw [Gg hi]
 simp
section
variable {prog:Program}{w:World}{A:Around}{E:Value→Shared→Prop}{s:Shared}{κ:SortKind}{O:KeyOrd}{kf:Value→O.α}{a₀:Array Keyed}{st:SortSt}
def RK (kf:Value→O.α):Keyed→Keyed→Prop:=fun p q=>O.kle (kf p.1) (kf q.1)
theorem GK {a:Array Keyed}(h:a.toList.Pairwise (RK kf)) {lo hi:Nat}(hh:hi≤a.size):Up kf a lo hi:=fun i j q1 q2 q3=>by
 by_cases z:i=j
 ·rw [z];exact KeyOrd.kle_refl _
 ·rw [BI (by omega:i<a.size),BI (by omega:j<a.size)]
  have:=List.pairwise_iff_getElem.mp h i j (by simp;omega) (by simp;omega) (by omega)
  simpa [RK] using this
theorem CZ {a:Array Keyed}{i:Nat}{p:Keyed}(h:p∈a.toList.drop i):∃k,∃(hk:i+k<a.size),p=a[i+k]:=by
 obtain ⟨k,hk,e⟩:=List.mem_iff_getElem.mp h
 rw [List.length_drop,Array.length_toList] at hk
 refine ⟨k,by omega,?_⟩
 rw [←e,List.getElem_drop]
 simp
theorem DR {a:Array Keyed}{i k:Nat}{p:Keyed}(h:p∈(a.toList.drop i).take k):∃m,m<k/\∃(hk:i+m<a.size),p=a[i+m]:=by
 obtain ⟨m,hm,e⟩:=List.mem_iff_getElem.mp h
 rw [List.length_take,List.length_drop,Array.length_toList] at hm
 refine ⟨m,by omega,by omega,?_⟩
 rw [←e,List.getElem_take,List.getElem_drop]
 simp
structure Still (κ:SortKind) (a₀:Array Keyed) (st st':SortSt):Prop where
 sb:SB κ a₀ st'
 arr:arrOf st'=arrOf st
 pend:pendingOf st'=pendingOf st
theorem Still.gal {st st':SortSt}(x:Still κ a₀ st st') (g:Nat):Still κ a₀ st (SortSt.mk' (kindOf st') (arrOf st') (pendingOf st') g (failedOf st')):=⟨⟨x.sb.perm,x.sb.kind,x.sb.failed⟩,x.arr,x.pend⟩
theorem Ae {M:Model}{A:Around}{E:Value→Shared→Prop}{s:Shared}{α:Type}{c:Prop}[Decidable c] {x y:StateT SortSt Sem α}{Q:α→SortSt→Prop}{st:SortSt}(h:c) (k:wpS M A E s x Q st):wpS M A E s (if c then x else y) Q st:=by rw [if_pos h];exact k
theorem Ag {M:Model}{A:Around}{E:Value→Shared→Prop}{s:Shared}{α:Type}{c:Prop}[Decidable c] {x y:StateT SortSt Sem α}{Q:α→SortSt→Prop}{st:SortSt}(h:¬ c) (k:wpS M A E s y Q st):wpS M A E s (if c then x else y) Q st:=by rw [if_neg h];exact k
theorem Pm (C:Cmp prog w A s κ O kf a₀) (B:SB κ a₀ st) {a b:Array Keyed}(ha:∀p∈a.toList,p∈a₀.toList) (hb:∀p∈b.toList,p∈a₀.toList) (a1:1≤a.size) (b1:1≤b.size) (pa:a.toList.Pairwise (RK kf)) (pb:b.toList.Pairwise (RK kf))
  (first:∀p∈a.toList,RK kf b[0] p) (last:∀p∈b.toList,RK kf p a[a.size-1]) {Q:Array Keyed→SortSt→Prop}
  (h:∀m st',Still κ a₀ st st'→Fin (RK kf) a.toList b.toList m.toList→Q m st'):wpS (model prog w) A E s (R7 a b) Q st:=by
 have fDone:∀{out:Array Keyed} {ia ib:Nat},J (RK kf) a.toList b.toList out.toList ia ib→(ib=b.size\/ia=a.size)→Fin (RK kf) a.toList b.toList (out++a.extract ia++b.extract ib).toList:=fun {out ia ib} j e=>by
  rw [Array.toList_append,Array.toList_append,GN,GN]
  refine j.T8 pa pb fun x hx y hy=>?_
  rcases e with rfl|rfl
  ·rw [List.drop_of_length_le (by simp)] at hy;cases hy
  ·rw [List.drop_of_length_le (by simp)] at hx;cases hx
 have fLast:∀{out:Array Keyed} {ia ib:Nat},J (RK kf) a.toList b.toList out.toList ia ib→ia+1=a.size→Fin (RK kf) a.toList b.toList (out++b.extract ib++a.extract ia).toList:=fun {out ia ib} j e=>by
  rw [Array.toList_append,Array.toList_append,GN,GN]
  refine (j.swap.T8 pb pa fun x hx y hy=>?_).swap
  obtain ⟨k,hk,rfl⟩:=CZ hy
  have:k=0:=by omega
  subst this
  have:=last x (List.mem_of_mem_drop hx)
  simpa [show a.size-1=ia by omega] using this
 have am:∀{i:Nat} (hi:i<a.size),a[i]∈a₀.toList:=fun hi=>ha _ (by simp)
 have bm:∀{i:Nat} (hi:i<b.size),b[i]∈a₀.toList:=fun hi=>hb _ (by simp)
 have la:∀{i k:Nat} (hk:i+k<a.size),RK kf (a[i]'(by omega)) a[i+k]:=fun {i k} hk=>by
  have:=GK pa (lo:=0) (Nat.le_refl _) i (i+k) (by omega) (by omega) hk
  rw [BI (by omega:i<a.size),BI hk] at this
  exact this
 have lb:∀{i k:Nat} (hk:i+k<b.size),RK kf (b[i]'(by omega)) b[i+k]:=fun {i k} hk=>by
  have:=GK pb (lo:=0) (Nat.le_refl _) i (i+k) (by omega) (by omega) hk
  rw [BI (by omega:i<b.size),BI hk] at this
  exact this
 have oneB:∀{out:Array Keyed} {ia ib:Nat} (h1:ia<a.size) (h2:ib<b.size),J (RK kf) a.toList b.toList out.toList ia ib→RK kf b[ib] a[ia]→J (RK kf) a.toList b.toList (out.push b[ib]).toList ia (ib+1):=fun {out ia ib} h1 h2 j r=>by
  rw [MY h2]
  refine j.Oo pb fun x hx y hy=>?_
  rw [Gg h2,List.mem_singleton] at hx
  obtain ⟨k,hk,rfl⟩:=CZ hy
  rw [hx]
  exact KeyOrd.kle_trans r (la hk)
 have oneA:∀{out:Array Keyed} {ia ib:Nat} (h1:ia<a.size) (h2:ib<b.size),J (RK kf) a.toList b.toList out.toList ia ib→RK kf a[ia] b[ib]→J (RK kf) a.toList b.toList (out.push a[ia]).toList (ia+1) ib:=fun {out ia ib} h1 h2 j r=>by
  rw [MY h1]
  refine j.M4 pa fun x hx y hy=>?_
  rw [Gg h1,List.mem_singleton] at hx
  obtain ⟨k,hk,rfl⟩:=CZ hy
  rw [hx]
  exact KeyOrd.kle_trans r (lb hk)
 refine wpS_bind (wpS_lift (wpAny_rule ⟨rfl,?_⟩))
 refine wpS_bind (BP (by omega:0<b.size) ?_)
 have j0:J (RK kf) a.toList b.toList (#[b[0]]:Array Keyed).toList 0 1:=by
  refine ⟨?_,by simp,fun x hx y hy=>?_,fun x hx y hy=>?_⟩
  ·rw [←Gg (by omega:0<b.size)]
   simp
  ·simp at hx hy;subst hx;exact first y (by simpa using hy)
  ·simp only [List.mem_singleton] at hx
   obtain ⟨k,hk,rfl⟩:=CZ hy
   rw [hx]
   have:=lb (i:=0) (k:=1+k) (by omega)
   simpa using this
 by_cases e1:1=b.size
 ·refine Ae (by simpa using e1) ?_
  exact wpS_pure (h _ st ⟨B,rfl,rfl⟩ (fDone j0 (.inl e1)))
 refine Ag (by simpa using e1) ?_
 by_cases e2:0+1=a.size
 ·refine Ae (by simpa using e2) ?_
  exact wpS_pure (h _ st ⟨B,rfl,rfl⟩ (fLast j0 e2))
 refine Ag (by simpa using e2) ?_
 refine wpS_bind (wpS_get ?_)
 refine wpS_bind (wpS_mono (wpS_forRange
  (I:=fun x c st'=>Still κ a₀ st st'/\∃out ia ib g,c=(none,out,ia,ib,g)/\J (RK kf) a.toList b.toList out.toList ia ib/\ia+1<a.size/\ib<b.size/\x+1≤ia+ib)
  (Q:=fun c st'=>Still κ a₀ st st'/\∃r,c.1=some r/\Fin (RK kf) a.toList b.toList r.toList) ?step ?fin ?init) ?post)
 case init=>exact ⟨⟨B,rfl,rfl⟩,_,0,1,_,rfl,j0,by omega,by omega,by omega⟩
 case fin =>
  rintro c st' ⟨S,out,ia,ib,g,rfl,j,h1,h2,h3⟩
  omega
 case post =>
  rintro c st' ⟨S,r,e,f⟩
  obtain ⟨c1,c2⟩:=c
  obtain rfl:c1=some r:=e
  exact wpS_pure (h r st' S f)
 case step =>
  rintro x c st1 _ hx ⟨S,out,ia,ib,g,rfl,j,h1,h2,h3⟩
  refine wpS_bind (wpS_mono (wpS_forRange
   (I:=fun y c st'=>st'=st1/\∃out' ia' ib' p q,c=(none,out',ia',ib',p,q)/\J (RK kf) a.toList b.toList out'.toList ia' ib'/\ia'+1<a.size/\ib'<b.size/\ia+ib+y≤ia'+ib')
   (Q:=fun c st'=>st'=st1/\((∃r,c.1=some r/\Fin (RK kf) a.toList b.toList r.toList)\/∃out' ia' ib' p q,c=(none,out',ia',ib',p,q)/\J (RK kf) a.toList b.toList out'.toList ia' ib'/\ia'+1<a.size/\ib'<b.size/\ia+ib+1≤ia'+ib')) ?s1 ?s2 ?s3) ?s4)
  case s3=>exact ⟨rfl,out,ia,ib,0,0,rfl,j,h1,h2,Nat.le_refl _⟩
  case s2 =>
   rintro c st' ⟨rfl,out',ia',ib',p,q,rfl,j',g1,g2,g3⟩
   exact ⟨rfl,.inr ⟨out',ia',ib',p,q,rfl,j',g1,g2,by omega⟩⟩
  case s1 =>
   rintro y c st' _ hy ⟨rfl,out',ia',ib',p,q,rfl,j',g1,g2,g3⟩
   refine wpS_bind (BP g2 (wpS_bind (BP (by omega:ia'<a.size) (wpS_bind (RQ C S.sb (bm g2) (am (by omega)) ?_)))))
   cases e:O.blt (kf b[ib'].1) (kf (a[ia']'(by omega)).1) with
   | true =>
    refine Ae rfl ?_
    refine wpS_bind (BP g2 ?_)
    have j2:=oneB (by omega) g2 j' (KeyOrd.kle_of_klt e)
    by_cases z:ib'+1=b.size
    ·refine Ae (by simpa using z) ?_
     exact wpS_pure ⟨rfl,.inl ⟨_,rfl,fDone j2 (.inl z)⟩⟩
    ·refine Ag (by simpa using z) ?_
     split
     ·exact wpS_pure ⟨rfl,.inr ⟨_,_,_,_,_,rfl,j2,g1,by dsimp only;omega,by dsimp only;omega⟩⟩
     ·exact wpS_pure ⟨rfl,_,_,_,_,_,rfl,j2,g1,by dsimp only;omega,by dsimp only;omega⟩
   | false =>
    refine Ag Bool.false_ne_true ?_
    refine wpS_bind (BP (by omega:ia'<a.size) ?_)
    have j2:=oneA (by omega) g2 j' e
    by_cases z:ia'+1+1=a.size
    ·refine Ae (by simpa using z) ?_
     exact wpS_pure ⟨rfl,.inl ⟨_,rfl,fLast j2 z⟩⟩
    ·refine Ag (by simpa using z) ?_
     split
     ·exact wpS_pure ⟨rfl,.inr ⟨_,_,_,_,_,rfl,j2,by dsimp only;omega,g2,by dsimp only;omega⟩⟩
     ·exact wpS_pure ⟨rfl,_,_,_,_,_,rfl,j2,by dsimp only;omega,g2,by dsimp only;omega⟩
  case s4 =>
   rintro c st' ⟨rfl,⟨r,e,f⟩|⟨out',ia',ib',p,q,rfl,j',g1,g2,g3⟩⟩
   ·obtain ⟨c1,c2⟩:=c
    obtain rfl:c1=some r:=e
    exact wpS_pure ⟨S,r,rfl,f⟩
   refine wpS_bind (wpS_lift (wpAny_rule ⟨rfl,?_⟩))
   refine wpS_bind (wpS_mono (wpS_forRange
    (I:=fun y c st2=>Still κ a₀ st st2/\∃o2 i2 k2 m2 p q,c=(none,o2,i2,k2,m2,p,q)/\J (RK kf) a.toList b.toList o2.toList i2 k2/\i2+1<a.size/\k2<b.size/\ia+ib+1≤i2+k2)
    (Q:=fun c st2=>Still κ a₀ st st2/\((∃r,c.1=some r/\Fin (RK kf) a.toList b.toList r.toList)\/∃o2 i2 k2 m2 p q,c=(none,o2,i2,k2,m2,p,q)/\J (RK kf) a.toList b.toList o2.toList i2 k2/\i2+1<a.size/\k2<b.size/\ia+ib+1≤i2+k2)) ?t1 ?t2 ?t3) ?t4)
   case t3=>exact ⟨S,out',ia',ib',_,p,q,rfl,j',g1,g2,g3⟩
   case t2 =>
    rintro c st2 ⟨S2,r⟩
    exact ⟨S2,.inr r⟩
   case t4 =>
    rintro c st2 ⟨S2,⟨r,e,f⟩|⟨o2,i2,k2,m2,p,q,rfl,j2,f1,f2,f3⟩⟩
    ·obtain ⟨c1,c2⟩:=c
     obtain rfl:c1=some r:=e
     exact wpS_pure ⟨S2,r,rfl,f⟩
    ·refine wpS_bind (wpS_modify (wpS_pure ⟨S2.gal _,o2,i2,k2,_,rfl,j2,f1,f2,by omega⟩))
   case t1 =>
    rintro y c st2 _ hy ⟨S2,o2,i2,k2,m2,p,q,rfl,j2,f1,f2,f3⟩
    refine (fun (key:∀m3:Nat,(?G:Nat→Prop) m3)=>?u) ?v
    case u =>
     by_cases z:m2 > 1
     ·refine Ae z ?_
      generalize m2-1=m3
      exact key m3
     ·refine Ag z ?_
      generalize m2=m3
      exact key m3
    case v =>
     intro m3
     refine wpS_bind (wpS_modify ?_)
     have S3:=S2.gal m3
     refine wpS_bind (BP f2 ?_)
     refine (fun (key:∀(k i3:Nat) (o3:Array Keyed),J (RK kf) a.toList b.toList o3.toList i3 k2→(∀m (hm:m<a.size),i3≤m→RK kf b[k2] a[m])→i3+1<a.size→ia+ib+1≤i3+k2→(?G2:Nat→Nat→Array Keyed→Prop) k i3 o3)=>?u2) ?v2
     case u2 =>
      refine wpS_bind (EN C S3.sb (bm f2) ha (by dsimp only;omega) (by dsimp only;omega) (GK pa (by dsimp only;omega)) fun k hk bl bg=>?_)
      dsimp only at hk
      have runA:∀m,m<k→∀(hm:i2+m<a.size),RK kf a[i2+m] b[k2]:=fun m z hm=>by
       have:=bl m z
       unfold bey at this
       rw [if_neg Bool.false_ne_true,BI hm] at this
       show O.blt _ _=false
       simpa using this
      have runB:∀m,k≤m→∀(hm:i2+m<a.size),RK kf b[k2] a[i2+m]:=fun m z hm=>by
       have:=bg m z (by (clear z runA bg bl hk key f3 f2 hy g3 g2 g1 h3 h2 h1 hx e2 e1 j0 last first b1 a1;dsimp only;omega))
       unfold bey at this
       rw [if_neg Bool.false_ne_true,BI hm] at this
       exact KeyOrd.kle_of_klt (by show O.blt _ _=true;simpa using this)
      have j3:J (RK kf) a.toList b.toList (o2++a.extract i2 (i2+k)).toList (i2+k) k2:=by
       rw [OW]
       refine j2.M4 pa fun x hx y hy=>?_
       obtain ⟨m,hm,hm2,rfl⟩:=DR hx
       obtain ⟨m',hm',rfl⟩:=CZ hy
       exact KeyOrd.kle_trans (runA m hm hm2) (lb hm')
      have pre:(k > 0/\i2+k+1=a.size)\/(k > 0/\i2+k=a.size)\/i2+k+1<a.size:=by (clear runB runA bg bl key f3 f2 hy g3 g2 g1 h3 h2 h1 hx e2 e1 j0 last first b1 a1;omega)
      rcases pre with ⟨zk,z1⟩|⟨zk,z1⟩|z1
      ·refine Ae zk (Ae (by simpa using z1) ?_)
       exact wpS_pure ⟨S3,.inl ⟨_,rfl,fLast j3 z1⟩⟩
      ·refine Ae zk (Ag (by simp;omega) (Ae (by simpa using z1) ?_))
       exact wpS_pure ⟨S3,.inl ⟨_,rfl,fDone j3 (.inr z1)⟩⟩
      have hB3:∀m (hm:m<a.size),i2+k≤m→RK kf b[k2] a[m]:=fun m hm z=>by
       have:=runB (m-i2) (by (clear hm z1 runB runA bg bl hk key f3 f2 f1 hy g3 g2 g1 h3 h2 h1 hx e2 e1 j0 last first b1 a1;omega)) (by (clear z1 runB runA bg bl hk key f3 f2 f1 hy g3 g2 g1 h3 h2 h1 hx e2 e1 j0 last first b1 a1;omega))
       simpa [show i2+(m-i2)=m by (clear this hm z1 runB runA bg bl hk key f3 f2 f1 hy g3 g2 g1 h3 h2 h1 hx e2 e1 j0 last first b1 a1;omega)] using this
      by_cases zk:k > 0
      ·refine Ae zk (Ag (by simp;omega) (Ag (by simp;omega) ?_))
       generalize o2++a.extract i2 (i2+k)=o3 at j3 ⊢
       have f3':ia+ib+1≤(i2+k)+k2:=by omega
       generalize i2+k=i3 at j3 hB3 z1 f3' ⊢
       exact key k i3 o3 j3 hB3 z1 f3'
      ·refine Ag zk ?_
       have zk0:k=0:=by (clear hB3 z1 runB runA bg bl hk key f3 f2 f1 hy g3 g2 g1 h3 h2 h1 hx e2 e1 j0 last first b1 a1;omega)
       have eo:o2++a.extract i2 (i2+k)=o2:=by rw [zk0];simp;omega
       rw [eo,zk0,Nat.add_zero] at j3
       rw [zk0,Nat.add_zero] at hB3 z1
       exact key k i2 o2 j3 hB3 z1 f3
     case v2 =>
      intro k i3 o3 j3 hB3 z1 f3'
      have hi3:i3<a.size:=by omega
      refine wpS_bind (BP f2 ?_)
      have j4:=oneB (by omega) f2 j3 (hB3 i3 (by omega) (Nat.le_refl _))
      by_cases z3:k2+1=b.size
      ·refine Ae (by simpa using z3) ?_
       exact wpS_pure ⟨S3,.inl ⟨_,rfl,fDone j4 (.inl z3)⟩⟩
      refine Ag (by simpa using z3) ?_
      refine wpS_bind (BP (by omega:i3<a.size) ?_)
      refine (fun (key:∀(k' k5:Nat) (o5:Array Keyed),J (RK kf) a.toList b.toList o5.toList i3 k5→(∀m (hm:m<b.size),k5≤m→RK kf (a[i3]'hi3) b[m])→k5<b.size→ia+ib+1≤i3+k5→(?G3:Nat→Nat→Array Keyed→Prop) k' k5 o5)=>?u3) ?v3
      case u3 =>
       refine wpS_bind (EN C S3.sb (am (by omega)) hb (by dsimp only;omega) (by (clear key hi3 f3' z1 f3 f1 hy g3 g2 g1 h3 h2 h1 hx e2 e1 j0 last first b1 a1;dsimp only;omega)) (GK pb (by dsimp only;omega)) fun k' hk' bl' bg'=>?_)
       dsimp only at hk'
       have runB':∀m,m<k'→∀(hm:k2+1+m<b.size),RK kf b[k2+1+m] (a[i3]'(by omega)):=fun m z hm=>by
        have:=bl' m z
        unfold bey at this
        rw [if_pos rfl,BI hm] at this
        exact KeyOrd.kle_of_klt this
       have runA':∀m (hm:m<b.size),k2+1+k'≤m→RK kf (a[i3]'(by omega)) b[m]:=fun m hm z=>by
        have:=bg' (m-(k2+1)) (by (clear hm runB' bg' bl' hk' key z3 j4 hi3 f3' z1 hB3 f3 f2 f1 hy g3 g2 g1 h3 h2 h1 hx e2 e1 j0 last first b1 a1;omega)) (by (clear runB' bg' bl' hk' key z3 hi3 f3' z1 f3 f1 hy g3 g2 g1 h3 h2 h1 hx e2 e1 j0 last first b1 a1;dsimp only;omega))
        unfold bey at this
        rw [if_pos rfl] at this
        have e:k2+1+(m-(k2+1))=m:=by (clear this hm runB' bg' bl' hk' key z3 j4 hi3 f3' z1 hB3 f3 f2 f1 hy g3 g2 g1 h3 h2 h1 hx e2 e1 j0 last first b1 a1;omega)
        rw [e,BI hm] at this
        exact this
       have j5:J (RK kf) a.toList b.toList (o3.push b[k2]++b.extract (k2+1) (k2+1+k')).toList i3 (k2+1+k'):=by
        rw [OW]
        refine j4.Oo pb fun x hx y hy=>?_
        obtain ⟨m,hm,hm2,rfl⟩:=DR hx
        obtain ⟨m',hm',rfl⟩:=CZ hy
        exact KeyOrd.kle_trans (runB' m hm hm2) (la hm')
       have pre:(k' > 0/\k2+1+k'=b.size)\/k2+1+k'<b.size:=by (clear runA' runB' bg' bl' key hi3 f3' z1 f3 f1 hy g3 g2 g1 h3 h2 h1 hx e2 e1 j0 last first b1 a1;omega)
       rcases pre with ⟨zk',z4⟩|z4
       ·refine Ae zk' (Ae (by simpa using z4) ?_)
        exact wpS_pure ⟨S3,.inl ⟨_,rfl,fDone j5 (.inl z4)⟩⟩
       have f4':ia+ib+1≤i3+(k2+1+k'):=by omega
       by_cases zk':k' > 0
       ·refine Ae zk' (Ag (by simp;omega) ?_)
        generalize o3.push b[k2]++b.extract (k2+1) (k2+1+k')=o5 at j5 ⊢
        generalize k2+1+k'=k5 at j5 runA' z4 f4' ⊢
        exact key k' k5 o5 j5 runA' z4 f4'
       ·refine Ag zk' ?_
        have zk0:k'=0:=by (clear f4' z4 j5 runA' runB' bg' bl' hk' key z3 j4 hi3 f3' z1 hB3 f3 f2 f1 hy g3 g2 g1 h3 h2 h1 hx e2 e1 j0 last first b1 a1;omega)
        have eo:o3.push b[k2]++b.extract (k2+1) (k2+1+k')=o3.push b[k2]:=by rw [zk0];simp;(clear zk0 zk' f4' z4 runA' runB' bg' bl' hk' key z3 hi3 f3' z1 f3 f1 hy g3 g2 g1 h3 h2 h1 hx e2 e1 j0 last first b1 a1;omega)
        rw [eo,zk0,Nat.add_zero] at j5
        rw [zk0,Nat.add_zero] at runA' z4 f4'
        exact key k' _ _ j5 runA' z4 f4'
      case v3 =>
       intro k' k5 o5 j5 runA' z4 f4'
       refine wpS_bind (BP (by omega:i3<a.size) ?_)
       have j6:=oneA (by omega) z4 j5 (runA' k5 z4 (Nat.le_refl _))
       by_cases z5:i3+1+1=a.size
       ·refine Ae (by simpa using z5) ?_
        exact wpS_pure ⟨S3,.inl ⟨_,rfl,fLast j6 z5⟩⟩
       refine Ag (by simpa using z5) ?_
       by_cases z6:(decide (k<7)&&decide (k'<7))=true
       ·refine Ae z6 ?_
        exact wpS_pure ⟨S3,.inr ⟨_,_,_,_,_,_,rfl,j6,by omega,z4,by omega⟩⟩
       ·refine Ag z6 ?_
        exact wpS_pure ⟨S3,_,_,_,_,_,_,rfl,j6,by omega,z4,by omega⟩
end
theorem EV (a:Array Keyed) {n:Nat}(h:n≤a.size):a.toList.reverse.drop (a.size-n)=(a.toList.take n).reverse:=by
 rw [List.drop_reverse]
 congr 2
 simp
 omega
theorem DN {a:Array Keyed}{n:Nat}(h:n≤a.size) {x:Keyed}(hx:x∈a.toList.reverse.drop (a.size-n)):∃m,∃(hm:m<a.size),m<n/\x=a[m]:=by
 rw [EV a h,List.mem_reverse] at hx
 obtain ⟨m,hm,e⟩:=List.mem_iff_getElem.mp hx
 rw [List.length_take,Array.length_toList] at hm
 refine ⟨m,by omega,by omega,?_⟩
 rw [←e,List.getElem_take]
 simp
theorem GX (a:Array Keyed) {n t:Nat}(h:n≤a.size) (ht:t≤n):(a.toList.reverse.drop (a.size-n)).take (n-t)=(a.extract t n).toList.reverse:=by
 rw [EV a h,List.take_reverse]
 simp only [Array.toList_extract,List.extract_eq_take_drop,List.length_take,Array.length_toList]
 congr 1
 rw [List.drop_take]
 congr 1
 ·omega
 ·congr 1
  omega
theorem Gh (a:Array Keyed) {n:Nat}(h:n≤a.size) (h1:1≤n):(a.toList.reverse.drop (a.size-n)).take 1=[a[n-1]]:=by
 have e:=GX a h (show n-1≤n by omega)
 rw [show n-(n-1)=1 by omega] at e
 rw [e]
 have:=Gg (a:=a) (i:=n-1) (by omega)
 simp only [Array.toList_extract,List.extract_eq_take_drop]
 rw [show n-(n-1)=1 by omega,this]
 rfl
theorem O2 {R:Keyed→Keyed→Prop}{la lb l:List Keyed}(h:Fin (fun p q=>R q p) la.reverse lb.reverse l.reverse):Fin R la lb l:=by
 refine ⟨(List.reverse_perm l).symm.trans (h.1.trans ((List.reverse_perm la).append (List.reverse_perm lb))),?_⟩
 exact List.pairwise_reverse.mp h.2
section
variable {prog:Program}{w:World}{A:Around}{E:Value→Shared→Prop}{s:Shared}{κ:SortKind}{O:KeyOrd}{kf:Value→O.α}{a₀:Array Keyed}{st:SortSt}
abbrev JH (kf:Value→O.α) (a b out:Array Keyed) (na nb:Nat):Prop:=J (fun p q=>RK kf q p) a.toList.reverse b.toList.reverse out.toList (a.size-na) (b.size-nb)
theorem Pn (C:Cmp prog w A s κ O kf a₀) (B:SB κ a₀ st) {a b:Array Keyed}(ha:∀p∈a.toList,p∈a₀.toList) (hb:∀p∈b.toList,p∈a₀.toList) (a1:1≤a.size) (b1:1≤b.size) (pa:a.toList.Pairwise (RK kf)) (pb:b.toList.Pairwise (RK kf))
  (first:∀p∈a.toList,RK kf b[0] p) (last:∀p∈b.toList,RK kf p a[a.size-1]) {Q:Array Keyed→SortSt→Prop}
  (h:∀m st',Still κ a₀ st st'→Fin (RK kf) a.toList b.toList m.toList→Q m st'):wpS (model prog w) A E s (R8 a b) Q st:=by
 have pa':a.toList.reverse.Pairwise (fun p q=>RK kf q p):=List.pairwise_reverse.mpr pa
 have pb':b.toList.reverse.Pairwise (fun p q=>RK kf q p):=List.pairwise_reverse.mpr pb
 have fDone:∀{out:Array Keyed} {na nb:Nat},na≤a.size→nb≤b.size→JH kf a b out na nb→(na=0\/nb=0)→Fin (RK kf) a.toList b.toList (a.extract 0 na++b.extract 0 nb++out.reverse).toList:=fun {out na nb} q1 q2 j e=>by
  refine O2 ?_
  have el:(a.extract 0 na++b.extract 0 nb++out.reverse).toList.reverse=out.toList++b.toList.reverse.drop (b.size-nb)++a.toList.reverse.drop (a.size-na):=by
   rw [EV a q1,EV b q2]
   simp [List.extract_eq_take_drop]
  rw [el]
  refine (j.swap.T8 pb' pa' fun x hx y hy=>?_).swap
  obtain ⟨m,hm,z,rfl⟩:=DN q2 hx
  obtain ⟨m',hm',z',rfl⟩:=DN q1 hy
  omega
 have fFirst:∀{out:Array Keyed} {na nb:Nat},na≤a.size→nb≤b.size→JH kf a b out na nb→nb=1→Fin (RK kf) a.toList b.toList (b.extract 0 nb++a.extract 0 na++out.reverse).toList:=fun {out na nb} q1 q2 j e=>by
  refine O2 ?_
  have el:(b.extract 0 nb++a.extract 0 na++out.reverse).toList.reverse=out.toList++a.toList.reverse.drop (a.size-na)++b.toList.reverse.drop (b.size-nb):=by
   rw [EV a q1,EV b q2]
   simp [List.extract_eq_take_drop]
  rw [el]
  refine j.T8 pa' pb' fun x hx y hy=>?_
  obtain ⟨m,hm,z,rfl⟩:=DN q1 hx
  obtain ⟨m',hm',z',rfl⟩:=DN q2 hy
  have:m'=0:=by omega
  subst this
  exact first _ (by simp)
 have am:∀{i:Nat} (hi:i<a.size),a[i]∈a₀.toList:=fun hi=>ha _ (by simp)
 have bm:∀{i:Nat} (hi:i<b.size),b[i]∈a₀.toList:=fun hi=>hb _ (by simp)
 have la:∀{i k:Nat} (hk:k<a.size) (h:i≤k),RK kf (a[i]'(by omega)) a[k]:=fun {i k} hk h=>by
  have:=GK pa (lo:=0) (Nat.le_refl _) i k (by omega) (by omega) hk
  rw [BI (by omega:i<a.size),BI hk] at this
  exact this
 have lb:∀{i k:Nat} (hk:k<b.size) (h:i≤k),RK kf (b[i]'(by omega)) b[k]:=fun {i k} hk h=>by
  have:=GK pb (lo:=0) (Nat.le_refl _) i k (by omega) (by omega) hk
  rw [BI (by omega:i<b.size),BI hk] at this
  exact this
 have oneA:∀{out:Array Keyed} {na nb:Nat} (h1:1≤na) (h2:na≤a.size) (h3:1≤nb) (h4:nb≤b.size),JH kf a b out na nb→RK kf b[nb-1] a[na-1]→JH kf a b (out.push a[na-1]) (na-1) nb:=fun {out na nb} h1 h2 h3 h4 j r=>by
  have e:(out.push a[na-1]).toList=out.toList++(a.toList.reverse.drop (a.size-na)).take 1:=by rw [Gh a h2 h1];simp
  show J _ _ _ (out.push a[na-1]).toList _ _
  rw [e,show a.size-(na-1)=a.size-na+1 by (clear r h4 h3 last first b1 a1;omega)]
  refine j.M4 pa' fun x hx y hy=>?_
  rw [Gh a h2 h1,List.mem_singleton] at hx
  obtain ⟨m,hm,z,rfl⟩:=DN h4 hy
  rw [hx]
  exact KeyOrd.kle_trans (lb (by omega) (by omega:m≤nb-1)) r
 have oneB:∀{out:Array Keyed} {na nb:Nat} (h1:1≤na) (h2:na≤a.size) (h3:1≤nb) (h4:nb≤b.size),JH kf a b out na nb→RK kf a[na-1] b[nb-1]→JH kf a b (out.push b[nb-1]) na (nb-1):=fun {out na nb} h1 h2 h3 h4 j r=>by
  have e:(out.push b[nb-1]).toList=out.toList++(b.toList.reverse.drop (b.size-nb)).take 1:=by rw [Gh b h4 h3];simp
  show J _ _ _ (out.push b[nb-1]).toList _ _
  rw [e,show b.size-(nb-1)=b.size-nb+1 by (clear r h2 h1 last first b1 a1;omega)]
  refine j.Oo pb' fun x hx y hy=>?_
  rw [Gh b h4 h3,List.mem_singleton] at hx
  obtain ⟨m,hm,z,rfl⟩:=DN h2 hy
  rw [hx]
  exact KeyOrd.kle_trans (la (by omega) (by omega:m≤na-1)) r
 refine wpS_bind (wpS_lift (wpAny_rule ⟨rfl,?_⟩))
 refine wpS_bind (BP (by omega:a.size-1<a.size) ?_)
 have j0:JH kf a b (#[a[a.size-1]]:Array Keyed) (a.size-1) b.size:=by
  refine ⟨?_,by simp,fun x hx y hy=>?_,fun x hx y hy=>?_⟩
  ·have:=Gh a (Nat.le_refl _) a1
   rw [Nat.sub_self,List.drop_zero] at this
   rw [show a.size-(a.size-1)=1 by omega,this]
   simp
  ·simp only [List.mem_singleton] at hx
   obtain ⟨m,hm,z,rfl⟩:=DN (by omega) hy
   rw [hx]
   exact la (by omega) (by omega)
  ·simp only [List.mem_singleton] at hx
   obtain ⟨m,hm,z,rfl⟩:=DN (Nat.le_refl _) hy
   rw [hx]
   exact last _ (by simp)
 by_cases e1:a.size-1=0
 ·refine Ae (by simpa using e1) ?_
  exact wpS_pure (h _ st ⟨B,rfl,rfl⟩ (fDone (by omega) (Nat.le_refl _) j0 (.inl e1)))
 refine Ag (by simpa using e1) ?_
 by_cases e2:b.size=1
 ·refine Ae (by simpa using e2) ?_
  exact wpS_pure (h _ st ⟨B,rfl,rfl⟩ (fFirst (by omega) (Nat.le_refl _) j0 e2))
 refine Ag (by simpa using e2) ?_
 refine wpS_bind (wpS_get ?_)
 refine wpS_bind (wpS_mono (wpS_forRange
  (I:=fun x c st'=>Still κ a₀ st st'/\∃na nb out g,c=(none,na,nb,out,g)/\JH kf a b out na nb/\1≤na/\na≤a.size/\2≤nb/\nb≤b.size/\x+1+na+nb≤a.size+b.size)
  (Q:=fun c st'=>Still κ a₀ st st'/\∃r,c.1=some r/\Fin (RK kf) a.toList b.toList r.toList) ?step ?fin ?init) ?post)
 case init=>exact ⟨⟨B,rfl,rfl⟩,_,_,_,_,rfl,j0,by omega,by omega,by omega,by omega,by omega⟩
 case fin =>
  rintro c st' ⟨S,na,nb,out,g,rfl,j,h1,h2,h3,h4,h5⟩
  omega
 case post =>
  rintro c st' ⟨S,r,e,f⟩
  obtain ⟨c1,c2⟩:=c
  obtain rfl:c1=some r:=e
  exact wpS_pure (h r st' S f)
 case step =>
  rintro x c st1 hx0 hx ⟨S,na,nb,out,g,rfl,j,h1,h2,h3,h4,h5⟩
  refine wpS_bind (wpS_mono (wpS_forRange
   (I:=fun y c st'=>st'=st1/\∃na' nb' out' p q,c=(none,na',nb',out',p,q)/\JH kf a b out' na' nb'/\1≤na'/\na'≤a.size/\2≤nb'/\nb'≤b.size/\na'+nb'+y≤na+nb)
   (Q:=fun c st'=>st'=st1/\((∃r,c.1=some r/\Fin (RK kf) a.toList b.toList r.toList)\/∃na' nb' out' p q,c=(none,na',nb',out',p,q)/\JH kf a b out' na' nb'/\1≤na'/\na'≤a.size/\2≤nb'/\nb'≤b.size/\na'+nb'+1≤na+nb)) ?s1 ?s2 ?s3) ?s4)
  case s3=>exact ⟨rfl,na,nb,out,0,0,rfl,j,h1,h2,h3,h4,Nat.le_refl _⟩
  case s2 =>
   rintro c st' ⟨rfl,na',nb',out',p,q,rfl,j',g1,g2,g3,g4,g5⟩
   exact ⟨rfl,.inr ⟨na',nb',out',p,q,rfl,j',g1,g2,g3,g4,by omega⟩⟩
  case s1 =>
   rintro y c st' hy0 hy ⟨rfl,na',nb',out',p,q,rfl,j',g1,g2,g3,g4,g5⟩
   clear hy0 h1 h2 h3 h4 h5 hx hx0 e1 e2 j0 j first last
   refine wpS_bind (BP (by omega:nb'-1<b.size) (wpS_bind (BP (by omega:na'-1<a.size) (wpS_bind (RQ C S.sb (bm (by omega)) (am (by omega)) ?_)))))
   cases e:O.blt (kf (b[nb'-1]'(by omega)).1) (kf (a[na'-1]'(by omega)).1) with
   | true =>
    refine Ae rfl ?_
    refine wpS_bind (BP (by omega:na'-1<a.size) ?_)
    have j2:=oneA g1 g2 (by omega) g4 j' (KeyOrd.kle_of_klt e)
    by_cases z:na'-1=0
    ·refine Ae (by simpa using z) ?_
     exact wpS_pure ⟨rfl,.inl ⟨_,rfl,fDone (by dsimp only;omega) g4 j2 (.inl z)⟩⟩
    ·refine Ag (by simpa using z) ?_
     split
     ·exact wpS_pure ⟨rfl,.inr ⟨_,_,_,_,_,rfl,j2,by dsimp only;omega,by dsimp only;omega,g3,g4,by dsimp only;omega⟩⟩
     ·exact wpS_pure ⟨rfl,_,_,_,_,_,rfl,j2,by dsimp only;omega,by dsimp only;omega,g3,g4,by dsimp only;omega⟩
   | false =>
    refine Ag Bool.false_ne_true ?_
    refine wpS_bind (BP (by omega:nb'-1<b.size) ?_)
    have j2:=oneB g1 g2 (by omega) g4 j' e
    by_cases z:nb'-1=1
    ·refine Ae (by simpa using z) ?_
     exact wpS_pure ⟨rfl,.inl ⟨_,rfl,fFirst g2 (by dsimp only;omega) j2 z⟩⟩
    ·refine Ag (by simpa using z) ?_
     split
     ·exact wpS_pure ⟨rfl,.inr ⟨_,_,_,_,_,rfl,j2,g1,g2,by (clear j2 e g5 g4 g2 g1 hy b1 a1;dsimp only;omega),by dsimp only;omega,by dsimp only;omega⟩⟩
     ·exact wpS_pure ⟨rfl,_,_,_,_,_,rfl,j2,g1,g2,by (clear j2 e g5 g4 g2 g1 hy b1 a1;dsimp only;omega),by dsimp only;omega,by dsimp only;omega⟩
  case s4 =>
   rintro c st' ⟨rfl,⟨r,e,f⟩|⟨na',nb',out',p,q,rfl,j',g1,g2,g3,g4,g5⟩⟩
   ·obtain ⟨c1,c2⟩:=c
    obtain rfl:c1=some r:=e
    exact wpS_pure ⟨S,r,rfl,f⟩
   refine wpS_bind (wpS_lift (wpAny_rule ⟨rfl,?_⟩))
   refine wpS_bind (wpS_mono (wpS_forRange
    (I:=fun y c st2=>Still κ a₀ st st2/\∃i2 k2 o2 m2 p q,c=(none,i2,k2,o2,m2,p,q)/\JH kf a b o2 i2 k2/\1≤i2/\i2≤a.size/\2≤k2/\k2≤b.size/\i2+k2+1≤na+nb)
    (Q:=fun c st2=>Still κ a₀ st st2/\((∃r,c.1=some r/\Fin (RK kf) a.toList b.toList r.toList)\/∃i2 k2 o2 m2 p q,c=(none,i2,k2,o2,m2,p,q)/\JH kf a b o2 i2 k2/\1≤i2/\i2≤a.size/\2≤k2/\k2≤b.size/\i2+k2+1≤na+nb)) ?t1 ?t2 ?t3) ?t4)
   case t3=>exact ⟨S,na',nb',out',_,p,q,rfl,j',g1,g2,g3,g4,g5⟩
   case t2 =>
    rintro c st2 ⟨S2,r⟩
    exact ⟨S2,.inr r⟩
   case t4 =>
    rintro c st2 ⟨S2,⟨r,e,f⟩|⟨i2,k2,o2,m2,p,q,rfl,j2,f1,f2,f3,f4,f5⟩⟩
    ·obtain ⟨c1,c2⟩:=c
     obtain rfl:c1=some r:=e
     exact wpS_pure ⟨S2,r,rfl,f⟩
    ·refine wpS_bind (wpS_modify (wpS_pure ⟨S2.gal _,i2,k2,o2,_,rfl,j2,f1,f2,f3,f4,by omega⟩))
   case t1 =>
    rintro y c st2 hy0 hy ⟨S2,i2,k2,o2,m2,p,q,rfl,j2,f1,f2,f3,f4,f5⟩
    clear hy0 hy j' g1 g2 g3 g4 g5 j h1 h2 h3 h4 h5 hx hx0 e1 e2 j0 S first last
    refine (fun (key:∀m3:Nat,(?G:Nat→Prop) m3)=>?u) ?v
    case u =>
     by_cases z:m2 > 1
     ·refine Ae z ?_
      generalize m2-1=m3
      exact key m3
     ·refine Ag z ?_
      generalize m2=m3
      exact key m3
    case v =>
     intro m3
     refine wpS_bind (wpS_modify ?_)
     have S3:=S2.gal m3
     have hk1:k2-1<b.size:=by omega
     refine wpS_bind (BP hk1 ?_)
     refine (fun (key:∀(c i3:Nat) (o3:Array Keyed),JH kf a b o3 i3 k2→(∀m (hm:m<a.size),m<i3→RK kf a[m] (b[k2-1]'hk1))→1≤i3→i3≤a.size→i3+k2+1≤na+nb→(?G2:Nat→Nat→Array Keyed→Prop) c i3 o3)=>?u2) ?v2
     case u2 =>
      refine wpS_bind (EN C S3.sb (bm hk1) ha (by dsimp only;omega) (by dsimp only;omega) (GK pa (by dsimp only;omega)) fun t ht bl bg=>?_)
      dsimp only at ht
      have runA:∀m (hm:m<a.size),m<t→RK kf a[m] (b[k2-1]'hk1):=fun m hm z=>by
       have:=bl m z
       unfold bey at this
       rw [if_neg Bool.false_ne_true,BI (by omega:0+m<a.size)] at this
       show O.blt _ _=false
       simpa using this
      have runB:∀m (hm:m<a.size),t≤m→m<i2→RK kf (b[k2-1]'hk1) a[m]:=fun m hm z z'=>by
       have:=bg m z z'
       unfold bey at this
       rw [if_neg Bool.false_ne_true,BI (by omega:0+m<a.size)] at this
       exact KeyOrd.kle_of_klt (by show O.blt _ _=true;simpa using this)
      have j3:JH kf a b (o2++(a.extract t i2).reverse) t k2:=by
       have e:(o2++(a.extract t i2).reverse).toList=o2.toList++(a.toList.reverse.drop (a.size-i2)).take (i2-t):=by rw [GX a f2 ht];simp
       show J _ _ _ (o2++(a.extract t i2).reverse).toList _ _
       rw [e,show a.size-t=a.size-i2+(i2-t) by (clear runB runA bg bl key hk1 f5 f4 f3 f1 b1 a1;omega)]
       refine j2.M4 pa' fun x hx y hy=>?_
       rw [GX a f2 ht,List.mem_reverse] at hx
       simp only [Array.toList_extract,List.extract_eq_take_drop] at hx
       obtain ⟨m,hm,hm2,rfl⟩:=DR hx
       obtain ⟨m',hm',z,rfl⟩:=DN f4 hy
       exact KeyOrd.kle_trans (lb (by omega) (by (clear hy hm' hx hm2 hm runB runA bg bl key hk1 f5 f4 f2 f1 b1 a1;omega):m'≤k2-1)) (runB _ hm2 (by omega) (by (clear hy z hm' hx hm2 runB runA bg bl key hk1 f5 f4 f3 f2 f1 b1 a1;omega)))
      have pre:(i2-t > 0/\t=0)\/1≤t:=by (clear runB runA bg bl key hk1 f5 f4 f3 f2 b1 a1;omega)
      rcases pre with ⟨zk,z1⟩|z1
      ·refine Ae zk (Ae (by simpa using z1) ?_)
       exact wpS_pure ⟨S3,.inl ⟨_,rfl,fDone (by omega) f4 j3 (.inl z1)⟩⟩
      have t2:t≤a.size:=by omega
      have f5':t+k2+1≤na+nb:=by omega
      by_cases zk:i2-t > 0
      ·refine Ae zk (Ag (by simp;omega) ?_)
       generalize i2-t=c
       generalize o2++(a.extract t i2).reverse=o3 at j3 ⊢
       clear bl bg ht runB zk
       generalize t=i3 at j3 runA z1 t2 f5' ⊢
       exact key c i3 o3 j3 runA z1 t2 f5'
      ·refine Ag zk ?_
       have zk0:t=i2:=by (clear f5' t2 z1 runB runA bg bl key hk1 f5 f4 f3 f2 f1 b1 a1;omega)
       have eo:o2++(a.extract t i2).reverse=o2:=by rw [zk0];simp;omega
       rw [eo,zk0] at j3
       rw [zk0] at runA z1 t2 f5'
       generalize i2-t=c
       exact key c i2 o2 j3 runA z1 t2 f5'
     case v2 =>
      intro c i3 o3 j3 runA z1 t2 f5'
      have hi3:i3-1<a.size:=by omega
      refine wpS_bind (BP hk1 ?_)
      have j4:=oneB z1 t2 (by omega) f4 j3 (runA _ (by omega) (by omega))
      by_cases z3:k2-1=1
      ·refine Ae (by simpa using z3) ?_
       exact wpS_pure ⟨S3,.inl ⟨_,rfl,fFirst t2 (by dsimp only;omega) j4 z3⟩⟩
      refine Ag (by simpa using z3) ?_
      refine wpS_bind (BP (by omega:i3-1<a.size) ?_)
      refine (fun (key:∀(c' k5:Nat) (o5:Array Keyed),JH kf a b o5 i3 k5→(∀m (hm:m<b.size),m<k5→RK kf b[m] (a[i3-1]'hi3))→2≤k5→k5≤b.size→i3+k5+1≤na+nb→(?G3:Nat→Nat→Array Keyed→Prop) c' k5 o5)=>?u3) ?v3
      case u3 =>
       refine wpS_bind (EN C S3.sb (am (by omega)) hb (by dsimp only;omega) (by (clear key j4 hi3 f5' t2 runA hk1 f5 f4 f2 f1 b1 a1;dsimp only;omega)) (GK pb (by dsimp only;omega)) fun t' ht' bl' bg'=>?_)
       dsimp only at ht'
       have runB':∀m (hm:m<b.size),m<t'→RK kf b[m] (a[i3-1]'(by omega)):=fun m hm z=>by
        have:=bl' m z
        unfold bey at this
        rw [if_pos rfl,BI (by omega:0+m<b.size)] at this
        exact KeyOrd.kle_of_klt (by show O.blt _ _=true;simpa using this)
       have runA':∀m (hm:m<b.size),t'≤m→m<k2-1→RK kf (a[i3-1]'(by omega)) b[m]:=fun m hm z z'=>by
        have:=bg' m z z'
        unfold bey at this
        rw [if_pos rfl,BI (by omega:0+m<b.size)] at this
        show O.blt _ _=false
        simpa using this
       have j5:JH kf a b (o3.push (b[k2-1]'hk1)++(b.extract t' (k2-1)).reverse) i3 t':=by
        have e:(o3.push (b[k2-1]'hk1)++(b.extract t' (k2-1)).reverse).toList=(o3.push (b[k2-1]'hk1)).toList++(b.toList.reverse.drop (b.size-(k2-1))).take (k2-1-t'):=by rw [GX b (by omega) ht'];simp
        show J _ _ _ (o3.push (b[k2-1]'hk1)++(b.extract t' (k2-1)).reverse).toList _ _
        rw [e,show b.size-t'=b.size-(k2-1)+(k2-1-t') by (clear runA' runB' bg' bl' key hi3 f5' t2 f5 f2 f1 b1 a1;omega)]
        refine j4.Oo pb' fun x hx y hy=>?_
        rw [GX b (by omega) ht',List.mem_reverse] at hx
        simp only [Array.toList_extract,List.extract_eq_take_drop] at hx
        obtain ⟨m,hm,hm2,rfl⟩:=DR hx
        obtain ⟨m',hm',z,rfl⟩:=DN t2 hy
        exact KeyOrd.kle_trans (la (by omega) (by (clear hy hm' hx hm2 e runA' runB' bg' bl' ht' key j4 hi3 f5' t2 runA hk1 f5 f4 f3 f2 f1 b1 a1;omega):m'≤i3-1)) (runA' _ hm2 (by omega) (by (clear hy z hm' hx hm2 e runA' runB' bg' bl' key j4 hi3 f5' t2 runA hk1 f5 f4 f2 f1 b1 a1;omega)))
       have pre:(k2-1-t' > 0/\t'=1)\/(k2-1-t' > 0/\t'=0)\/2≤t':=by (clear j5 runA' runB' bg' bl' key j4 hi3 f5' t2 runA hk1 f5 f4 f2 f1 b1 a1;omega)
       rcases pre with ⟨zk',z4⟩|⟨zk',z4⟩|z4
       ·refine Ae zk' (Ae (by simpa using z4) ?_)
        exact wpS_pure ⟨S3,.inl ⟨_,rfl,fFirst t2 (by (clear zk' runA' runB' bg' bl' key z3 j4 hi3 f5' t2 z1 f5 f4 f3 f2 f1 b1 a1;omega)) j5 z4⟩⟩
       ·refine Ae zk' (Ag (by simp;omega) (Ae (by simpa using z4) ?_))
        exact wpS_pure ⟨S3,.inl ⟨_,rfl,fDone t2 (by (clear zk' runA' runB' bg' bl' key z3 j4 hi3 f5' t2 z1 f5 f4 f3 f2 f1 b1 a1;omega)) j5 (.inr z4)⟩⟩
       have t4:t'≤b.size:=by omega
       have f6':i3+t'+1≤na+nb:=by (clear t4 j5 runA' runB' bg' bl' key j4 hi3 t2 runA hk1 f5 f4 f2 f1 b1 a1;omega)
       by_cases zk':k2-1-t' > 0
       ·refine Ae zk' (Ag (by simp;omega) (Ag (by simp;omega) ?_))
        generalize k2-1-t'=c'
        generalize o3.push (b[k2-1]'hk1)++(b.extract t' (k2-1)).reverse=o5 at j5 ⊢
        clear bl' bg' ht' runA' zk'
        generalize t'=k5 at j5 runB' z4 t4 f6' ⊢
        exact key c' k5 o5 j5 runB' z4 t4 f6'
       ·refine Ag zk' ?_
        have zk0:t'=k2-1:=by (clear f6' t4 j5 runA' runB' bg' bl' key j4 hi3 f5' t2 runA hk1 f5 f4 f2 f1 b1 a1;omega)
        have eo:o3.push (b[k2-1]'hk1)++(b.extract t' (k2-1)).reverse=o3.push (b[k2-1]'hk1):=by rw [zk0];simp;(clear zk' f6' t4 z4 runA' runB' bg' bl' ht' key z3 j4 hi3 f5' t2 z1 f5 f4 f3 f2 f1 b1 a1;omega)
        rw [eo,zk0] at j5
        rw [zk0] at runB' z4 t4 f6'
        generalize k2-1-t'=c'
        exact key c' _ _ j5 runB' z4 t4 f6'
      case v3 =>
       intro c' k5 o5 j5 runB' z4 t4 f6'
       refine wpS_bind (BP (by omega:i3-1<a.size) ?_)
       have j6:=oneA z1 t2 (by omega) t4 j5 (runB' _ (by (clear f6' runB' z3 j4 hi3 f5' t2 z1 runA hk1 f5 f4 f3 f2 f1 b1 a1;omega)) (by (clear f6' t4 runB' z3 j4 hi3 f5' t2 z1 runA hk1 f5 f4 f3 f2 f1 b1 a1;omega)))
       by_cases z5:i3-1=0
       ·refine Ae (by simpa using z5) ?_
        exact wpS_pure ⟨S3,.inl ⟨_,rfl,fDone (by omega) t4 j6 (.inl z5)⟩⟩
       refine Ag (by simpa using z5) ?_
       split
       ·exact wpS_pure ⟨S3,.inr ⟨_,_,_,_,_,_,rfl,j6,by omega,by omega,z4,t4,by (clear j6 t4 z4 runB' j4 hi3 f5' t2 runA hk1 f5 f4 f3 f2 f1 b1 a1;omega)⟩⟩
       ·exact wpS_pure ⟨S3,_,_,_,_,_,_,rfl,j6,by omega,by omega,z4,t4,by (clear j6 t4 z4 runB' j4 hi3 f5' t2 runA hk1 f5 f4 f3 f2 f1 b1 a1;omega)⟩
end
theorem NL (p:Nat):∀(M:List Keyed) (n:Nat) (xs:Array Keyed),p+n+M.length≤xs.size→((M.zipIdx n).foldl (fun a x=>a.setIfInBounds (p+x.2) x.1) xs).toList=xs.toList.take (p+n)++M++xs.toList.drop (p+n+M.length)
 | [],n,xs,h=>by simp
 | m::r,n,xs,h=>by
  rw [List.length_cons] at h
  rw [List.zipIdx_cons,List.foldl_cons,NL p r (n+1) _ (by simp;omega)]
  have hl:p+n<xs.toList.length:=by simp;omega
  simp only [Array.toList_setIfInBounds]
  rw [List.drop_set_of_lt (by omega),show p+(n+1)=p+n+1 by omega,List.take_add_one,List.take_set_of_le (by omega),List.getElem?_set_self hl,List.length_cons]
  simp [show p+n+1+r.length=p+n+(r.length+1) by omega]
section
variable {prog:Program}{w:World}{A:Around}{E:Value→Shared→Prop}{s:Shared}{κ:SortKind}{O:KeyOrd}{kf:Value→O.α}{a₀:Array Keyed}{st:SortSt}
theorem Mt {xs:Array Keyed}{lo hi:Nat}(h:hi≤xs.size) (u:Up kf xs lo hi):(xs.extract lo hi).toList.Pairwise (RK kf):=by
 rw [List.pairwise_iff_getElem]
 intro i j hi' hj hij
 have h1:(xs.extract lo hi).size=hi-lo:=by simp;(clear hij hj hi';omega)
 have e:∀k (hk:k<(xs.extract lo hi).toList.length),(xs.extract lo hi).toList[k]=xs[lo+k]'(by simp at hk;omega):=fun k hk=>by simp
 rw [e i hi',e j hj]
 have hi2:i<hi-lo:=by simp at hi';omega
 have hj2:j<hi-lo:=by simp at hj;omega
 have:=u (lo+i) (lo+j) (by omega) (by omega) (by (clear h1 hij hj hi' h;omega))
 rw [BI (by omega:lo+i<xs.size),BI (by omega:lo+j<xs.size)] at this
 exact this
theorem Oq {xs:Array Keyed}{lo hi:Nat}(h:hi≤xs.size) {p:Keyed}(hp:p∈(xs.extract lo hi).toList):∃m,lo≤m/\m<hi/\∃(hm:m<xs.size),p=xs[m]:=by
 simp only [Array.toList_extract,List.extract_eq_take_drop] at hp
 obtain ⟨m,hm,hm2,rfl⟩:=DR hp
 exact ⟨lo+m,by omega,by omega,hm2,rfl⟩
theorem QQ (xs:Array Keyed) {i j k:Nat}(h1:i≤j) (h2:j≤k) (h3:k≤xs.size):xs.toList=xs.toList.take i++((xs.extract i j).toList++(xs.extract j k).toList)++xs.toList.drop k:=by
 simp only [Array.toList_extract,List.extract_eq_take_drop]
 have e1:List.take (k-i) (xs.toList.drop i)=List.take (j-i) (xs.toList.drop i)++List.take (k-j) (xs.toList.drop j):=by
  rw [show k-i=(j-i)+(k-j) by omega,List.take_add,List.drop_drop,show i+(j-i)=j by omega]
 have e2:xs.toList.drop i=List.take (k-i) (xs.toList.drop i)++xs.toList.drop k:=by
  conv=>lhs;rw [←List.take_append_drop (k-i) (xs.toList.drop i),List.drop_drop,show i+(k-i)=k by omega]
 rw [←e1,List.append_assoc,←e2,List.take_append_drop]
theorem Ss {M:Model}{σ:Type}{t u:σ}{Q:PUnit→σ→Prop}(h:Q ⟨⟩ t):wpS M A E s (set t:StateT σ Sem PUnit) Q u:=by
 unfold wpS
 exact wpAny_pure ⟨rfl,h⟩
theorem Po (C:Cmp prog w A s κ O kf a₀) (B:SB κ a₀ st) {i sa na pw nb pw':Nat}(p1:(pendingOf st)[i]?=some (sa,na,pw)) (p2:(pendingOf st)[i+1]?=some (sa+na,nb,pw')) (n1:1≤na) (n2:1≤nb) (hz:sa+na+nb≤a₀.size)
  (ua:Up kf (arrOf st) sa (sa+na)) (ub:Up kf (arrOf st) (sa+na) (sa+na+nb)) {Q:Bool→SortSt→Prop}
  (h:∀st',SB κ a₀ st'→pendingOf st'=((pendingOf st).setIfInBounds i (sa,na+nb,pw)).eraseIdxIfInBounds (i+1)→Up kf (arrOf st') sa (sa+(na+nb))→(∀k,k<sa\/sa+na+nb≤k→KX kf (arrOf st') k=KX kf (arrOf st) k)→Q true st') :
  wpS (model prog w) A E s (mergeAt' i) Q st:=by
 have sz:=B.size
 refine wpS_bind (wpS_get ?_)
 rw [show (sortPriv% PySem.Builtin.SortState.pending) st=pendingOf st from rfl,p1,p2]
 dsimp only
 refine wpS_bind (Ss (t:=SortSt.mk' (kindOf st) (arrOf st) (((pendingOf st).setIfInBounds i (sa,na+nb,pw)).eraseIdxIfInBounds (i+1)) (gallopOf st) (failedOf st)) ?_)
 have memA:∀p∈(arrOf st).toList,p∈a₀.toList:=fun p hp=>(Array.perm_iff_toList_perm.mp B.perm).mem_iff.mp hp
 have e1:sa+na<(arrOf st).size:=by omega
 refine wpS_bind (BP e1 ?_)
 generalize hst1:SortSt.mk' (kindOf st) (arrOf st) (((pendingOf st).setIfInBounds i (sa,na+nb,pw)).eraseIdxIfInBounds (i+1)) (gallopOf st) (failedOf st)=st1
 have B1:SB κ a₀ st1:=by rw [←hst1];exact ⟨B.perm,B.kind,B.failed⟩
 have ar1:arrOf st1=arrOf st:=by rw [←hst1]
 have pe1:pendingOf st1=((pendingOf st).setIfInBounds i (sa,na+nb,pw)).eraseIdxIfInBounds (i+1):=by rw [←hst1]
 have keyB:KX kf (arrOf st) (sa+na)=kf ((arrOf st)[sa+na]'e1).1:=BI e1
 refine wpS_bind (EN (left:=false) (key:=(arrOf st)[sa+na]'e1) (base:=sa) (n:=na) (hint:=0) C B1 (memA _ (by simp)) memA (by omega) (by omega) ua fun k hk bl bg=>?_)
 have lowA:∀j,sa≤j→j<sa+k→O.kle (KX kf (arrOf st) j) (KX kf (arrOf st) (sa+na)):=fun j j1 j2=>by
  have:=bl (j-sa) (by omega)
  unfold bey at this
  rw [if_neg Bool.false_ne_true,←keyB,show sa+(j-sa)=j by omega] at this
  show O.blt _ _=false
  simpa using this
 have highA:∀j,sa+k≤j→j<sa+na→O.kle (KX kf (arrOf st) (sa+na)) (KX kf (arrOf st) j):=fun j j1 j2=>by
  have:=bg (j-sa) (by omega) (by omega)
  unfold bey at this
  rw [if_neg Bool.false_ne_true,←keyB,show sa+(j-sa)=j by omega] at this
  exact KeyOrd.kle_of_klt (by show O.blt _ _=true;simpa using this)
 dsimp only
 by_cases k0:na-k=0
 ·refine Ae (by simpa using k0) ?_
  refine wpS_pure (h st1 B1 pe1 ?_ fun z _=>by rw [ar1])
  rw [ar1]
  intro x y h1 h2 h3
  by_cases hx:x<sa+na
  ·by_cases hy:y<sa+na
   ·exact ua x y h1 h2 hy
   ·exact KeyOrd.kle_trans (lowA x h1 (by omega)) (ub _ y (Nat.le_refl _) (by omega) (by omega))
  ·exact ub x y (by omega) h2 (by omega)
 refine Ag (by simpa using k0) ?_
 have e2:sa+k+(na-k)-1<(arrOf st).size:=by (clear k0 sz hz n2 n1;omega)
 refine wpS_bind (BP e2 ?_)
 have keyA:KX kf (arrOf st) (sa+na-1)=kf ((arrOf st)[sa+k+(na-k)-1]'e2).1:=by
  rw [←BI (kf:=kf) e2]
  congr 1
  omega
 refine wpS_bind (EN (left:=true) (key:=(arrOf st)[sa+k+(na-k)-1]'e2) (base:=sa+na) (n:=nb) (hint:=nb-1) C B1 (memA _ (by simp)) memA (by omega) (by omega) ub fun k' hk' bl' bg'=>?_)
 have lowB:∀j,sa+na≤j→j<sa+na+k'→O.kle (KX kf (arrOf st) j) (KX kf (arrOf st) (sa+na-1)):=fun j j1 j2=>by
  have:=bl' (j-(sa+na)) (by omega)
  unfold bey at this
  rw [if_pos rfl,←keyA,show sa+na+(j-(sa+na))=j by (clear j2 bg' bl' hk' keyA e2 k0 bg bl hk keyB e1 sz hz n2 n1;omega)] at this
  exact KeyOrd.kle_of_klt this
 have highB:∀j,sa+na+k'≤j→j<sa+na+nb→O.kle (KX kf (arrOf st) (sa+na-1)) (KX kf (arrOf st) j):=fun j j1 j2=>by
  have:=bg' (j-(sa+na)) (by (clear j2 bg' bl' hk' keyA e2 k0 bg bl hk keyB e1 sz hz n2 n1;omega)) (by omega)
  unfold bey at this
  rw [if_pos rfl,←keyA,show sa+na+(j-(sa+na))=j by omega] at this
  exact this
 dsimp only
 by_cases k1:k'=0
 ·refine Ae (by simpa using k1) ?_
  refine wpS_pure (h st1 B1 pe1 ?_ fun z _=>by rw [ar1])
  rw [ar1]
  intro x y h1 h2 h3
  by_cases hx:x<sa+na
  ·by_cases hy:y<sa+na
   ·exact ua x y h1 h2 hy
   ·exact KeyOrd.kle_trans (ua x (sa+na-1) h1 (by (clear hy h3 h2 h1 k1 bg' bl' hk' keyA e2 k0 bg bl hk keyB e1 sz hz n2 n1;omega)) (by (clear hy h3 h2 h1 k1 bg' bl' hk' keyA e2 k0 bg bl hk keyB e1 sz hz n2 n1;omega))) (highB y (by omega) (by omega))
  ·exact ub x y (by omega) h2 (by omega)
 refine Ag (by simpa using k1) ?_
 generalize hX:(arrOf st).extract (sa+k) (sa+na)=X
 generalize hY:(arrOf st).extract (sa+na) (sa+na+k')=Y
 have pX:X.toList.Pairwise (RK kf):=by rw [←hX];exact Mt (by omega) fun a b q1 q2 q3=>ua a b (by omega) q2 q3
 have pY:Y.toList.Pairwise (RK kf):=by rw [←hY];exact Mt (by omega) fun a b q1 q2 q3=>ub a b (by omega) q2 (by omega)
 have zX:X.size=na-k:=by rw [←hX];simp;(clear k1 bg' bl' hk' keyA e2 k0 sz hz n2 n1;omega)
 have zY:Y.size=k':=by rw [←hY];simp;(clear zX k1 bg' bl' keyA e2 k0 hk n2 n1;omega)
 have mX:∀p∈X.toList,∃m,sa+k≤m/\m<sa+na/\∃(hm:m<(arrOf st).size),p=(arrOf st)[m]:=fun p hp=>Oq (by omega) (by rw [hX];exact hp)
 have mY:∀p∈Y.toList,∃m,sa+na≤m/\m<sa+na+k'/\∃(hm:m<(arrOf st).size),p=(arrOf st)[m]:=fun p hp=>Oq (by omega) (by rw [hY];exact hp)
 have y0:Y[0]'(by (clear zX bg' bl' hk' keyA e2 k0 bg bl keyB e1 sz hz n2 n1;omega))=(arrOf st)[sa+na]'e1:=by subst hY;simp
 have xl:X[X.size-1]'(by (clear y0 bg' bl' hk' keyA e2 bg bl keyB e1 sz hz n2;omega))=(arrOf st)[sa+na-1]'(by (clear y0 zY zX k1 hk' k0 hk sz hz n2 n1;omega)):=by
  subst hX
  rw [Array.getElem_extract]
  congr 1
  rw [zX]
  (clear zX y0 bg' bl' hk' keyA e2 bg bl keyB e1 sz hz n2;omega)
 have first:∀p∈X.toList,RK kf (Y[0]'(by (clear xl y0 zX bg' bl' hk' keyA e2 k0 bg bl keyB e1 sz hz n2 n1;omega))) p:=fun p hp=>by
  obtain ⟨m,q1,q2,hm,rfl⟩:=mX p hp
  rw [y0]
  have:=highA m q1 q2
  rw [keyB,BI hm] at this
  exact this
 have last:∀p∈Y.toList,RK kf p (X[X.size-1]'(by (clear xl y0 bg' bl' hk' keyA e2 bg bl keyB e1 sz hz n2;omega))):=fun p hp=>by
  obtain ⟨m,q1,q2,hm,rfl⟩:=mY p hp
  rw [xl]
  have:=lowB m q1 q2
  rw [BI hm,BI (by (clear this hp hm q2 q1 first xl y0 zY zX k1 hk' k0 hk sz hz n2 n1;omega):sa+na-1<(arrOf st).size)] at this
  exact this
 have inX:∀p∈X.toList,p∈a₀.toList:=fun p hp=>by
  obtain ⟨m,q1,q2,hm,rfl⟩:=mX p hp
  exact memA _ (by simp)
 have inY:∀p∈Y.toList,p∈a₀.toList:=fun p hp=>by
  obtain ⟨m,q1,q2,hm,rfl⟩:=mY p hp
  exact memA _ (by simp)
 have fin:∀(M:Array Keyed) (st2:SortSt),Still κ a₀ st1 st2→Fin (RK kf) X.toList Y.toList M.toList→Q true (setArr st2 (M.toList.zipIdx.foldl (fun a x=>a.setIfInBounds (sa+k+x.2) x.1) (arrOf st2))):=fun M st2 S f=>by
  have lM:M.toList.length=(na-k)+k':=by rw [f.1.length_eq,List.length_append];simp [zX,zY]
  have ar2:arrOf st2=arrOf st:=S.arr.trans ar1
  have el:=NL (sa+k) M.toList 0 (arrOf st) (by omega)
  rw [Nat.add_zero,lM,show sa+k+(na-k+k')=sa+na+k' by (clear last first xl y0 zX k1 bg' bl' hk' keyA e2 k0 bg bl keyB e1 sz hz n2 n1;omega)] at el
  generalize hN:M.toList.zipIdx.foldl (fun a x=>a.setIfInBounds (sa+k+x.2) x.1) (arrOf st2)=N
  have eN:N.toList=(arrOf st).toList.take (sa+k)++M.toList++(arrOf st).toList.drop (sa+na+k'):=by rw [←hN,ar2];exact el
  have perm:N.Perm (arrOf st2):=by
   rw [ar2,Array.perm_iff_toList_perm,eN]
   have sp:=QQ (arrOf st) (i:=sa+k) (j:=sa+na) (k:=sa+na+k') (by omega) (by omega) (by omega)
   rw [hX,hY] at sp
   conv=>rhs;rw [sp]
   exact List.Perm.append_right _ (List.Perm.append_left _ f.1)
  have lt:((arrOf st).toList.take (sa+k)).length=sa+k:=by simp;(clear lM last first xl y0 zY zX k1 bg' bl' hk' keyA e2 k0 sz hz n2 n1;omega)
  have nOut:∀z,z<sa+k\/sa+na+k'≤z→N[z]?=(arrOf st)[z]?:=fun z hz'=>by
   rw [←Array.getElem?_toList,←Array.getElem?_toList,eN]
   rcases hz' with q|q
   ·rw [List.append_assoc,List.getElem?_append_left (by (clear lM last first xl y0 zY zX k1 bg' bl' hk' keyA e2 k0 bg bl hk keyB e1 sz hz n2 n1;omega)),List.getElem?_take_of_lt q]
   ·rw [List.getElem?_append_right (by rw [List.length_append];(clear last first xl y0 zX k1 bg' bl' hk' keyA e2 k0 bg bl keyB e1 sz hz n2 n1;omega)),List.length_append,lt,lM,List.getElem?_drop]
    congr 1
    (clear last first xl y0 zX k1 bg' bl' hk' keyA e2 k0 bg bl keyB e1 sz hz n2 n1;omega)
  have nIn:∀z,sa+k≤z→z<sa+na+k'→N[z]?=M[z-(sa+k)]?:=fun z q1 q2=>by
   rw [←Array.getElem?_toList,←Array.getElem?_toList,eN,List.append_assoc,List.getElem?_append_right (by (clear q2 lM last first xl y0 zY zX k1 bg' bl' hk' keyA e2 k0 bg bl hk keyB e1 sz hz n2 n1;omega)),lt,List.getElem?_append_left (by (clear last first xl y0 zX k1 bg' bl' hk' keyA e2 k0 bg bl keyB e1 sz hz n2 n1;omega))]
  have upM:Up kf M 0 M.size:=GK f.2 (Nat.le_refl _)
  have sM:M.size=(na-k)+k':=by rw [←lM];simp
  have inM:∀z,sa+k≤z→z<sa+na+k'→∃m,sa+k≤m/\m<sa+na+k'/\KX kf N z=KX kf (arrOf st) m:=fun z q1 q2=>by
   have hz2:z-(sa+k)<M.size:=by (clear last first xl y0 zX k1 bg' bl' hk' keyA e2 k0 bg bl keyB e1 sz hz n2 n1;omega)
   have hm:M[z-(sa+k)]∈X.toList++Y.toList:=f.1.mem_iff.mp (by simp)
   rw [A9 (nIn z q1 q2),BI hz2]
   rcases List.mem_append.mp hm with q|q
   ·obtain ⟨m,q1,q2,hm,e⟩:=mX _ q
    exact ⟨m,q1,by (clear e hm q1 sM lM last first xl y0 zX k1 bg' bl' hk' keyA e2 k0 bg bl hk keyB e1 sz hz n2 n1;omega),by rw [e,BI hm]⟩
   ·obtain ⟨m,q1,q2,hm,e⟩:=mY _ q
    exact ⟨m,by (clear e hm q2 sM lM last first xl y0 zY zX k1 bg' bl' hk' keyA e2 k0 bg bl keyB e1 sz hz n2 n1;omega),q2,by rw [e,BI hm]⟩
  refine h _ (S.sb.put perm) (S.pend.trans pe1) ?_ fun z hz'=>A9 (nOut z (by (clear sM lM last first xl y0 zX k1 bg' bl' keyA e2 k0 bg bl hk keyB e1 sz hz n2 n1;omega)))
  show Up kf N sa (sa+(na+nb))
  intro x y h1 h2 h3
  by_cases x1:x<sa+k
  ·rw [A9 (nOut x (.inl x1))]
   have all:∀m,sa+k≤m→m<sa+na+nb→O.kle (KX kf (arrOf st) x) (KX kf (arrOf st) m):=fun m q1 q2=>by
    by_cases q3:m<sa+na
    ·exact ua x m h1 (by (clear q3 q2 h3 h2 h1 sM lM last first xl y0 zY zX k1 bg' bl' hk' keyA e2 k0 bg bl hk keyB e1 sz hz n2 n1;omega)) q3
    ·exact KeyOrd.kle_trans (lowA x h1 x1) (ub _ m (Nat.le_refl _) (by (clear q2 q1 x1 h3 h2 h1 sM lM last first xl y0 zY zX k1 bg' bl' hk' keyA e2 k0 bg bl hk keyB e1 sz hz n2 n1;omega)) q2)
   by_cases y1:y<sa+k
   ·rw [A9 (nOut y (.inl y1))]
    exact ua x y h1 h2 (by (clear x1 h3 h2 h1 sM lM last first xl y0 zY zX k1 bg' bl' hk' keyA e2 k0 bg bl keyB e1 sz hz n2 n1;omega))
   ·by_cases y2:y<sa+na+k'
    ·obtain ⟨m,q1,q2,e⟩:=inM y (by (clear y2 x1 h3 h2 h1 sM lM last first xl y0 zY zX k1 bg' bl' hk' keyA e2 k0 bg bl hk keyB e1 sz hz n2 n1;omega)) y2
     rw [e]
     exact all m q1 (by (clear q1 y2 y1 x1 h3 h2 h1 sM lM last first xl y0 zX k1 bg' bl' keyA e2 k0 bg bl hk keyB e1 sz hz n2 n1;omega))
    ·rw [A9 (nOut y (.inr (by (clear y1 x1 h3 h2 h1 sM lM last first xl y0 zX k1 bg' bl' hk' keyA e2 k0 bg bl hk keyB e1 sz hz n2 n1;omega))))]
     exact all y (by (clear y2 x1 h3 h2 h1 sM lM last first xl y0 zY zX k1 bg' bl' hk' keyA e2 k0 bg bl hk keyB e1 sz hz n2 n1;omega)) (by (clear y2 y1 x1 h2 h1 sM lM last first xl y0 zY zX k1 bg' bl' hk' keyA e2 k0 bg bl hk keyB e1 sz hz n2 n1;omega))
  ·by_cases x2:x<sa+na+k'
   ·by_cases y2:y<sa+na+k'
    ·rw [A9 (nIn x (by (clear y2 x2 h3 h2 h1 sM lM last first xl y0 zY zX k1 bg' bl' hk' keyA e2 k0 bg bl hk keyB e1 sz hz n2 n1;omega)) x2),A9 (nIn y (by (clear y2 x2 h3 h1 sM lM last first xl y0 zY zX k1 bg' bl' hk' keyA e2 k0 bg bl hk keyB e1 sz hz n2 n1;omega)) y2)]
     exact upM _ _ (by omega) (by (clear y2 x2 h3 h1 sM lM last first xl y0 zY zX k1 bg' bl' hk' keyA e2 k0 bg bl hk keyB e1 sz hz n2 n1;omega)) (by (clear x2 h3 h1 last first xl y0 zX k1 bg' bl' hk' keyA e2 k0 bg bl keyB e1 sz hz n2 n1;omega))
    ·rw [A9 (nOut y (.inr (by (clear x2 x1 h3 h2 h1 sM lM last first xl y0 zX k1 bg' bl' hk' keyA e2 k0 bg bl hk keyB e1 sz hz n2 n1;omega))))]
     obtain ⟨m,q1,q2,e⟩:=inM x (by (clear y2 x2 h3 h2 h1 sM lM last first xl y0 zY zX k1 bg' bl' hk' keyA e2 k0 bg bl hk keyB e1 sz hz n2 n1;omega)) x2
     rw [e]
     by_cases q3:m<sa+na
     ·exact KeyOrd.kle_trans (ua m (sa+na-1) (by (clear q3 q2 y2 x2 x1 h3 h2 h1 sM lM last first xl y0 zY zX k1 bg' bl' hk' keyA e2 k0 bg bl hk keyB e1 sz hz n2 n1;omega)) (by (clear q2 q1 y2 x2 x1 h3 h2 h1 sM lM last first xl y0 zY zX k1 bg' bl' hk' keyA e2 k0 bg bl hk keyB e1 sz hz n2;omega)) (by (clear q2 q1 y2 x2 x1 h3 h2 h1 sM lM last first xl y0 zY zX k1 bg' bl' hk' keyA e2 k0 bg bl hk keyB e1 sz hz n2 n1;omega))) (highB y (by (clear q3 q2 q1 x2 x1 h3 h2 h1 sM lM last first xl y0 zX k1 bg' bl' hk' keyA e2 k0 bg bl hk keyB e1 sz hz n2 n1;omega)) (by (clear q3 q2 q1 y2 x2 x1 h2 h1 sM lM last first xl y0 zY zX k1 bg' bl' hk' keyA e2 k0 bg bl hk keyB e1 sz hz n2 n1;omega)))
     ·exact ub m y (by (clear q2 q1 y2 x2 x1 h3 h2 h1 sM lM last first xl y0 zY zX k1 bg' bl' hk' keyA e2 k0 bg bl hk keyB e1 sz hz n2 n1;omega)) (by (clear q3 q1 x2 x1 h3 h2 h1 sM lM last first xl y0 zX k1 bg' bl' hk' keyA e2 k0 bg bl hk keyB e1 sz hz n2 n1;omega)) (by (clear q3 q2 q1 y2 x2 x1 h2 h1 sM lM last first xl y0 zY zX k1 bg' bl' hk' keyA e2 k0 bg bl hk keyB e1 sz hz n2 n1;omega))
   ·rw [A9 (nOut x (.inr (by (clear x1 h3 h2 h1 sM lM last first xl y0 zX k1 bg' bl' hk' keyA e2 k0 bg bl hk keyB e1 sz hz n2 n1;omega)))),A9 (nOut y (.inr (by (clear x1 h3 h1 sM lM last first xl y0 zX k1 bg' bl' hk' keyA e2 k0 bg bl hk keyB e1 sz hz n2 n1;omega))))]
    exact ub x y (by (clear x1 h3 h2 h1 sM lM last first xl y0 zX k1 bg' bl' hk' keyA e2 k0 bg bl hk keyB e1 sz hz n2 n1;omega)) h2 (by (clear x2 x1 h2 h1 sM lM last first xl y0 zY zX k1 bg' bl' hk' keyA e2 k0 bg bl hk keyB e1 sz hz n2 n1;omega))
 have fin2:∀(M:Array Keyed) (st2:SortSt),Still κ a₀ st1 st2→Fin (RK kf) X.toList Y.toList M.toList→failedOf (setArr st2 (M.toList.zipIdx.foldl (fun a x=>a.setIfInBounds (sa+k+x.2) x.1) (arrOf st2)))=none:=fun M st2 S _=>S.sb.failed
 by_cases le:na-k≤k'
 ·refine Ae le ?_
  refine wpS_bind (Pm C B1 inX inY (by (clear le xl y0 bg' bl' hk' keyA e2 bg bl keyB e1 sz hz n2;omega)) (by (clear le last xl y0 zX bg' bl' hk' keyA e2 k0 bg bl keyB e1 sz hz n2 n1;omega)) pX pY first last fun M st2 S f=>?_)
  refine wpS_bind (wpS_modify (wpS_bind (wpS_get ?_)))
  have:=fin M st2 S f
  have e:=fin2 M st2 S f
  refine wpS_pure ?_
  show Q (failedOf (setArr st2 _)).isNone _
  rw [e]
  exact this
 ·refine Ag le ?_
  refine wpS_bind (Pn C B1 inX inY (by (clear last first xl y0 k1 bg' bl' hk' keyA e2 k0 bg bl hk keyB e1 sz hz n2 n1;omega)) (by (clear le last xl y0 zX bg' bl' hk' keyA e2 k0 bg bl keyB e1 sz hz n2 n1;omega)) pX pY first last fun M st2 S f=>?_)
  refine wpS_bind (wpS_modify (wpS_bind (wpS_get ?_)))
  have:=fin M st2 S f
  have e:=fin2 M st2 S f
  refine wpS_pure ?_
  show Q (failedOf (setArr st2 _)).isNone _
  rw [e]
  exact this
def Chain (kf:Value→O.α) (xs:Array Keyed):Nat→List (Nat×Nat×Nat)→Nat→Prop
 | x,[],y=>x=y
 | x,(s,n,_)::r,y=>s=x/\1≤n/\Up kf xs s (s+n)/\Chain kf xs (x+n) r y
theorem Chain.le {xs:Array Keyed}:∀{l:List (Nat×Nat×Nat)}{x y:Nat},Chain kf xs x l y→x+l.length≤y
 | [],x,y,h=>by have h:x=y:=h;simp;omega
 | (s,n,p)::r,x,y,h=>by
  obtain ⟨_,h1,_,h2⟩:=h
  have:=Chain.le h2
  rw [List.length_cons]
  omega
theorem Chain.app {xs:Array Keyed}:∀{l m:List (Nat×Nat×Nat)}{x z:Nat},Chain kf xs x (l++m) z↔∃y,Chain kf xs x l y/\Chain kf xs y m z
 | [],m,x,z=>⟨fun h=>⟨x,rfl,h⟩,fun ⟨y,h1,h2⟩=>by have h1:x=y:=h1;rw [h1];exact h2⟩
 | (s,n,p)::r,m,x,z=>by
  constructor
  ·rintro ⟨h1,h2,h3,h4⟩
   obtain ⟨y,h5,h6⟩:=Chain.app.mp h4
   exact ⟨y,⟨h1,h2,h3,h5⟩,h6⟩
  ·rintro ⟨y,⟨h1,h2,h3,h5⟩,h6⟩
   exact ⟨h1,h2,h3,Chain.app.mpr ⟨y,h5,h6⟩⟩
theorem Chain.keep {xs ys:Array Keyed}:∀{l:List (Nat×Nat×Nat)}{x y:Nat},Chain kf xs x l y→(∀k,x≤k→k<y→KX kf ys k=KX kf xs k)→Chain kf ys x l y
 | [],x,y,h,_=>h
 | (s,n,p)::r,x,y,⟨h1,h2,h3,h4⟩,k=>by
  have:=Chain.le h4
  subst h1
  exact ⟨rfl,h2,fun i j q1 q2 q3=>by rw [k i q1 (by omega),k j (by omega) (by omega)];exact h3 i j q1 q2 q3,Chain.keep h4 fun z z1 z2=>k z (by omega) z2⟩
theorem RR (C:Cmp prog w A s κ O kf a₀) (B:SB κ a₀ st) {i hi:Nat}(c:Chain kf (arrOf st) 0 (pendingOf st).toList hi) (h1:i+1<(pendingOf st).size) (hz:hi≤a₀.size) {Q:Bool→SortSt→Prop}
  (h:∀st',SB κ a₀ st'→(pendingOf st').size+1=(pendingOf st).size→Chain kf (arrOf st') 0 (pendingOf st').toList hi→(∀k,hi≤k→KX kf (arrOf st') k=KX kf (arrOf st) k)→Q true st'):wpS (model prog w) A E s (mergeAt' i) Q st:=by
 obtain ⟨⟨sa,na,pw⟩,e1⟩:∃x,(pendingOf st)[i]?=some x:=⟨_,getElem?_pos _ i (by omega)⟩
 obtain ⟨⟨sb,nb,pw'⟩,e2⟩:∃x,(pendingOf st)[i+1]?=some x:=⟨_,getElem?_pos _ (i+1) h1⟩
 have sp:(pendingOf st).toList=(pendingOf st).toList.take i++(sa,na,pw)::(sb,nb,pw')::(pendingOf st).toList.drop (i+2):=by
  have l1:i<(pendingOf st).toList.length:=by simp;omega
  have l2:i+1<(pendingOf st).toList.length:=by simp;omega
  conv=>lhs;rw [←List.take_append_drop i (pendingOf st).toList]
  congr 1
  rw [List.drop_eq_getElem_cons l1,List.drop_eq_getElem_cons l2]
  have g1:(pendingOf st).toList[i]=(sa,na,pw):=by
   rw [←Array.getElem?_toList,List.getElem?_eq_getElem l1] at e1
   exact Option.some.inj e1
  have g2:(pendingOf st).toList[i+1]=(sb,nb,pw'):=by
   rw [←Array.getElem?_toList,List.getElem?_eq_getElem l2] at e2
   exact Option.some.inj e2
  rw [g1,g2]
 have ln:((pendingOf st).toList.take i).length=i:=by simp;omega
 generalize (pendingOf st).toList.take i=l1 at sp ln
 generalize (pendingOf st).toList.drop (i+2)=l2 at sp
 rw [sp] at c
 obtain ⟨y,c1,⟨q1,q2,q3,⟨q4,q5,q6,c2⟩⟩⟩:=Chain.app.mp c
 subst q1 q4
 have le1:=c2.le
 refine Po C B e1 e2 q2 q5 (by omega) q3 q6 fun st' B' pe u k=>h st' B' ?_ ?_ fun z hz'=>k z (.inr (by omega))
 ·have l0:(pendingOf st').toList.length+1=(pendingOf st).toList.length:=by
   rw [pe]
   simp only [Array.toList_eraseIdxIfInBounds,Array.toList_setIfInBounds]
   rw [List.length_eraseIdx_of_lt (by simp;omega),List.length_set]
   have:0<(pendingOf st).toList.length:=by simp;omega
   (clear le1 q5 q2 ln hz h1;omega)
  simpa using l0
 ·have pl:(pendingOf st').toList=l1++(sa,na+nb,pw)::l2:=by
   rw [pe]
   simp only [Array.toList_eraseIdxIfInBounds,Array.toList_setIfInBounds,sp]
   rw [List.set_append_right _ _ (by omega),ln,Nat.sub_self,List.set_cons_zero,List.eraseIdx_append_of_length_le (by omega),ln]
   simp
  rw [pl]
  refine Chain.app.mpr ⟨sa,c1.keep fun z _ z2=>k z (.inl z2),rfl,by omega,u,?_⟩
  rw [show sa+(na+nb)=sa+na+nb by omega]
  exact c2.keep fun z z1 _=>k z (.inr z1)
theorem Chain.same {xs:Array Keyed}:∀{l m:List (Nat×Nat×Nat)}{x y:Nat},l.map (fun v=>(v.1,v.2.1))=m.map (fun v=>(v.1,v.2.1))→Chain kf xs x l y→Chain kf xs x m y
 | [],[],_,_,_,h=>h
 | [],_::_,_,_,e,_=>by cases e
 | _::_,[],_,_,e,_=>by cases e
 | (a,n,p)::l,(b,k,q)::m,x,y,e,⟨h1,h2,h3,h4⟩=>by
  have e:=List.cons.inj e
  have e1:(a,n)=(b,k):=e.1
  cases e1
  exact ⟨h1,h2,h3,Chain.same e.2 h4⟩
theorem Mn {st3:SortSt}{lo m x:Nat}(B3:SB κ a₀ st3) (c3:Chain kf (arrOf st3) 0 (pendingOf st3).toList lo) (u3:Up kf (arrOf st3) lo (lo+m)) (h1:1≤m) (h2:lo+m≤a₀.size) (hx:x≤lo\/a₀.size≤lo) :
  SB κ a₀ (setPending st3 ((pendingOf st3).push (lo,m,0)))/\∃lo',((none,lo+m):Option Unit×Nat)=(none,lo')/\(x+1≤lo'\/a₀.size≤lo')/\lo'≤a₀.size/\Chain kf (arrOf (setPending st3 ((pendingOf st3).push (lo,m,0)))) 0 (pendingOf (setPending st3 ((pendingOf st3).push (lo,m,0)))).toList lo':=by
 refine ⟨⟨B3.perm,B3.kind,B3.failed⟩,lo+m,rfl,by omega,h2,?_⟩
 show Chain kf (arrOf st3) 0 ((pendingOf st3).push (lo,m,0)).toList (lo+m)
 rw [Array.toList_push]
 exact Chain.app.mpr ⟨lo,c3,rfl,h1,u3,rfl⟩
theorem U1 (C:Cmp prog w A s κ O kf a₀) (B:SB κ a₀ st) (p0:pendingOf st=#[]) {Q:Unit→SortSt→Prop}
    (h:∀st',SB κ a₀ st'→Up kf (arrOf st') 0 a₀.size→Q () st'):wpS (model prog w) A E s sortRuns' Q st:=by
  rw [sortRuns'_eq]
  refine wpS_bind (wpS_get ?_)
  dsimp only
  simp only [B.size]
  generalize minRun' a₀.size a₀.size 0=mr
  refine wpS_bind (wpS_mono (wpS_forRange
    (I:=fun x c st'=>SB κ a₀ st'/\∃lo,c=(none,lo)/\(x≤lo\/a₀.size≤lo)/\lo≤a₀.size/\Chain kf (arrOf st') 0 (pendingOf st').toList lo)
    (Q:=fun c st'=>SB κ a₀ st'/\c=(none,a₀.size)/\Chain kf (arrOf st') 0 (pendingOf st').toList a₀.size) ?step ?fin ?init) ?post)
  case init=>exact ⟨B,0,rfl,.inl (Nat.le_refl _),Nat.zero_le _,by rw [p0];rfl⟩
  case fin =>
    rintro c st' ⟨B',lo,rfl,q1,q2,c⟩
    obtain rfl:lo=a₀.size:=by omega
    exact ⟨B',rfl,c⟩
  case post =>
    rintro c st' ⟨B',rfl,c⟩
    dsimp only
    refine wpS_bind (wpS_mono (wpS_forRange
      (I:=fun x c st2=>c=(none,())/\SB κ a₀ st2/\Chain kf (arrOf st2) 0 (pendingOf st2).toList a₀.size/\((pendingOf st2).size+x≤a₀.size\/(pendingOf st2).size≤1))
      (Q:=fun c st2=>c=(none,())/\SB κ a₀ st2/\Chain kf (arrOf st2) 0 (pendingOf st2).toList a₀.size/\(pendingOf st2).size≤1) ?t1 ?t2 ?t3) ?t4)
    case t3=>exact ⟨rfl,B',c,.inl (by have:=c.le;simp at this;omega)⟩
    case t2 =>
      rintro c2 st2 ⟨rfl,B2,c2,q⟩
      exact ⟨rfl,B2,c2,by omega⟩
    case t4 =>
      rintro c2 st2 ⟨rfl,B2,c2,q⟩
      refine wpS_pure (h st2 B2 ?_)
      generalize (pendingOf st2)=P at c2 q
      obtain ⟨l⟩:=P
      match l,q,c2 with
      | [],_,c2 =>
        have c2:0=a₀.size:=c2
        intro i j _ _ q3
        omega
      | [(a,n,p)],_,c2 =>
        obtain ⟨e1,_,u,e2⟩:=c2
        have e2:0+n=a₀.size:=e2
        subst e1
        rw [←e2]
        exact u
    case t1 =>
      rintro x c2 st2 _ hx ⟨rfl,B2,c2,q⟩
      refine wpS_bind (wpS_get ?_)
      by_cases z:(pendingOf st2).size≤1
      · refine Ae z ?_
        exact wpS_pure ⟨rfl,B2,c2,z⟩
      · refine Ag z ?_
        generalize hi:(if Option.any (fun x=>decide (x<(pendingOf st2)[(pendingOf st2).size-2+1]?.elim 0 (fun x=>x.2.1))) (if (pendingOf st2).size-2 > 0 then Option.map (fun x=>x.2.1) (pendingOf st2)[(pendingOf st2).size-2-1]? else none)=true then (pendingOf st2).size-2-1 else (pendingOf st2).size-2)=i
        have aux:∀(c:Prop) [Decidable c] (u v N:Nat),u+1<N→v+1<N→(if c then u else v)+1<N:=fun c _ u v N h1 h2=>by split <;> assumption
        refine wpS_bind (RR C B2 c2 (by rw [←hi];exact aux _ _ _ _ (by omega) (by omega)) (Nat.le_refl _) fun st3 B3 z3 c3 _=>?_)
        exact wpS_pure ⟨rfl,B3,c3,by omega⟩
  case step =>
    rintro x c st' _ hx ⟨B',lo,rfl,q1,q2,c⟩
    dsimp only
    by_cases z:lo≥a₀.size
    · refine Ae z ?_
      obtain rfl:lo=a₀.size:=by omega
      exact wpS_pure ⟨B',rfl,c⟩
    refine Ag z ?_
    refine wpS_bind (TY C (by omega) (by omega) B' fun n st2 B2 K2 n1 n2 u2=>?_)
    have c2:Chain kf (arrOf st2) 0 (pendingOf st2).toList lo:=by
      rw [K2.pend]
      exact c.keep fun k _ k2=>A9 (K2.low k k2)
    dsimp only
    by_cases hm:n<mr
    all_goals first
      | (refine Ae hm ?_
         refine wpS_bind (wpS_lift (wpAny_rule ⟨rfl,?_⟩))
         refine wpS_bind (RS C (by omega) (by omega) B2 u2 fun st3 B3 K3 u3=>?_)
         refine Ag (by simp) ?_
         have n3:1≤min (a₀.size-lo) mr/\lo+min (a₀.size-lo) mr≤a₀.size:=by omega
         have c3:Chain kf (arrOf st3) 0 (pendingOf st3).toList lo:=by
           rw [K3.pend]
           exact c2.keep fun k _ k2=>A9 (K3.low k k2)
         generalize min (a₀.size-lo) mr=m at u3 n3 ⊢)
      | (refine Ag hm ?_
         have n3:1≤n/\lo+n≤a₀.size:=by omega
         have B3:=B2
         have c3:=c2
         have u3:=u2
         generalize n=m at u3 n3 ⊢
         generalize st2=st3 at B3 c3 u3 ⊢)
    all_goals
      refine wpS_bind (wpS_get ?_)
      cases hb:(pendingOf st3).back? with
      | none=>exact wpS_bind (wpS_modify (wpS_pure (Mn B3 c3 u3 n3.1 n3.2 (by omega))))
      | some b =>
        obtain ⟨s1,m1,pw⟩:=b
        dsimp only
        generalize power' a₀.size (2 * s1+m1) (2 * s1+m1+m1+m) a₀.size=pp
        refine wpS_bind (wpS_mono (wpS_forRange
          (I:=fun _ c st4=>c=(none,())/\SB κ a₀ st4/\Chain kf (arrOf st4) 0 (pendingOf st4).toList lo/\Up kf (arrOf st4) lo (lo+m))
          (Q:=fun c st4=>c=(none,())/\SB κ a₀ st4/\Chain kf (arrOf st4) 0 (pendingOf st4).toList lo/\Up kf (arrOf st4) lo (lo+m)) ?r1 (fun _ _ q=>q) ⟨rfl,B3,c3,u3⟩) ?r2)
        case r1 =>
          rintro y c4 st4 _ hy ⟨rfl,B4,c4,u4⟩
          refine wpS_bind (wpS_get ?_)
          by_cases z4:(pendingOf st4).size > 1
          · have e4:=getElem?_pos (pendingOf st4) ((pendingOf st4).size-2) (by (clear hy n3 hm n2 n1 z q2 q1 hx;omega))
            simp only [if_pos z4,e4]
            split
            · exact wpS_pure ⟨rfl,B4,c4,u4⟩
            · refine wpS_bind (RR C B4 c4 (by (clear hy n3 hm n2 n1 z q2 q1 hx;omega)) q2 fun st5 B5 z5 c5 k5=>?_)
              exact wpS_pure ⟨rfl,B5,c5,fun i j w1 w2 w3=>by rw [k5 i w1,k5 j (by (clear w3 z5 hy n3 hm n2 n1 z q2 q1 hx;omega))];exact u4 i j w1 w2 w3⟩
          · simp only [if_neg z4]
            exact wpS_pure ⟨rfl,B4,c4,u4⟩
        case r2 =>
          rintro c4 st4 ⟨rfl,B4,c4,u4⟩
          dsimp only
          refine wpS_bind (wpS_modify (wpS_bind (wpS_modify (wpS_pure ?_))))
          have B5:SB κ a₀ (setPending st4 ((pendingOf st4).modify ((pendingOf st4).size-1) fun x=>(x.1,x.2.1,pp))):=⟨B4.perm,B4.kind,B4.failed⟩
          refine Mn B5 ?_ u4 n3.1 n3.2 (by omega)
          refine Chain.same (l:=(pendingOf st4).toList) ?_ c4
          show _=((pendingOf st4).modify ((pendingOf st4).size-1) fun x=>(x.1,x.2.1,pp)).toList.map _
          rw [Array.toList_modify]
          refine List.ext_getElem? fun k=>?_
          rw [List.getElem?_map,List.getElem?_map,List.getElem?_modify]
          cases (pendingOf st4).toList[k]? with
          | none=>rfl
          | some v =>
            show some _=some _
            by_cases w:(pendingOf st4).size-1=k
            · simp [w]
            · simp [w]
end
end Srt
namespace L2
open PySem PySem.Spec PyProof.Rows
def kLt:Key→Key→Bool
 | .inl a,.inl b=>decide (a<b)
 | .inl _,.inr _=>true
 | .inr _,.inl _=>false
 | .inr x,.inr y=>decide (x.cps.toList<y.cps.toList)
theorem ME:∀a,kLt a a=false
 | .inl a=>decide_eq_false (Int.lt_irrefl a)
 | .inr x=>decide_eq_false (List.lt_irrefl _)
theorem QI:∀{a b c},kLt a b=true→kLt b c=true→kLt a c=true
 | .inl a,.inl b,.inl c,h1,h2=>decide_eq_true (Int.lt_trans (of_decide_eq_true h1) (of_decide_eq_true h2))
 | .inl _,.inl _,.inr _,_,_=>rfl
 | .inl _,.inr _,.inr _,_,_=>rfl
 | .inr x,.inr y,.inr z,h1,h2=>decide_eq_true (List.lt_trans (of_decide_eq_true h1) (of_decide_eq_true h2))
theorem QJ:∀{a b},kLt a b=false→kLt b a=false→a=b
 | .inl a,.inl b,h1,h2=>by
  have h1:=of_decide_eq_false h1
  have h2:=of_decide_eq_false h2
  rw [show a=b by omega]
 | .inr x,.inr y,h1,h2=>by
  have h1:=of_decide_eq_false h1
  have h2:=of_decide_eq_false h2
  rw [S0 (List.le_antisymm (List.not_lt.mp h2) (List.not_lt.mp h1))]
def A4:List Key→List Key→Bool
 | [],[]=>false
 | [],_::_=>true
 | _::_,[]=>false
 | a::x,b::y=>if a=b then A4 x y else kLt a b
theorem ER:∀x,A4 x x=false
 | []=>rfl
 | a::x=>by rw [A4,if_pos rfl];exact ER x
theorem Ei:∀{x y z},A4 x y=true→A4 y z=true→A4 x z=true
 | [],[],_,h,_=>by cases h
 | [],_::_,[],_,h=>by cases h
 | [],_::_,_::_,_,_=>rfl
 | _::_,[],_,h,_=>by cases h
 | _::_,_::_,[],_,h=>by cases h
 | a::x,b::y,c::z,h1,h2=>by
  unfold A4 at h1 h2 ⊢
  by_cases e1:a=b
  ·subst e1
   rw [if_pos rfl] at h1
   by_cases e2:a=c
   ·subst e2
    rw [if_pos rfl] at h2 ⊢
    exact Ei h1 h2
   ·rw [if_neg e2] at h2 ⊢
    exact h2
  ·rw [if_neg e1] at h1
   by_cases e2:b=c
   ·subst e2
    rw [if_neg e1]
    exact h1
   ·rw [if_neg e2] at h2
    have h3:=QI h1 h2
    have:a≠c:=fun e=>by rw [e,ME] at h3;cases h3
    rw [if_neg this]
    exact h3
theorem Ej:∀{x y},A4 x y=false→A4 y x=false→x=y
 | [],[],_,_=>rfl
 | [],_::_,h,_=>by cases h
 | _::_,[],_,h=>by cases h
 | a::x,b::y,h1,h2=>by
  unfold A4 at h1 h2
  by_cases e:a=b
  ·subst e
   rw [if_pos rfl] at h1 h2
   rw [Ej h1 h2]
  ·rw [if_neg e] at h1
   rw [if_neg (fun z=>e z.symm)] at h2
   exact absurd (QJ h1 h2) e
@[reducible] def lexOrd:KeyOrd where
 α:=List Key
 blt:=A4
 irrefl:=ER
 trans _ _ _:=Ei
 negTrans a b c h:=by
  cases e:A4 a b with
  | true=>exact .inl rfl
  | false =>
   cases e2:A4 b a with
   | true=>exact .inr (Ei e2 h)
   | false=>rw [←Ej e e2];exact .inr h
 total _ _:=Ej
def Ar:Value→Key
 | .int i _=>.inl i
 | .str x _=>.inr x
 | _=>.inl 0
def kfH (h:Heap):Value→List Key
 | .int i _=>[.inl i]
 | .str x _=>[.inr x]
 | .ref a=>match h.get? a with
  | some o=>match o.data with
   | .seq xs _=>xs.toList.map Ar
   | _=>[]
  | none=>[]
 | _=>[]
end L2
namespace Srt
open PySem PyProof.Rows
section
variable {prog:Program}{w:World}{A:Around}{E:Value→Shared→Prop}{s:Shared}{O:KeyOrd}
theorem F6 {a:Addr}{vs:List Value}{n:Nat}{P:PySem.Fin→Shared→Prop}(ho:s.heap.get? a=some (seqObj "list" vs.toArray n)) (hz:vs.length≤sizeLine) (kf:Value→O.α)
  (cmp:∀h',(∀b o,b≠a→s.heap.get? b=some o→h'.get? b=some o)→2≤vs.length→∃κ,(∀(Q:SortKind→Shared→Prop) (E:Value→Shared→Prop),Q κ { s with heap:=h' }→wpAny (model prog w) A (keyKind' vs.toArray) Q E { s with heap:=h' })/\Cmp prog w A { s with heap:=h' } κ O kf (pairsOf vs))
  (h:∀out:Array Keyed,out.Perm (pairsOf vs)→Up kf out 0 (pairsOf vs).size→P (.done (.ret .none)) { s with heap:=sortedHeap s.heap a vs (out.map (·.2)) }) :
  wpAny (model prog w) A (Builtin.«list.sort» ⟨[.ref a],[]⟩) P E s:=by
 rw [list_sort_plain]
 have ha:a<s.heap.objs.size:=Heap.lt_size ho
 refine wpAny_bind (listItems_at ho rfl (wpAny_bind (listUpdate_at ho rfl ?_)))
 obtain ⟨e1,ho1⟩:∃e1,(s.heap.update a (Obj.mapSeq fun _=>#[])).get? a=some (seqObj "list" #[] e1):=⟨_,get?_update_seq ho (fun _=>#[])⟩
 refine wpAny_bind (seqEpoch_at ho1 rfl (wpAny_bind (wpAny_newTuple (wpAny_bind (wpAny_newList (wpAny_holding ?_))))))
 generalize hh:((s.heap.update a (Obj.mapSeq fun _=>#[])).push (seqObj "tuple" vs.toArray 0)).push (seqObj "list" #[] 0)=h2
 have kp:∀b o,b≠a→s.heap.get? b=some o→h2.get? b=some o:=fun b o hb q=>by
  rw [←hh]
  exact Heap.get?_push_of_some _ (Heap.get?_push_of_some _ ((Heap.get?_update_ne _ _ _ _ hb).trans q))
 have ho6:h2.get? a=some (seqObj "list" #[] e1):=by
  rw [←hh]
  exact Heap.get?_push_of_some _ (Heap.get?_push_of_some _ ho1)
 have fin:∀out:Array Keyed,out.Perm (pairsOf vs)→Up kf out 0 (pairsOf vs).size→P (.done (.ret .none)) { s with heap:=h2.update a (Obj.mapSeq fun _=>out.map (·.2)) }:=fun out h1 h3=>by
  have:=h out h1 h3
  unfold sortedHeap at this
  rw [hh] at this
  exact this
 show wpAny (model prog w) A _ P E { s with heap:=h2 }
 dsimp only
 by_cases h2':vs.toArray.size<2
 ·rw [if_pos h2',if_pos h2']
  refine wpAny_bind (wpAny_pure ?_)
  rw [StateT.run_pure]
  refine wpAny_bind (wpAny_pure ?_)
  dsimp only
  refine wpAny_bind (seqEpoch_at ho6 rfl (wpAny_bind (listUpdate_at ho6 rfl ?_ (hsz2:=by rw [Array.size_map];show (pairsOf vs).size≤_;rw [pairsOf_size];omega))))
  simp only [bne_self_eq_false,Bool.false_eq_true,if_false]
  refine wpAny_pure (fin (vs.toArray.zip vs.toArray) (Array.Perm.refl _) fun i j _ q1 q2=>?_)
  rw [pairsOf_size] at q2
  have hsz:vs.toArray.size=vs.length:=by simp
  obtain rfl:i=j:=by omega
  exact KeyOrd.kle_refl _
 ·rw [if_neg h2',if_neg h2']
  obtain ⟨κ,kk,C⟩:=cmp h2 kp (by simpa using h2')
  refine wpAny_bind (kk _ _ ?_)
  refine wpAny_bind (wpAny_mono (U1 C (st:=SortSt.mk' κ (pairsOf vs) #[] 7 none) (Q:=fun _ st'=>SB κ (pairsOf vs) st'/\Up kf (arrOf st') 0 (pairsOf vs).size) ⟨Array.Perm.refl _,rfl,rfl⟩ rfl fun st' B u=>⟨B,u⟩) ?_ fun _ _ e=>e)
  rintro ⟨⟨⟩,st'⟩ s' ⟨rfl,B,u⟩
  dsimp only
  refine wpAny_bind (seqEpoch_at ho6 rfl (wpAny_bind (listUpdate_at ho6 rfl ?_ (hsz2:=by refine Nat.le_trans (Nat.le_of_eq ((Array.size_map ..).trans (B.perm.size_eq.trans (pairsOf_size _)))) ?_;omega))))
  rw [B.failed]
  simp only [bne_self_eq_false,Bool.false_eq_true,if_false]
  exact wpAny_pure (fin _ B.perm u)
end
end Srt
namespace L2
open PySem PySem.Spec PyProof.Rows
def isI:Key→Bool
 | .inl _=>true
 | .inr _=>false
def BN:Value→Prop
 | .int _ _=>True
 | .str _ _=>True
 | _=>False
section
variable {prog:Program}{w:World}{A:Around}{E:Value→Shared→Prop}{s:Shared}{b:Bool}{Q:Bool→Shared→Prop}
theorem SJ (c:Bool) {x y:Value}(hx:BN x) (hy:BN y) (hs:isI (Ar x)=isI (Ar y)) (h:Q (kLt (Ar x) (Ar y)) s):wpAny (model prog w) A (oneLt' c x y) Q E s:=by
 cases x <;> first|exact hx.elim|skip
 all_goals (cases y <;> first|exact hy.elim|exact Bool.noConfusion (show true=false from hs)|exact Bool.noConfusion (show false=true from hs)|skip)
 ·cases c with
  | true=>exact oneLt_int h
  | false=>exact PySem.W.kat_one _ _ (PyProof.Rows.lt_int h)
 ·cases c with
  | true=>exact oneLt_str h
  | false=>exact PySem.W.kat_one _ _ (PyProof.Rows.lt_str h)
theorem OJ {x y:Value}(hx:BN x) (hy:BN y) (hs:isI (Ar x)=isI (Ar y)) (h:Q (decide (Ar x=Ar y)) s):wpAny (model prog w) A (eqBool x y) Q E s:=by
 cases x <;> first|exact hx.elim|skip
 all_goals (cases y <;> first|exact hy.elim|exact Bool.noConfusion (show true=false from hs)|exact Bool.noConfusion (show false=true from hs)|skip)
 ·rename_i a t c u
  refine MeetsSeq.EqGives.int a c t u prog w A E s Q ?_
  have e:(a==c)=decide (Ar (.int a t)=Ar (.int c u)):=by
   show (a==c)=decide ((Sum.inl a:Key)=Sum.inl c)
   by_cases z:a=c
   ·subst z;simp
   ·rw [decide_eq_false (fun q=>z (Sum.inl.inj q))];simpa using z
  rw [e]
  exact h
 ·rename_i a t c u
  refine eqGives_str a c t u prog w A E s Q ?_
  have e:(a==c)=decide (Ar (.str a t)=Ar (.str c u)):=by
   show (a==c)=decide ((Sum.inr a:Key)=Sum.inr c)
   by_cases z:a=c
   ·subst z;simp
   ·rw [decide_eq_false (fun q=>z (Sum.inr.inj q))];simpa using z
  rw [e]
  exact h
theorem NH:∀(xs ys:List Value) (i:Nat),(∀v∈xs,BN v)→(∀v∈ys,BN v)→xs.map (fun v=>isI (Ar v))=ys.map (fun v=>isI (Ar v))→Q (A4 (xs.map Ar) (ys.map Ar)) s→PySem.W.KatLex prog w A b false Q (xs.zip ys) i s
 | [],[],_,_,_,_,h=>PySem.W.kat_nil h
 | [],_::_,_,_,_,e,_=>by cases e
 | _::_,[],_,_,_,e,_=>by cases e
 | x::xs,y::ys,i,hx,hy,e,h=>by
  obtain ⟨e1,e2⟩:=List.cons.inj e
  have fx:=hx x List.mem_cons_self
  have fy:=hy y List.mem_cons_self
  have h:Q (if Ar x=Ar y then A4 (xs.map Ar) (ys.map Ar) else kLt (Ar x) (Ar y)) s:=h
  refine PySem.W.kat_cons (OJ fx fy e1 (PySem.W.kat_go (fun q=>?_) fun q=>?_))
  ·rw [if_pos (of_decide_eq_true q)] at h
   exact PySem.W.kat_yes (NH xs ys _ (fun v hv=>hx v (List.mem_cons_of_mem _ hv)) (fun v hv=>hy v (List.mem_cons_of_mem _ hv)) e2 h)
  ·rw [if_neg (of_decide_eq_false q)] at h
   exact PySem.W.kat_no (SJ _ fx fy e1 h)
end
def CM (h:Heap) (u:Value) (ks:List Key):Prop:=∃a o items m,u=.ref a/\h.get? a=some o/\o.cls=.type "tuple" /\ o.data=.seq items m/\items.toList.map Ar=ks/\∀v∈items.toList,BN v
theorem CM.kf {h:Heap}{u:Value}{ks:List Key}(t:CM h u ks):kfH h u=ks:=by
 obtain ⟨a,o,items,m,rfl,e,_,d,k,_⟩:=t
 simp only [kfH,e,d]
 exact k
inductive DT (h:Heap):List Value→List (List Key)→Prop
 | cI {vs kss}:vs.length=kss.length→(∀(i:Nat) u ks,vs[i]?=some u→kss[i]?=some ks→∃n t,u=.int n t/\ks=[.inl n])→DT h vs kss
 | cS {vs kss}:vs.length=kss.length→(∀(i:Nat) u ks,vs[i]?=some u→kss[i]?=some ks→∃n t,u=.str n t/\ks=[.inr n])→DT h vs kss
 | cT {vs kss} (sh:List Bool):vs.length=kss.length→sh≠[]→(∀(i:Nat) u ks,vs[i]?=some u→kss[i]?=some ks→CM h u ks/\ks.map isI=sh)→DT h vs kss
theorem DT.len {h:Heap}{vs:List Value}{kss:List (List Key)}(x:DT h vs kss):vs.length=kss.length:=by cases x <;> assumption
theorem DT.kf {h:Heap}{vs:List Value}{kss:List (List Key)}(x:DT h vs kss):∀(i:Nat) u ks,vs[i]?=some u→kss[i]?=some ks→kfH h u=ks:=by
 intro i u ks e1 e2
 cases x with
 | cI _ f=>obtain ⟨n,t,rfl,rfl⟩:=f i u ks e1 e2;rfl
 | cS _ f=>obtain ⟨n,t,rfl,rfl⟩:=f i u ks e1 e2;rfl
 | cT _ _ _ f=>exact (f i u ks e1 e2).1.kf
theorem FP {α β:Type}{l:List α}{m:List β}(hl:l.length=m.length) {x:α}(h:x∈l):∃(i:Nat) (y:β),l[i]?=some x/\m[i]?=some y:=by
 obtain ⟨i,hi,e⟩:=List.mem_iff_getElem.mp h
 exact ⟨i,m[i]'(by omega),by rw [List.getElem?_eq_getElem hi,e],List.getElem?_eq_getElem _⟩
theorem DT.cmp {prog:Program}{w:World}{A:Around}{s:Shared}{h:Heap}{vs:List Value}{kss:List (List Key)}(x:DT h vs kss) (h2:2≤vs.length) (kp:∀a o items m,.ref a∈vs→h.get? a=some o→o.cls=.type "tuple" → o.data=.seq items m→s.heap.get? a=some o) :
  ∃κ,(∀(Q:SortKind→Shared→Prop) (E:Value→Shared→Prop),Q κ s→wpAny (model prog w) A (keyKind' vs.toArray) Q E s)/\Srt.Cmp prog w A s κ lexOrd (kfH h) (pairsOf vs):=by
 have mp:∀p∈(pairsOf vs).toList,p.1∈vs:=fun p hp=>by rw [pairsOf_toList] at hp;exact (mem_zip_self hp).2
 cases x with
 | cI hl f =>
  refine ⟨oneType',fun Q E q=>PySem.W.kas_kind (T:=.type "int") h2 (fun v hv=>?_) (by decide) (by decide) q,⟨fun p hp q hq Q E k=>?_⟩⟩
  ·obtain ⟨i,ks,e1,e2⟩:=FP hl hv
   obtain ⟨n,t,rfl,_⟩:=f i _ _ e1 e2
   exact .now
  ·obtain ⟨i,ks,e1,e2⟩:=FP hl (mp p hp)
   obtain ⟨j,ls,e3,e4⟩:=FP hl (mp q hq)
   obtain ⟨n,t,u1,_⟩:=f i _ _ e1 e2
   obtain ⟨m,t',u2,_⟩:=f j _ _ e3 e4
   rw [u1,u2] at k ⊢
   rw [keyLt'_oneType]
   refine oneLt_int ?_
   have e:decide (n<m)=A4 [.inl n] [.inl m]:=by
    show _=if (Sum.inl n:Key)=Sum.inl m then false else decide (n<m)
    split
    ·rename_i z
     have z:=Sum.inl.inj z
     rw [z];exact decide_eq_false (Int.lt_irrefl m)
    ·rfl
   rw [e]
   exact k
 | cS hl f =>
  refine ⟨oneType',fun Q E q=>PySem.W.kas_kind (T:=.type "str") h2 (fun v hv=>?_) (by decide) (by decide) q,⟨fun p hp q hq Q E k=>?_⟩⟩
  ·obtain ⟨i,ks,e1,e2⟩:=FP hl hv
   obtain ⟨n,t,rfl,_⟩:=f i _ _ e1 e2
   exact .now
  ·obtain ⟨i,ks,e1,e2⟩:=FP hl (mp p hp)
   obtain ⟨j,ls,e3,e4⟩:=FP hl (mp q hq)
   obtain ⟨n,t,u1,_⟩:=f i _ _ e1 e2
   obtain ⟨m,t',u2,_⟩:=f j _ _ e3 e4
   rw [u1,u2] at k ⊢
   rw [keyLt'_oneType]
   refine oneLt_str ?_
   have e:decide (n.cps.toList<m.cps.toList)=A4 [.inr n] [.inr m]:=by
    show _=if (Sum.inr n:Key)=Sum.inr m then false else decide (n.cps.toList<m.cps.toList)
    split
    ·rename_i z
     have z:=Sum.inr.inj z
     rw [z];exact decide_eq_false (List.lt_irrefl _)
    ·rfl
   rw [e]
   exact k
 | cT sh hl hn f =>
  have at':∀u∈vs,∃ks,CM s.heap u ks/\kfH h u=ks/\ks.map isI=sh:=fun u hu=>by
   obtain ⟨i,ks,e1,e2⟩:=FP hl hu
   obtain ⟨t,z⟩:=f i u ks e1 e2
   refine ⟨ks,?_,t.kf,z⟩
   obtain ⟨a,o,items,m,rfl,e,c,d,r⟩:=t
   exact ⟨a,o,items,m,rfl,kp a o items m hu e c d,c,d,r⟩
  refine ⟨tuples' true,fun Q E q=>?_,⟨fun p hp q hq Q E k=>?_⟩⟩
  ·-- the kind,by the firsts
   have key:∀(l:List Value),(∀u∈l,u∈vs)→∃fs,PySem.W.KatTups s.heap l fs/\fs.length=l.length/\∀v∈fs,BN v/\isI (Ar v)=sh.headD true:=fun l=>by
    induction l with
    | nil=>exact fun _=>⟨[],trivial,rfl,fun v hv=>by cases hv⟩
    | cons u l ih =>
     intro hu
     obtain ⟨fs,k1,k2,k3⟩:=ih fun v hv=>hu v (List.mem_cons_of_mem _ hv)
     obtain ⟨ks,⟨a,o,items,m,rfl,e,c,d,r,fl⟩,_,z⟩:=at' u (hu u List.mem_cons_self)
     obtain ⟨l0⟩:=items
     match l0,r,fl with
     | [],r,_ =>
      have r:[]=ks:=r
      rw [←r] at z
      exact absurd z.symm hn
     | f0::l1,r,fl =>
      refine ⟨f0::fs,PySem.W.KatTups.cons e c d rfl k1,by rw [List.length_cons,List.length_cons,k2],fun v hv=>?_⟩
      rcases List.mem_cons.mp hv with rfl|hv
      ·refine ⟨fl _ (by simp),?_⟩
       have r:Ar v::l1.map Ar=ks:=r
       rw [←z,←r]
       rfl
      ·exact k3 v hv
   obtain ⟨fs,k1,k2,k3⟩:=key vs fun _ h=>h
   cases hh:sh.headD true with
   | true =>
    refine PySem.W.kat_kind (T:=.type "int") k1 (by omega) (fun v hv=>?_) (by decide) q
    obtain ⟨fl,z⟩:=k3 v hv
    rw [hh] at z
    cases v <;> first|exact fl.elim|exact Bool.noConfusion (show true=false from z)|exact Bool.noConfusion (show false=true from z)|exact .now
   | false =>
    refine PySem.W.kat_kind (T:=.type "str") k1 (by omega) (fun v hv=>?_) (by decide) q
    obtain ⟨fl,z⟩:=k3 v hv
    rw [hh] at z
    cases v <;> first|exact fl.elim|exact Bool.noConfusion (show true=false from z)|exact Bool.noConfusion (show false=true from z)|exact .now
  ·obtain ⟨ks,⟨a,o,items,m,u1,e,c,d,r,fl⟩,k1,z1⟩:=at' _ (mp p hp)
   obtain ⟨ls,⟨a',o',items',m',u2,e',c',d',r',fl'⟩,k2,z2⟩:=at' _ (mp q hq)
   have k:Q (A4 (kfH h p.1) (kfH h q.1)) s:=k
   rw [k1,k2,←r,←r'] at k
   rw [u1,u2]
   have es:items.toList.map (fun v=>isI (Ar v))=items'.toList.map (fun v=>isI (Ar v)):=by
    have h1:(items.toList.map Ar).map isI=(items'.toList.map Ar).map isI:=by rw [r,r',z1,z2]
    rw [List.map_map,List.map_map] at h1
    exact h1
   have el:items.size=items'.size:=by
    have:=congrArg List.length es
    simpa using this
   refine PySem.W.kat_lt e d e' d' ?_
   rw [decide_eq_false (by omega)]
   exact NH _ _ 0 fl fl' es k
inductive MU (K:PySem.W.Frag) (H:Hp):List V→List (List Key)→Prop
 | cI (ns:List Int):MU K H (ns.map V.int) (ns.map fun n=>[.inl n])
 | cS (zs:List Str):MU K H (zs.map V.str) (zs.map fun z=>[.inr z])
 | cT {xs:List V} {kss:List (List Key)} (sh:List Bool):sh≠[]→Paired (fun x ks=>(∃a,x=.ref a/\SqT K H a (ks.map kV))/\ks.map isI=sh) xs kss→MU K H xs kss
theorem FK {α β:Type}{F:α→β→Prop}{bs bs':List β}(p:bs'.Perm bs):∀{as:List α},Paired F as bs→∃as',as'.Perm as/\Paired F as' bs':=by
 induction p with
 | nil=>intro as h;cases h;exact ⟨[],.nil,.nil⟩
 | cons x _ ih =>
  intro as h
  cases h with
  | cons h1 h2 =>
   obtain ⟨as',q1,q2⟩:=ih h2
   exact ⟨_::as',q1.cons _,.cons h1 q2⟩
 | swap x y l =>
  intro as h
  cases h with
  | cons h1 h2 =>
   cases h2 with
   | cons h3 h4=>exact ⟨_,List.Perm.swap _ _ _,.cons h3 (.cons h1 h4)⟩
 | trans _ _ ih1 ih2 =>
  intro as h
  obtain ⟨a1,q1,q2⟩:=ih2 h
  obtain ⟨a2,q3,q4⟩:=ih1 q2
  exact ⟨a2,q3.trans q1,q4⟩
theorem AN {α β:Type}{F:α→β→Prop}:∀{l:List α}{m:List β},Paired F l m→l.length=m.length/\∀(i:Nat) a b,l[i]?=some a→m[i]?=some b→F a b
 | _,_,.nil=>⟨rfl,fun i a b h=>by simp at h⟩
 | _,_,.cons h r=>by
  obtain ⟨h1,h2⟩:=AN r
  refine ⟨by rw [List.length_cons,List.length_cons,h1],fun i a b e1 e2=>?_⟩
  cases i with
  | zero=>simp at e1 e2;subst e1 e2;exact h
  | succ i=>exact h2 i a b (by simpa using e1) (by simpa using e2)
theorem FR:∀{ks:List Key}{us:List Value},Vals (ks.map kV) us→us.map Ar=ks/\∀v∈us,BN v
 | [],_,h=>by cases h;exact ⟨rfl,fun v hv=>by cases hv⟩
 | k::ks,_,h=>by
  cases h with
  | cons h1 h2 =>
   obtain ⟨e,f⟩:=FR h2
   cases k with
   | inl i =>
    obtain ⟨t,rfl⟩:=h1
    exact ⟨by rw [List.map_cons,e];rfl,fun v hv=>by rcases List.mem_cons.mp hv with rfl|hv;exact True.intro;exact f v hv⟩
   | inr x =>
    obtain ⟨t,rfl⟩:=h1
    exact ⟨by rw [List.map_cons,e];rfl,fun v hv=>by rcases List.mem_cons.mp hv with rfl|hv;exact True.intro;exact f v hv⟩
section
variable {X:Cx}{pins:List (Addr×Obj)}{σ:St}{H:Hp}{s:Shared}
end
theorem Rn {X:Cx}{its:List Value}{ys:List V}{kss:List (List Key)}{h:Heap}(r:Vals ys its) (sv:DT h its kss) {out:Array Keyed}(p:out.Perm (pairsOf its)) (u:Srt.Up (O:=lexOrd) (kfH h) out 0 (pairsOf its).size) :
    ∃qs:List (V×List Key),qs.Perm (ys.zip kss)/\Vals (qs.map (·.1)) (out.map (·.2)).toList/\(qs.map (·.2)).Pairwise (fun a b=>A4 b a=false):=by
  have pl:out.toList.Perm (its.zip its):=by rw [←pairsOf_toList];exact Array.perm_iff_toList_perm.mp p
  have me:∀q∈out.toList,q.1=q.2/\q.1∈its:=fun q hq=>mem_zip_self (pl.mem_iff.mp hq)
  have e0:(out.map (·.2)).toList=out.toList.map (·.2):=Array.toList_map ..
  have pu:(out.toList.map (·.2)).Perm its:=by
    have:=pl.map (·.2)
    rwa [List.map_snd_zip (Nat.le_refl _)] at this
  have hl:=r.length
  have hk:=sv.len
  have pf:Paired (fun (q:V×List Key) v=>RelV q.1 v/\kfH h v=q.2) (ys.zip kss) its:=by
    refine Ax (by rw [List.length_zip];omega) fun i a b e1 e2=>?_
    obtain ⟨e3,e4⟩:=List.getElem?_zip_eq_some.mp e1
    obtain ⟨v,e5,e6⟩:=r.get e3
    rw [e2] at e5
    cases e5
    exact ⟨e6,sv.kf i b a.2 e2 e4⟩
  obtain ⟨qs,q1,q2⟩:=FK pu pf
  obtain ⟨l2,g2⟩:=AN q2
  refine ⟨qs,q1,?_,?_⟩
  · rw [e0]
    refine Ax (by rw [List.length_map,l2]) fun i a b e1 e2=>?_
    rw [List.getElem?_map] at e1
    obtain ⟨q,e3,rfl⟩:=Option.map_eq_some_iff.mp e1
    exact (g2 i q b e3 e2).1
  · rw [List.pairwise_iff_getElem]
    intro i j hi hj hij
    rw [List.length_map] at hi hj
    rw [List.length_map] at l2
    have hs:(pairsOf its).size=out.size:=p.size_eq.symm
    have ko:∀k (hk:k<qs.length),(qs[k]).2=Srt.KX (O:=lexOrd) (kfH h) out k:=fun k hk=>by
      have hk2 : k < out.size := by have : out.toList.length = out.size := by simp
                                    omega
      rw [Srt.BI hk2]
      have e1:qs[k]?=some qs[k]:=List.getElem?_eq_getElem hk
      have e2:(out.toList.map (·.2))[k]?=some out[k].2:=by rw [List.getElem?_map,Array.getElem?_toList,getElem?_pos out k hk2];rfl
      have:=(g2 k _ _ e1 e2).2
      rw [(me out[k] (by simp)).1,this]
    have := u i j (Nat.zero_le _) (Nat.le_of_lt hij) (by have : out.toList.length = out.size := by simp
                                                         omega)
    rw [←ko i hi,←ko j hj] at this
    rw [List.getElem_map,List.getElem_map]
    exact this
section
variable {X:Cx}{K:PySem.W.Frag}
theorem MJ {prog:Program}{w:World}{A:Around}{E:Value→Shared→Prop}{s:Shared}{T:String}{r d:Addr}{n:Nat}{P:Nat→Value→Prop}{OK:Heap→Prop}{Q:List Value→Shared→Prop}(K:PySem.W.KdlSrc prog w T r d n P OK) (hh:A.handled=none) (hok:OK s.heap) (hn:n≤sizeLine)
  (hQ:∀h' tk (acc:Array Value),(∀b o,s.heap.get? b=some o→h'.get? b=some o)→s.heap.objs.size<h'.objs.size→ItemsOf P acc n→Q acc.toList { s with heap:=h',toks:=tk }):wpAny (model prog w) A (collect (.ref r)) Q E s:=by
 unfold collect
 refine wpAny_bind (wpAny_runValue (codeAny_builtin F.entry_proto_collect ?_))
 rw [Around.under_plainId F.plain_proto_collect _]
 show wpAny _ A.in1 (newList [] >>= fun l=>again (.builtin "list.__iadd__" ⟨[l,.ref r],[]⟩)) _ _ s
 refine wpAny_bind (wpAny_newObj_type ?_)
 refine wpAny_pure ⟨plainId_quiet F.plain_list_iadd _,codeAny_builtin F.entry_list_iadd ?_⟩
 rw [Around.under_plainId F.plain_list_iadd _]
 have hS₁:(s.heap.push { cls:=.type "list", data:=.seq ([]:List Value).toArray }).get? s.heap.objs.size=some { cls:=.type "list", data:=.seq ([]:List Value).toArray }:=Heap.get?_push_size _ rfl
 have ht:=K.there _ hok
 have kp:∀b o,s.heap.get? b=some o→(s.heap.push { cls:=.type "list", data:=.seq ([]:List Value).toArray }).get? b=some o:=fun b o e=>Heap.get?_push_of_some _ e
 show wpAny _ A.in1 (Builtin.List.listExtendWith (.ref s.heap.objs.size) (.ref r) (.ref s.heap.objs.size)) _ _ _
 have key:∀s',(∃h' tk acc c',s'={ s with heap:=h',toks:=tk }/\(∀b o,b≠s.heap.objs.size→(s.heap.push { cls:=.type "list", data:=.seq ([]:List Value).toArray }).get? b=some o→h'.get? b=some o)/\h'.get? s.heap.objs.size=some { cls:=.type "list", dict:=none,data:=.seq acc c',slots:=#[] }/\ItemsOf P acc n) →
   wpAny (model prog w) A (load s.heap.objs.size >>= fun o=>match o.data with
    | .seq xs _=>pure xs.toList
    | _=>unsupported "internal:collect") Q E s':=fun s' ⟨h',tk,acc,c',e,k1,k2,k3⟩=>by
  subst e
  refine wpAny_bind (wpAny_load k2 ?_)
  exact wpAny_pure (hQ h' tk acc (fun b o e=>k1 b o (Nat.ne_of_lt (Heap.lt_size e)) (kp b o e)) (Heap.lt_size k2) k3)
 refine wpAny_mono (PySem.W.kdl_extend (A:=A) (s:={ s with heap:=s.heap.push { cls:=.type "list", data:=.seq ([]:List Value).toArray } })
  (R:=fun r s'=>r=.ok (.ret (.ref s.heap.objs.size))/\∃h' tk acc c',s'={ s with heap:=h',toks:=tk }/\(∀b o,b≠s.heap.objs.size→(s.heap.push { cls:=.type "list", data:=.seq ([]:List Value).toArray }).get? b=some o→h'.get? b=some o)/\h'.get? s.heap.objs.size=some { cls:=.type "list", dict:=none,data:=.seq acc c',slots:=#[] }/\ItemsOf P acc n)
  K hh (K.keep _ _ hok fun b _ o e=>kp b o e) s.heap.objs.size (Nat.ne_of_gt ht.1) (Nat.ne_of_gt ht.2) _ 0 hS₁ (fun h' tk acc c' k1 k2 k3=>⟨rfl,h',tk,acc,c',rfl,k1,k2,k3⟩) hn) (fun fin s' hf=>?_) fun e s' hf=>by cases hf.1
 cases fin with
 | done f =>
  obtain ⟨e,r⟩:=hf
  cases e
  exact key s' r
 | again c =>
  refine ⟨hf.1,codeAny_mono hf.2 fun r s2 ⟨e,q⟩=>?_⟩
  subst e
  exact key s2 q
theorem G0 (hc:X.calm=true):CJ X (.builtin "sorted") (fun xs H Q=>∃(d:Addr) (kvs:List (Key×V)),xs=[.ref d]/\H d=some (.dK kvs)/\((∀p∈kvs,∃i,p.1=.inl i)\/∀p∈kvs,∃i,p.1=.inr i) /\
  ∀l (ks:List Key),H l=none→ks.Perm (kvs.map (·.1))→ks.Pairwise (fun a b=>kLt b a=false)→Q (.ref l) (upd H l (.lst (ks.map kV)))):=by
 intro pins s σ H xs us Q I r h
 obtain ⟨d,kvs,rfl,e,hty,q⟩:=h
 obtain ⟨u,rfl,ru⟩:=vals1 r
 cases ru
 obtain ⟨z,lo,vs,rel,dd⟩:=NQ I.hok e
 obtain ⟨ep,hat⟩:=dd.dictAt
 have hlen:kvs.length=vs.length:=Paired.length rel
 refine Calls.call_function_entry kind_sorted plain_sorted entry_sorted (args_sorted1 _) ?_
 unfold Builtin.«sorted»
 refine wpAny_bind (m:=checkCount "sorted" 1 1 _) (wpAny_pure ?_)
 refine wpAny_bind (MJ (PySem.W.kdl_dict (knd:=Ah X.prog X.w) (kvs:=vs) (ep:=ep) lo) (I.ok.hd hc) hat (by omega) fun h1 tk acc k1 gr it=>?_)
 have rv:Vals (kvs.map fun p=>kV p.1) acc.toList:=Kz rel (by rw [Array.length_toList];exact it.1) fun j v hv=>it.2 j v (by rw [←Array.getElem?_toList];exact hv)
 have ra:=rv.length
 rw [List.length_map] at ra
 have sv:DT h1 acc.toList (kvs.map fun p=>[p.1]):=by
  rcases hty with hty|hty
  ·refine .cI (by rw [List.length_map];omega) fun i u ks e1 e2=>?_
   rw [List.getElem?_map] at e2
   obtain ⟨p,e3,rfl⟩:=Option.map_eq_some_iff.mp e2
   obtain ⟨n,en⟩:=hty p (List.mem_of_getElem? e3)
   obtain ⟨u',e4,e5⟩:=rv.get (i:=i) (x:=kV p.1) (by rw [List.getElem?_map,e3];rfl)
   rw [e1] at e4
   cases e4
   rw [en] at e5 ⊢
   obtain ⟨t,rfl⟩:=e5
   exact ⟨n,t,rfl,rfl⟩
  ·refine .cS (by rw [List.length_map];omega) fun i u ks e1 e2=>?_
   rw [List.getElem?_map] at e2
   obtain ⟨p,e3,rfl⟩:=Option.map_eq_some_iff.mp e2
   obtain ⟨n,en⟩:=hty p (List.mem_of_getElem? e3)
   obtain ⟨u',e4,e5⟩:=rv.get (i:=i) (x:=kV p.1) (by rw [List.getElem?_map,e3];rfl)
   rw [e1] at e4
   cases e4
   rw [en] at e5 ⊢
   obtain ⟨t,rfl⟩:=e5
   exact ⟨n,t,rfl,rfl⟩
 generalize hits:acc.toList=its at rv ra sv
 refine wpAny_bind (wpAny_newList ?_ (by omega))
 have hoL:(h1.push (seqObj "list" its.toArray 0)).get? h1.objs.size=some (seqObj "list" its.toArray 0):=Heap.get?_push_size _ rfl
 have grow:s.heap.objs.size≤h1.objs.size:=Nat.le_of_lt gr
 refine wpAny_bind (wpAny_holding (wpAny_call_entry (s:={ s with heap:=h1.push (seqObj "list" its.toArray 0),toks:=tk }) slot_list_sort ⟨_,hoL,rfl⟩ entry_list_sort (Srt.F6 (O:=lexOrd) hoL (by omega) (kfH h1) (fun h' k' h2=>?_) fun out p u=>⟨_,rfl,wpAny_pure ⟨_,rfl,?_⟩⟩) (args_list_sort _)))
 ·refine sv.cmp h2 fun a o items m _ e _ _=>?_
  exact k' a o (Nat.ne_of_lt (Heap.lt_size e)) (Heap.get?_push_of_some _ e)
 ·obtain ⟨qs,q1,q2,q3⟩:=Rn (X:=X) rv sv p u
  obtain ⟨e',ho⟩:=sortedHeap_at (h:=h1.push (seqObj "list" its.toArray 0)) (a:=h1.objs.size) (vs:=its) (out:=out.map (·.2)) hoL
  have ep:qs.map (·.1)=(qs.map fun x=>x.2.headD (.inl 0)).map kV:=by
   rw [List.map_map]
   refine List.map_congr_left fun x hx=>?_
   have hm:=q1.mem_iff.mp hx
   obtain ⟨i,hi⟩:=List.mem_iff_getElem?.mp hm
   obtain ⟨e3,e4⟩:=List.getElem?_zip_eq_some.mp hi
   rw [List.getElem?_map] at e3 e4
   obtain ⟨p3,e5,e6⟩:=Option.map_eq_some_iff.mp e3
   rw [e5] at e4
   have e4:some [p3.1]=some x.2:=e4
   show x.1=kV (x.2.headD (.inl 0))
   rw [←e6,←Option.some.inj e4]
   rfl
  have pm:(qs.map fun x=>x.2.headD (.inl 0)).Perm (kvs.map (·.1)):=by
   refine (q1.map _).trans (List.Perm.of_eq ?_)
   rw [show (fun x:V×List Key=>x.2.headD (.inl 0))=(fun l:List Key=>l.headD (.inl 0)) ∘ Prod.snd from rfl,←List.map_map,List.map_snd_zip (by simp),List.map_map]
   rfl
  have pw:(qs.map fun x=>x.2.headD (.inl 0)).Pairwise (fun a b=>kLt b a=false):=by
   rw [List.pairwise_map]
   rw [List.pairwise_map] at q3
   refine q3.imp_of_mem fun {a b} ha hb hab=>?_
   have one:∀x∈qs,∃k,x.2=[k]:=fun x hx=>by
    have hm:=q1.mem_iff.mp hx
    obtain ⟨i,hi⟩:=List.mem_iff_getElem?.mp hm
    obtain ⟨_,e4⟩:=List.getElem?_zip_eq_some.mp hi
    rw [List.getElem?_map] at e4
    obtain ⟨p3,_,e6⟩:=Option.map_eq_some_iff.mp e4
    exact ⟨_,e6.symm⟩
   obtain ⟨x,ex⟩:=one a ha
   obtain ⟨y,ey⟩:=one b hb
   rw [ex,ey] at hab ⊢
   show kLt y x=false
   have hab:(if y=x then false else kLt y x)=false:=hab
   by_cases z:y=x
   ·rw [z];exact ME x
   ·rw [if_neg z] at hab;exact hab
  have lz:(qs.map (·.1)).length≤sizeLine:=by
   rw [List.length_map,q1.length_eq,List.length_zip,List.length_map]
   omega
  have old:∀b o,s.heap.get? b=some o→(sortedHeap (h1.push (seqObj "list" its.toArray 0)) h1.objs.size its (out.map (·.2))).get? b=some o:=fun b o e=>by
   have e1:=k1 b o e
   have hlt:=Heap.lt_size e1
   rw [sortedHeap_old (Nat.ne_of_lt hlt) (by rw [size_push'];exact Nat.lt_succ_of_lt hlt)]
   exact Heap.get?_push_of_some _ e1
  refine ⟨.ref h1.objs.size,_,I.laid (a:=h1.objs.size) (o:=.lst (qs.map (·.1))) (t':=tk) old grow ⟨lz,_,e',q2,by rw [Array.toArray_toList];exact ho⟩,rfl,?_⟩
  rw [ep]
  exact q _ _ (I.hok.fresh grow) pm pw
end
end L2
namespace L2
open PySem PySem.Spec PyProof.Rows
section
open PySem.SeqAt
open PySem.AutoSeq1 (wpAny_loadPart')
open PySem.MeetsSeq PySem.MeetsSeq2 PySem.MeetsSeq3
theorem Sg (A:Around) (s:Shared) {x y:Value}(hx:BN x) (hy:BN y) (hs:isI (Ar x)=isI (Ar y)):SeqAt.EqAt A s x y (decide (Ar x=Ar y)):=by
 intro prog w E Q h
 exact OJ hx hy hs h
theorem RO (A:Around) (s:Shared) {x y:Value}(hx:BN x) (hy:BN y) (hs:isI (Ar x)=isI (Ar y)) (prog:Program) (w:World) (E:Value→Shared→Prop) (Q:Value→Shared→Prop) (h:Q (.bool (kLt (Ar x) (Ar y))) s) :
  wpAny (model prog w) A (richCompare .Lt x y) Q E s:=by
 cases x <;> first|exact hx.elim|skip
 all_goals (cases y <;> first|exact hy.elim|exact Bool.noConfusion (show true=false from hs)|exact Bool.noConfusion (show false=true from hs)|skip)
 ·exact (PyProof.Rows.lt_int h:wpAny (model prog w) A (compareOp .Lt _ _) Q E s)
 ·exact (PyProof.Rows.lt_str h:wpAny (model prog w) A (compareOp .Lt _ _) Q E s)
structure PH (vs ws:List Value) (n m:Nat) (r:Bool):Prop where
 ex:∃(us zs:List Value),vs=us++zs/\(zs=[]\/ws.length≤us.length)/\(∀v∈us,BN v)/\(∀v∈ws,BN v)/\(∀(i:Nat) x y,us[i]?=some x→ws[i]?=some y→isI (Ar x)=isI (Ar y))/\A4 (us.map Ar) (ws.map Ar)=r
 len:vs.length+m=ws.length+n
theorem Kc (l b:Addr) (items items2:Array Value) (n n2:Nat) (dd dd2:Option Addr) (sl sl2:Array (Option Value)) (r:Bool) (hx:PH items.toList items2.toList items.size items2.size r) :
  Meets (Builtin.«tuple.__lt__» ⟨[.ref l,.ref b],[]⟩)
   (fun _ R s=>s.heap.get? l=some { cls:=.type "tuple", dict:=dd,data:=.seq items n,slots:=sl }/\s.heap.get? b=some { cls:=.type "tuple", dict:=dd2,data:=.seq items2 n2,slots:=sl2 } /\
    R (.ok (.ret (.bool r))) s) :=
 .of_wp fun prog w A R s h=>by
  obtain ⟨hp,g,d,tk,os⟩:=s;obtain ⟨hl,hb,h⟩:=h
  have f2:=AutoSeq1.sub_tuple_tuple
  wp_walk using wpAny_loadPart' hl,wpAny_loadPart' hb,wpAny_forIn_list _ (fun rest b s'=>b.1=none/\s'=⟨hp,g,d,tk,os⟩/\∃(vs ws:List Value) (q:Bool),rest=vs.zip ws /\
   PH vs ws items.size items2.size q/\R (.ok (.ret (.bool q))) ⟨hp,g,d,tk,os⟩) _
  case turn =>
   rintro ⟨y,x⟩ rest b s' ⟨hb',rfl,vs,ws,q,hz,hx',hR⟩
   obtain ⟨⟨us,zs,rfl,h1,h2,h3,h4,h5⟩,hlen⟩:=hx'
   cases ws with
   | nil=>rw [List.zip_nil_right] at hz;cases hz
   | cons c ws =>
    cases us with
    | nil =>
     rcases h1 with h1|h1
     ·subst h1;cases hz
     ·exact absurd h1 (by simp)
    | cons a us =>
     rw [List.cons_append,List.zip_cons_cons] at hz
     injection hz with hyx hrest
     injection hyx with hy hx
     subst hy hx
     have fa:=h2 y List.mem_cons_self
     have fc:=h3 x List.mem_cons_self
     have ks:=h4 0 y x rfl rfl
     have h5:(if Ar y=Ar x then A4 (us.map Ar) (ws.map Ar) else kLt (Ar y) (Ar x))=q:=h5
     refine wpAny_bind (Sg A.in1 ⟨hp,g,d,tk,os⟩ fa fc ks prog w _ _ ?_)
     cases e:decide (Ar y=Ar x) with
     | true =>
      rw [if_pos (of_decide_eq_true e)] at h5
      wp_walk
      refine ⟨rfl,rfl,us++zs,ws,q,hrest,⟨⟨us,zs,rfl,?_,fun v hv=>h2 v (List.mem_cons_of_mem _ hv),fun v hv=>h3 v (List.mem_cons_of_mem _ hv),fun i x y e1 e2=>h4 (i+1) x y (by simpa using e1) (by simpa using e2),h5⟩,?_⟩,hR⟩
      ·rcases h1 with h1|h1
       ·exact .inl h1
       ·refine .inr ?_
        simp only [List.length_cons] at h1
        omega
      ·simp only [List.length_cons,List.cons_append] at hlen
       omega
     | false =>
      rw [if_neg (of_decide_eq_false e)] at h5
      have hri:=RO A.in1 ⟨hp,g,d,tk,os⟩ fa fc ks prog w
      wp_walk using hri
      exact ⟨_,rfl,by rw [h5];exact hR⟩
  case fin =>
   rintro ⟨b1,b2⟩ s' ⟨hb',rfl,vs,ws,q,hz,⟨⟨us,zs,rfl,h1,h2,h3,h4,h5⟩,hlen⟩,hR⟩
   simp only at hb'
   subst hb'
   have hv:q=decide (items.size<items2.size):=by
    rw [←h5]
    cases us with
    | nil =>
     rcases h1 with h1|h1
     ·subst h1
      cases ws with
      | nil =>
       simp only [List.length_nil,List.append_nil] at hlen
       exact (decide_eq_false (by omega)).symm
      | cons c ws =>
       simp only [List.length_nil,List.append_nil,List.length_cons] at hlen
       exact (decide_eq_true (by omega)).symm
     ·have:ws=[]:=List.eq_nil_of_length_eq_zero (by simpa using h1)
      subst this
      simp only [List.length_nil,List.nil_append] at hlen
      exact (decide_eq_false (by omega)).symm
    | cons a us =>
     cases ws with
     | nil =>
      simp only [List.length_nil,List.length_cons,List.cons_append] at hlen
      exact (decide_eq_false (by omega)).symm
     | cons c ws =>
      rw [List.cons_append,List.zip_cons_cons] at hz
      cases hz
   rw [hv] at hR
   wp_walk
   exact ⟨_,rfl,by simpa [Builtin.Tuple.tupleCompareSizes] using hR⟩
  case h =>
   exact ⟨rfl,rfl,items.toList,items2.toList,r,rfl,hx,h⟩
end
section
variable {X:Cx}{K:PySem.W.Frag}
def Wm (K:PySem.W.Frag):R2:=fun x y H Q=>∃a b ks zs ms,x=.ref a/\y=.ref b/\SqT K H a (ks.map kV++zs)/\SqT K H b (ms.map kV)/\(zs=[]\/ms.length≤ks.length)/\(∀(i:Nat) k m,ks[i]?=some k→ms[i]?=some m→isI k=isI m)/\Q (.bl (A4 ks ms)) H
theorem Ia:∀{xs ys:List V}{us:List Value},Vals (xs++ys) us→∃vs ws,us=vs++ws/\Vals xs vs/\Vals ys ws
 | [],ys,us,h=>⟨[],us,rfl,.nil,h⟩
 | x::xs,ys,_,h=>by
  cases h with
  | cons h1 h2 =>
   obtain ⟨vs,ws,e,p1,p2⟩:=Ia h2
   exact ⟨_::vs,ws,by rw [e];rfl,.cons h1 p1,p2⟩
theorem U9 (hu:X.A.units<cLine) (hK:X.K=K:=by rfl):OpR X (compareOp .Lt) (Wm K):=by
  subst hK
  intro pins s σ H x y v u Q I rx ry h
  obtain ⟨a,b,ks,zs,ms,rfl,rfl,ha,hb,hz,hs,q⟩:=h
  cases rx
  cases ry
  obtain ⟨its,r1,p1,_⟩:=I.tuple ha
  obtain ⟨its2,r2,p2,_⟩:=I.tuple hb
  obtain ⟨us,ws,rfl,q1,q2⟩:=Ia r1
  obtain ⟨k1,f1⟩:=FR q1
  obtain ⟨k2,f2⟩:=FR r2
  have l1:=q1.length
  have l2:=r2.length
  have l3:=q2.length
  rw [List.length_map] at l1 l2
  obtain ⟨⟨cls,dd,data,sl⟩,ho,hc,n,hd⟩:=id p1
  obtain ⟨⟨cls2,dd2,data2,sl2⟩,ho2,hc2,n2,hd2⟩:=id p2
  simp only at hc hd hc2 hd2
  subst hc hd hc2 hd2
  have lx:PH (us++ws).toArray.toList its2.toArray.toList (us++ws).toArray.size its2.toArray.size (A4 ks ms):=by
    refine ⟨⟨us,ws,by simp,?_,f1,by simpa using f2,fun i x y e1 e2=>?_,by simp [k1,k2]⟩,by simp;omega⟩
    · rcases hz with rfl|hz
      · exact .inl (List.eq_nil_of_length_eq_zero (by simpa using l3.symm))
      · exact .inr (by simp;omega)
    · refine hs i _ _ (by rw [← k1, List.getElem?_map, e1]; rfl) (by rw [← k2, List.getElem?_map]; have e2 : its2[i]? = some y := by simpa using e2
                                                                     rw [e2];rfl)
  exact richCompare_meets_room (op:=.Lt) ⟨_,ho,rfl⟩ ⟨_,ho2,rfl⟩ PySem.F.slot_tuple_lt PySem.F.entry_tuple_lt (PySem.F.args_tuple_lt_2 _ _) (Kc a b _ _ n n2 dd dd2 sl sl2 _ lx)
    ⟨ho,ho2,show Value.bool (A4 ks ms)≠Value.notImplemented/\EP X pins σ Q (.bool (A4 ks ms)) s from ⟨(fun x=>nomatch x),⟨.bl _,H,I,rfl,q⟩⟩⟩ hu
end
def Rws (H:Hp) (xs:List V) (kss:List (List Key)):Prop:=Paired (fun x ks=>∃a,x=.ref a/\H a=some (.tup (ks.map kV))) xs kss
def Tp (H H':Hp):Prop:=∀p xs,H p=some (.tup xs)→H' p=some (.tup xs)
theorem AK.tp {H H':Hp}(s:AK H H'):Tp H H':=fun p xs e=>s _ _ e
theorem Tp.refl (H:Hp):Tp H H:=fun _ _ h=>h
theorem Tp.trans {H H1 H2:Hp}(a:Tp H H1) (b:Tp H1 H2):Tp H H2:=fun p xs e=>b _ _ (a _ _ e)
theorem Tp.upd {H H':Hp}{b:Addr}{o u:HO}(t:Tp H H') (h:H' b=some u) (hn:∀xs,u≠.tup xs):Tp H (L2.upd H' b o):=fun p xs e=>by
 have e:=t p xs e
 have:p≠b:=fun z=>by rw [z,h] at e;exact hn xs (Option.some.inj e)
 rw [AO this]
 exact e
theorem AV {α β:Type}{F G:α→β→Prop}(h:∀a b,F a b→G a b):∀{l:List α}{m:List β},Paired F l m→Paired G l m
 | _,_,.nil=>.nil
 | _,_,.cons a r=>.cons (h _ _ a) (AV h r)
theorem AW {α β:Type}{F:α→β→Prop}:∀{l l':List α}{m m':List β},Paired F l m→Paired F l' m'→Paired F (l++l') (m++m')
 | _,_,_,_,.nil,h=>h
 | _,_,_,_,.cons a r,h=>.cons a (AW r h)
theorem Hw {α β:Type}{F:α→β→Prop}:∀{l:List α}{m:List β}(n:Nat),Paired F l m→Paired F (l.take n) (m.take n)
 | _,_,0,_=>.nil
 | _,_,_+1,.nil=>.nil
 | _,_,n+1,.cons a r=>.cons a (Hw n r)
theorem DP {α β:Type}{F:α→β→Prop}:∀{l:List α}{m:List β}(n:Nat),Paired F l m→Paired F (l.drop n) (m.drop n)
 | _,_,0,h=>h
 | _,_,_+1,.nil=>.nil
 | _,_,n+1,.cons a r=>DP n r
theorem Rws.keep {H H':Hp}{xs:List V}{kss:List (List Key)}(h:Rws H xs kss) (t:Tp H H'):Rws H' xs kss:=AV (fun x ks ⟨a,e,q⟩=>⟨a,e,t _ _ q⟩) h
theorem Rws.len {H:Hp}{xs:List V}{kss:List (List Key)}(h:Rws H xs kss):xs.length=kss.length:=(AN h).1
theorem Rws.at {H:Hp}{xs:List V}{kss:List (List Key)}(h:Rws H xs kss) {i:Nat}{x:V}(e:xs[i]?=some x):∃a ks,x=.ref a/\kss[i]?=some ks/\H a=some (.tup (ks.map kV)):=by
 have hi:=(List.getElem?_eq_some_iff.mp e).1
 have e2:kss[i]?=some (kss[i]'(by rw [←h.len];exact hi)):=List.getElem?_eq_getElem _
 obtain ⟨a,ea,q⟩:=(AN h).2 i _ _ e e2
 exact ⟨a,_,ea,e2,q⟩
theorem Rws.snoc {H:Hp}{xs:List V}{kss:List (List Key)}{p:Addr}{ks:List Key}(h:Rws H xs kss) (e:H p=some (.tup (ks.map kV))):Rws H (xs++[.ref p]) (kss++[ks]):=AW h (.cons ⟨p,rfl,e⟩ .nil)
theorem D9 (H:Hp):Rws H [] []:=Paired.nil
def kD:Key→PyData
 | .inl i=>.int i
 | .inr x=>.str x
def ktD (ks:List Key):PyData:=.tuple (ks.map kD)
def kOk:Key→Bool
 | .inl _=>true
 | .inr x=>PyData.strOk x
def Ek (ks:List Key):Bool:=ks.all kOk
theorem Dr {K:PySem.W.Frag}{H:Hp}:∀ks:List Key,Dvs K H (ks.map kV) (ks.map kD)
 | []=>.nil
 | .inl i::r=>.cons (.int i) (Dr r)
 | .inr x::r=>.cons (.str x) (Dr r)
theorem Rws.dvs {K:PySem.W.Frag}{H:Hp}:∀{xs:List V}{kss:List (List Key)},Rws H xs kss→Dvs K H xs (kss.map ktD)
 | _,_,Paired.nil=>.nil
 | _,_,Paired.cons ⟨a,e,q⟩ r=>by
  subst e
  exact .cons (.tup (SqT.of q) (Dr _)) (Rws.dvs r)
theorem FQ:∀ks:List Key,Ek ks=true→PyData.canLayAll0 (ks.map kD)=true/\PyData.depthAll (ks.map kD)=0
 | [],_=>⟨rfl,rfl⟩
 | k::r,h=>by
  have h:(kOk k&&Ek r)=true:=h
  obtain ⟨h1,h2⟩:=Bool.and_eq_true_iff.mp h
  obtain ⟨a,b⟩:=FQ r h2
  cases k with
  | inl i=>simp [kD,PyData.canLayAll0,PyData.canLay0,PyData.depthAll,PyData.depth,a,b]
  | inr x =>
   have h1:PyData.strOk x=true:=h1
   simp [kD,PyData.canLayAll0,PyData.canLay0,PyData.depthAll,PyData.depth,a,b,h1]
theorem Jn:∀kss:List (List Key),(∀ks∈kss,Ek ks=true)→PyData.canLayAll0 (kss.map ktD)=true/\PyData.depthAll (kss.map ktD)≤1
 | [],_=>⟨rfl,by decide⟩
 | ks::r,h=>by
  obtain ⟨a,b⟩:=Jn r fun z hz=>h z (List.mem_cons_of_mem _ hz)
  obtain ⟨c,d⟩:=FQ ks (h ks List.mem_cons_self)
  refine ⟨by simp [ktD,PyData.canLayAll0,PyData.canLay0,a,c],?_⟩
  simp [ktD,PyData.depthAll,PyData.depth,d]
  omega
theorem D6 {ks:List Key}(h:Ek ks=true):SeqAt.shaped (ktD ks)=true:=by
 obtain ⟨a,b⟩:=FQ ks h
 simp [ktD,SeqAt.shaped,PyData.canLay0,PyData.depth,a,b]
theorem Rws.dv {K:PySem.W.Frag}{H:Hp}{l:Addr}{xs:List V}{kss:List (List Key)}(h:Rws H xs kss) (e:H l=some (.lst xs)):Dv K H (.ref l) (.list (kss.map ktD)):=.lst (SqL.of e) h.dvs
def Sd (kss:List (List Key)):Prop:=kss.Pairwise fun a b=>A4 b a=false
end L2
namespace L2
open PySem PySem.Spec PyProof.Rows
theorem C1 {K:PySem.W.Frag}{a:Addr}{n0:Nat}{fr:List Nat}{g:TG}{tt:TT}{te:TE}{σ:St}{H:Hp}{Q:VK}{xs:List V}(Pv:Nat→St→List V→Hp→Prop) (hn:xs.length≤sizeLine)
  (h0:Pv 0 (List.replicate n0 none++fr.map (pick σ)) [] H) (hl:∀i τ acc H1,Pv i τ acc H1→SqL K H1 a xs)
  (hs:∀(i:Nat) x τ acc H1 (R1:V→St→Hp→Prop) (R0:St→Hp→Prop),xs[i]?=some x→acc.length≤i→Pv i τ acc H1→(∀y τ' H2,Pv (i+1) τ' (acc++[y]) H2→R1 y τ' H2)→(∀τ' H2,Pv (i+1) τ' acc H2→R0 τ' H2) →
   g x τ H1 fun τ1 H2=>tt τ1 H2 fun b H3=>if b=true then te τ1 H3 fun y H4=>R1 y τ1 H4 else R0 τ1 H3)
  (hd:∀τ acc H1,acc.length≤xs.length→Pv xs.length τ acc H1→∀D,H1 D=none→Q (.ref D) (upd H1 D (.lst acc))) :
  HE n0 fr g tt te σ Q (Itl K a) H:=by
 refine ⟨fun i m τ acc H'=>m=xs.length-i/\i≤xs.length/\acc.length≤i/\Pv i τ acc H',⟨xs.length,by simp,Nat.zero_le _,Nat.zero_le _,h0⟩,?_⟩
 rintro i m τ acc H' ⟨rfl,hi,ha,p⟩
 have q:=hl i τ acc H' p
 by_cases hlt:i<xs.length
 ·refine .inr ⟨⟨xs,xs[i],q,by simp [hlt]⟩,by omega,fun x H1 y=>?_⟩
  obtain ⟨e,y⟩:=y
  subst e
  have ex:=y xs q
  exact hs i x τ acc _ (fun y τ1 H4=>∃m',m'<xs.length-i/\m'=xs.length-(i+1)/\i+1≤xs.length/\(acc++[y]).length≤i+1/\Pv (i+1) τ1 (acc++[y]) H4) (fun τ1 H3=>∃m',m'<xs.length-i/\m'=xs.length-(i+1)/\i+1≤xs.length/\acc.length≤i+1/\Pv (i+1) τ1 acc H3) ex ha p
   (fun y τ' H2 h=>⟨_,by omega,rfl,hlt,by rw [List.length_append,List.length_singleton];omega,h⟩) fun τ' H2 h=>⟨_,by omega,rfl,hlt,by omega,h⟩
 ·have e:i=xs.length:=by omega
  subst e
  exact .inl ⟨⟨xs,q,Nat.le_refl _⟩,hd τ acc H' ha p⟩
theorem A5 {K:PySem.W.Frag}{a:Addr}{n0:Nat}{fr:List Nat}{g:TG}{te:TE}{σ:St}{H:Hp}{Q:VK}{xs:List V}(Pv:Nat→St→List V→Hp→Prop) (hn:xs.length≤sizeLine)
  (h0:Pv 0 (List.replicate n0 none++fr.map (pick σ)) [] H) (hl:∀i τ acc H1,Pv i τ acc H1→SqL K H1 a xs)
  (hs:∀(i:Nat) x τ acc H1 (R1:V→St→Hp→Prop),xs[i]?=some x→acc.length≤i→Pv i τ acc H1→(∀y τ' H2,Pv (i+1) τ' (acc++[y]) H2→R1 y τ' H2)→g x τ H1 fun τ1 H2=>te τ1 H2 fun y H4=>R1 y τ1 H4)
  (hd:∀τ acc H1,acc.length≤xs.length→Pv xs.length τ acc H1→∀D,H1 D=none→Q (.ref D) (upd H1 D (.lst acc))) :
  HE n0 fr g Q2 te σ Q (Itl K a) H:=by
 refine C1 (K:=K) (xs:=xs) Pv hn h0 hl (fun i x τ acc H1 R1 R0 e1 e2 p k1 _=>?_) hd
 have e:(fun (τ1:St) (H2:Hp)=>Q2 τ1 H2 fun b H3=>if b=true then te τ1 H3 fun y H4=>R1 y τ1 H4 else R0 τ1 H3)=fun τ1 H2=>te τ1 H2 fun y H4=>R1 y τ1 H4:=by
  funext τ1 H2
  show (if true=true then te τ1 H2 fun y H4=>R1 y τ1 H4 else R0 τ1 H2)=_
  rw [if_pos rfl]
 rw [e]
 exact hs i x τ acc H1 R1 e1 e2 p k1
section
variable {X:Cx}
end
section
variable {κ:Type}[DecidableEq κ]
theorem FO {kvs:List (κ×V)}{k:κ}{v:V}{q:κ×V}(h:q∈putK kvs k v):q=(k,v)\/(q∈kvs/\q.1≠k):=by
 unfold putK at h
 split at h
 ·obtain ⟨p,hp,e⟩:=List.mem_map.mp h
  by_cases z:p.1=k
  ·rw [if_pos z] at e;rw [←e,z];exact .inl rfl
  ·rw [if_neg z] at e;rw [←e];exact .inr ⟨hp,z⟩
 ·rename_i hn
  rcases List.mem_append.mp h with h|h
  ·refine .inr ⟨h,fun z=>hn (List.any_eq_true.mpr ⟨q,h,decide_eq_true z⟩)⟩
  ·exact .inl (List.mem_singleton.mp h)
theorem HZ (kvs:List (κ×V)) (k:κ) (v:V):(putK kvs k v).map (·.1)=if k∈kvs.map (·.1) then kvs.map (·.1) else kvs.map (·.1)++[k]:=by
 by_cases h:k∈kvs.map (·.1)
 ·rw [if_pos h]
  obtain ⟨p,hp,e⟩:=List.mem_map.mp h
  unfold putK
  rw [if_pos (List.any_eq_true.mpr ⟨p,hp,decide_eq_true e⟩),List.map_map]
  refine List.map_congr_left fun q _=>?_
  show (if q.1=k then (q.1,v) else q).1=q.1
  split <;> rfl
 ·rw [if_neg h]
  unfold putK
  rw [if_neg (fun q=>?_),List.map_append]
  ·rfl
  ·obtain ⟨p,hp,e⟩:=List.any_eq_true.mp q
   exact h (List.mem_map.mpr ⟨p,hp,of_decide_eq_true e⟩)
theorem Jc {kvs:List (κ×V)}{k:κ}{v:V}(h:(kvs.map (·.1)).Nodup):((putK kvs k v).map (·.1)).Nodup:=by
 rw [HZ]
 split
 ·exact h
 ·rename_i hn
  exact Om h hn
theorem Gp (kvs:List (κ×V)) (k:κ) (v:V):(putK kvs k v).length≤kvs.length+1:=by
 have e:=congrArg List.length (HZ kvs k v)
 rw [List.length_map] at e
 rw [e]
 split
 ·rw [List.length_map];omega
 ·rw [List.length_append,List.length_map];simp
theorem EK {kvs:List (κ×V)}{k:κ}{v:V}(h:BL kvs k=some v):(k,v)∈kvs:=by
 unfold BL at h
 obtain ⟨p,h1,h2⟩:=Option.map_eq_some_iff.mp h
 have:=List.find?_some (p:=fun kv:κ×V=>decide (kv.1=k)) h1
 have e:p.1=k:=of_decide_eq_true this
 rw [←e,←h2]
 exact List.mem_of_find?_eq_some h1
theorem LV {kvs:List (κ×V)}{k:κ}(h:k∈kvs.map (·.1)):∃v,BL kvs k=some v:=by
 cases e:BL kvs k with
 | some v=>exact ⟨v,rfl⟩
 | none=>exact absurd h (Qu e)
end
theorem Em {α:Type}{p:α→Bool}:∀{l:List α}{n m:Nat},(∀(i:Nat) x,l[i]?=some x→(p x=true↔n≤i/\i<m))→(l.drop n).take (m-n)=l.filter p
 | [],n,m,_=>by simp
 | x::l,0,0,h=>by
  have h0:=h 0 x rfl
  have ih:=Em (l:=l) (n:=0) (m:=0) fun i y e=>(h (i+1) y (by simpa using e)).trans (by omega)
  rw [List.filter_cons,if_neg (fun z=>by have:=h0.mp z;omega),←ih]
  rfl
 | x::l,0,m+1,h=>by
  have h0:=h 0 x rfl
  have ih:=Em (l:=l) (n:=0) (m:=m) fun i y e=>(h (i+1) y (by simpa using e)).trans (by omega)
  rw [List.filter_cons,if_pos (h0.mpr ⟨Nat.le_refl _,Nat.succ_pos _⟩),←ih]
  rfl
 | x::l,n+1,m,h=>by
  have h0:=h 0 x rfl
  have ih:=Em (l:=l) (n:=n) (m:=m-1) fun i y e=>(h (i+1) y (by simpa using e)).trans (by omega)
  rw [List.filter_cons,if_neg (fun z=>by have:=h0.mp z;omega),←ih,List.drop_succ_cons]
  congr 1
  omega
def Fz (d:Addr) (H H':Hp):Prop:=∀b o,b≠d→H b=some o→H' b=some o
theorem AK.x {H H':Hp}(s:AK H H') (d:Addr):Fz d H H':=fun b o _ e=>s b o e
end L2
namespace Rev
open PySem PySem.Builtin PySem.W PyProof.Rows
section
variable {prog:Program}{w:World}{A:Around}{E:Value→Shared→Prop}{s:Shared}{I:Addr}{fp wr:List Addr}{G:Array GenState→Array GenState→Prop}{n:Nat}{P:Nat→Value→Prop}{St:Nat→Shared→Prop}{Live:Shared→Prop}
end
end Rev
namespace L2
open PySem PySem.Spec PyProof.Rows
section
variable {X:Cx}{K:PySem.W.Frag}
end
end L2
namespace L2
open PySem PySem.Spec PyProof.Rows
section
variable {X:Cx}{K:PySem.W.Frag}
end
theorem DC.UY {k:Nat}{A:Around}(r:DC k A):A.in1.units+64<cLine:=by
 have:=r.un
 have e:A.in1.units≤A.units+1:=by first|exact Nat.le_refl _|(simp [Around.in1];omega)
 omega
end L2
namespace Sdf
open PySem PySem.Spec PyProof.Rows
section
variable {prog:Program}{w:World}{K:Type}[DecidableEq K] {knd:KeyKind prog w K}{A:Around}{E:Value→Shared→Prop}{s:Shared}
theorem HG {d:Addr}{kvs:List (K×Value)}{k:K}{key dflt:Value}{Q:Value→Shared→Prop}(hkey:knd.is k key=true) (hm:s.heap.DictOf knd d kvs)
  (hthere:∀v,valueAt kvs k=some v→Q v { s with toks:=s.toks+1 })
  (hnew:valueAt kvs k=none→∀h',h'.DictOf knd d (stored kvs k dflt)→Heap.SameBut d s.heap h'→Q dflt { s with heap:=h',toks:=s.toks+1 })
  (hsz:kvs.length≤sizeLine) :
  wpAny (model prog w) A (dictSetDefault d key dflt) Q E s:=by
 have hmo:=hm.mapOf
 obtain ⟨o,es,ep,ho,hc,hd,hk,hp,hn⟩:=hm
 have hf:∀x,findBy knd.is es x=valueAt kvs x:=fun x=>by
  rw [←hp.find x]
  obtain ⟨l⟩:=es
  simp [findBy]
 have hes:es.size≤sizeLine:=by
  have e1:=hp.length
  have e2:es.toList.length=es.size:=by simp
  omega
 unfold dictSetDefault
 try with_reducible refine wpAny_holding ?_
 refine wpAny_bind (knd.pyHash hkey ?_)
 refine wpAny_bind (wpAny_dictFind_of (s:={ s with toks:=s.toks+1 }) hkey ho hd hk ?_)
 have hidx:(es.findIdx? fun e=>knd.is k e.key)=kvs.findIdx? fun kv=>decide (kv.1=k):=by
  rw [←hp.findIdx k];obtain ⟨l⟩:=es;simp
 cases hi:es.findIdx? fun e=>knd.is k e.key with
 | some i =>
  have hfk:valueAt kvs k=(es[i]?).map (·.val):=by rw [←hf k,findBy_of_findIdx?,hi]
  refine wpAny_bind (wpAny_dictEntries (s:={ s with toks:=s.toks+1 }) ho hd ?_)
  cases he:es[i]? with
  | none =>
   exfalso
   have:=Array.findIdx?_eq_some_iff_findIdx_eq.mp hi
   have hlt:i<es.size:=this.1
   rw [Array.getElem?_eq_getElem hlt] at he
   exact nomatch he
  | some e =>
   rw [he] at hfk
   exact wpAny_bind (wpAny_rule (wpAny_pure (hthere e.val hfk)))
 | none =>
  have hfk:valueAt kvs k=none:=by rw [←hf k,findBy_of_findIdx?,hi]
  have hnot:k∉kvs.map (·.1):=not_mem_of_findIdx_none (hidx ▸ hi)
  have hany:¬ (kvs.any fun kv=>decide (kv.1=k))=true:=by
   rw [List.any_eq_true];rintro ⟨kv,hkv,he⟩
   exact hnot (List.mem_map.mpr ⟨kv,hkv,of_decide_eq_true he⟩)
  refine wpAny_bind (wpAny_rule (wpAny_bind (wpAny_updateDictKeys (hz:=hes) (s:={ s with toks:=s.toks+1 }) ho hd (wpAny_pure (hnew hfk _ ⟨_,_,ep+1,Heap.get?_update_self _ ho (Obj.isFreed_of_dict (Obj.data_mapDictKeys hd _)),
   hc.mapDictKeys _,Obj.data_mapDictKeys hd _,hk.push hkey _,?_,?_⟩ (Heap.SameBut.update ..))))))
  ·rw [stored,if_neg hany]
   have:=hp.append hkey (knd.hash k) dflt
   obtain ⟨l⟩:=es
   simpa using this
  ·rw [stored,if_neg hany,List.map_append,List.nodup_append]
   refine ⟨hn,by simp,?_⟩
   intro a ha b hb
   simp only [List.map_cons,List.map_nil,List.mem_singleton] at hb
   subst hb
   exact fun e=>hnot (e ▸ ha)
theorem HW {d:Addr}{k:K}{key:Value}(hkey:knd.is k key=true) (hd:(d==sysModules)=false) (dflt:Value) :
  MeetsIn prog w (Builtin.«dict.setdefault» ⟨[.ref d,key,dflt],[]⟩) (fun _ R s=>∃kvs,s.heap.DictOf knd d kvs/\kvs.length≤sizeLine/\(∀v,valueAt kvs k=some v→R (.ok (.ret v)) { s with toks:=s.toks+1 }) /\
   (valueAt kvs k=none→∀h',h'.DictOf knd d (stored kvs k dflt)→Heap.SameBut d s.heap h'→R (.ok (.ret dflt)) { s with heap:=h',toks:=s.toks+1 })) :=
 .of_wp fun A R s ⟨kvs,hm,hsz,h1,h2⟩=>by
  unfold Builtin.«dict.setdefault»
  refine wpAny_bind ?_
  unfold Builtin.Dict.keyAndDefault
  refine wpAny_bind (wpAny_notOrdered_dict hm.typeIs ?_)
  show wpAny _ _ (pure (d,key,some dflt)) _ _ s
  refine wpAny_pure ?_
  simp only [hd,Bool.false_eq_true,if_false]
  exact wpAny_bind (HG hkey hm (fun v hv=>wpAny_pure ⟨v,rfl,h1 v hv⟩) (fun hn h' hm' hs'=>wpAny_pure ⟨dflt,rfl,h2 hn h' hm' hs'⟩) hsz)
end
end Sdf
namespace L2
open PySem PySem.Spec PyProof.Rows
section
variable {X:Cx}{o e f:Expr}{apos cpos:Pos}{td ty tx:TE}
def Uc (td ty tx:TE):TE:=fun σ H Q=>td σ H fun x H1=>∃a,x=.ref a/\IsD H1 a/\ty σ H1 fun y H2=>tx σ H2 fun z H3=>∃kvs k,H3 a=some (.dK kvs)/\y=kV k/\kvs.length<sizeLine /\
 (∀v,BL kvs k=some v→Q v H3)/\(BL kvs k=none→Q z (upd H3 a (.dK (putK kvs k z))))
theorem Ri (ho:PE X o td) (he:PE X e ty) (hf:PE X f tx) (m:M2 X o "setdefault" apos e f cpos):PE X (.Call (.Attribute o "setdefault" apos) [e,f] [] cpos) (Uc td ty tx):=by
 intro pins s σ H Q I h
 refine wpAny_Call_method m.base m.few m.line PySem.F.plainAttrs_dict PySem.F.slot_dict_setdefault PySem.F.type_dict_setdefault (thn (ho pins s σ H _ I h) fun u s1 ⟨x,H1,I1,rx,a,ex,d,q1⟩=>?_)
 subst ex
 obtain rfl:u=Value.ref a:=rx
 obtain ⟨t1,t2,_⟩:=SS I1 d
 refine ⟨t1,t2,?_⟩
 rw [m.trees]
 refine Calls.callWith_builtin rfl (Calls.evalArgs_plain (Calls.spliced_cons (thn (he pins s1 σ H1 _ I1 q1) fun iv s2 ⟨y,H2,I2,ry,q2⟩ =>
  Calls.spliced_cons (thn (hf pins s2 σ H2 _ I2 q2) fun fv s3 ⟨z,H3,I3,rz,kvs,k,ea,ey,hl,q3,q4⟩=>Calls.spliced_nil ?_))))
 subst ey
 obtain ⟨zz,hd,vs,rel,dd⟩:=NQ I3.hok ea
 refine call_meetsIn PySem.F.slot_dict_setdefault dd.typeIs PySem.F.entry_dict_setdefault (PySem.F.args_dict_setdefault_3 _ _ _) (Sdf.HW (knd:=Ah X.prog X.w) (K0 ry) hd fv) ⟨vs,dd,by rw [←rel.length];exact zz,fun w' hw=>?_,fun hn h' dd' hs=>?_⟩
 ·cases l:BL kvs k with
  | none=>have:=E6.none_of (o:=valueAt vs k) (by rw [←l];exact rel.val k);rw [hw] at this;cases this
  | some v =>
   obtain ⟨w2,hw2,rw2⟩:=E6.some_of (v:=v) (o:=valueAt vs k) (by rw [←l];exact rel.val k)
   rw [hw] at hw2
   cases hw2
   exact ⟨v,H3,I3.tok _,rw2,q3 v l⟩
 ·have l:BL kvs k=none:=by
   cases l:BL kvs k with
   | none=>rfl
   | some v =>
    obtain ⟨w2,hw2,_⟩:=E6.some_of (v:=v) (o:=valueAt vs k) (by rw [←l];exact rel.val k)
    rw [hn] at hw2
    cases hw2
  have he:∃q,h'.get? a=some q:=let ⟨q,_,_,hq,_⟩:=dd';⟨q,hq⟩
  have hl2:(putK kvs k z).length≤sizeLine:=by have:=ED kvs k z;omega
  exact ⟨z,_,IU I3 (by rw [ea];exact True.intro) hs he (ON hl2 hd (rel.put k rz) dd'),rz,q4 l⟩
end
end L2
namespace Upk
open PySem PySem.Spec PyProof.Rows
section
variable {prog:Program}{w:World}{A:Around}{E:Value→Shared→Prop}{s:Shared}
end
end Upk
namespace L2
open PySem PySem.Spec PyProof.Rows
section
variable {X:Cx}{pos:Pos}
end
end L2
namespace L2
open PySem PySem.Spec PyProof.Rows
section
variable {X:Cx}
end
section
variable {X:Cx}{e:Expr}{es:List Expr}{te:TX}{pos:Pos}
end
section
variable {prog:Program}{w:World}{A:Around}{E:Value→Shared→Prop}{s:Shared}
end
section
variable {X:Cx}{o value lo hi:Expr}{pos pos' p2:Pos}{td tv:TE}{tl th:TO}
end
section
variable {prog:Program}{w:World}{A:Around}{E:Value→Shared→Prop}{s:Shared}
end
section
variable {X:Cx}
end
section
theorem KP {K:PySem.W.Frag}{a:Addr}{fr:List Nat}{tt:TT}{te:TE}{σ:St}{H:Hp}{Q:VK}{xs:List V}(p:V→Bool) (f:V→V) (hq:SqT K H a xs) (hn:xs.length≤sizeLine)
  (htt:∀x (R:Bool→Hp→Prop),x∈xs→R (p x) H→tt (some x::fr.map (pick σ)) H R)
  (hte:∀x (R:VK),x∈xs→p x=true→R (f x) H→te (some x::fr.map (pick σ)) H R)
  (hd:∀D,H D=none→Q (.ref D) (upd H D (.lst ((xs.filter p).map f)))) :
  HE 1 fr (Ct 0) tt te σ Q (Itt K a) H :=
 LF xs p f hn (fun i hi=>⟨xs,xs[i],hq,by simp [hi]⟩) ⟨xs,hq,Nat.le_refl _⟩ (fun i x H' _ y=>⟨y.1,y.2 xs hq⟩) htt hte hd
end
section
theorem NV {lo:Int}{n n0:Nat}{fr:List Nat}{g:TG}{te:TE}{σ:St}{H:Hp}{Q:VK}(Pv:Nat→St→List V→Hp→Prop) (hn:n≤sizeLine)
  (h0:Pv 0 (List.replicate n0 none++fr.map (pick σ)) [] H)
  (hs:∀(i:Nat) τ acc H1 (R1:V→St→Hp→Prop),i<n→acc.length≤i→Pv i τ acc H1→(∀y τ' H2,Pv (i+1) τ' (acc++[y]) H2→R1 y τ' H2)→g (.int (lo+i)) τ H1 fun τ1 H2=>te τ1 H2 fun y H4=>R1 y τ1 H4)
  (hd:∀τ acc H1,acc.length≤n→Pv n τ acc H1→∀D,H1 D=none→Q (.ref D) (upd H1 D (.lst acc))) :
  HE n0 fr g Q2 te σ Q (Itr lo n) H:=by
 refine ⟨fun i m τ acc H'=>m=n-i/\i≤n/\acc.length≤i/\Pv i τ acc H',⟨n,by simp,Nat.zero_le _,Nat.zero_le _,h0⟩,?_⟩
 rintro i m τ acc H' ⟨rfl,hi,ha,p⟩
 by_cases hlt:i<n
 ·refine .inr ⟨hlt,by omega,fun x H1 y=>?_⟩
  obtain ⟨e1,e2⟩:=y
  subst e1 e2
  have e:(fun (τ1:St) (H2:Hp)=>Q2 τ1 H2 fun b H3=>if b=true then te τ1 H3 fun y H4=>∃m',m'<n-i/\m'=n-(i+1)/\i+1≤n/\(acc++[y]).length≤i+1/\Pv (i+1) τ1 (acc++[y]) H4 else ∃m',m'<n-i/\m'=n-(i+1)/\i+1≤n/\acc.length≤i+1/\Pv (i+1) τ1 acc H3)=fun τ1 H2=>te τ1 H2 fun y H4=>∃m',m'<n-i/\m'=n-(i+1)/\i+1≤n/\(acc++[y]).length≤i+1/\Pv (i+1) τ1 (acc++[y]) H4:=by
   funext τ1 H2
   show (if true=true then (te τ1 H2 fun y H4=>∃m',m'<n-i/\m'=n-(i+1)/\i+1≤n/\(acc++[y]).length≤i+1/\Pv (i+1) τ1 (acc++[y]) H4) else ∃m',m'<n-i/\m'=n-(i+1)/\i+1≤n/\acc.length≤i+1/\Pv (i+1) τ1 acc H2)=_
   rw [if_pos rfl]
  rw [e]
  exact hs i τ acc _ (fun y τ1 H4=>∃m',m'<n-i/\m'=n-(i+1)/\i+1≤n/\(acc++[y]).length≤i+1/\Pv (i+1) τ1 (acc++[y]) H4) hlt ha p (fun y τ' H2 h=>⟨_,by omega,rfl,hlt,by rw [List.length_append,List.length_singleton];omega,h⟩)
 ·have e:i=n:=by omega
  subst e
  exact .inl ⟨Nat.le_refl _,hd τ acc H' ha p⟩
end
end L2
namespace L2
open PySem PySem.Spec PyProof.Rows
section
variable {X:Cx}
end
section
variable {X:Cx}
end
end L2
namespace L2
open PySem PySem.Spec PyProof.Rows
section
variable {X:Cx}{pins:List (Addr×Obj)}{σ:St}{k:Nat}{f:Addr}{fd:FuncData}{ps:List Str}{sp:Sp}
def W0 (H:Hp) (us:List Value) (kss:List (List Key)):Prop:=us.length=kss.length/\∀(i:Nat) u ks,us[i]?=some u→kss[i]?=some ks→∃q,u=.ref q/\H q=some (.tup (ks.map kV))
end
section
variable {X:Cx}{k:Nat}{f:Addr}{fd:FuncData}{ps:List Str}{sp:Sp}{x y:Str}{p p2 pk pos:Pos}{e:Expr}{t:TE}{K:PySem.W.Frag}
end
end L2
namespace L2
open PySem PySem.Spec PyProof.Rows
def Qn (o:Obj) (kvs:List (Key×V)) (d:Addr):It :=
 ⟨fun i H=>H d=some (.frz o (.dK kvs))/\i<kvs.length,fun i H x H'=>H'=H/\∃p,kvs[i]?=some p/\x=kV p.1,fun i H=>H d=some (.frz o (.dK kvs))/\kvs.length≤i⟩
theorem SY {P:Program}{w:World}{H:Hp}{h:Heap}{d:Addr}{o:Obj}{kvs:List (Key×V)}{es:Array DictEntry}{ep:Nat}(ok:HOk P w H h) (e:H d=some (.frz o (.dK kvs))) (hd:o.data=.dict es ep) :
  ∃vs,KV kvs vs/\h.DictAt (Ah P w) d vs ep:=by
 obtain ⟨ho,z,lo,vs,rel,o',es',ep',ho',hx,hd',r⟩:=(show BB P w H h d (.frz o (.dK kvs)) from ok d _ e)
 rw [ho] at ho'
 cases ho'
 rw [hd] at hd'
 cases hd'
 exact ⟨vs,rel,o,es,ho,hx,hd,r⟩
theorem Nj {P:Program}{w:World}{K:PySem.W.Frag}{tg:Expr}(d it:Addr) {o:Obj}{kvs:List (Key×V)}{es:Array DictEntry}{ep:Nat}(hd:o.data=.dict es ep):Turn P w K tg (Qn o kvs d) [it] it (fun i h=>h.IsKeyIter it d i kvs.length ep) where
 mem:=by simp
 obj:=fun i h st b hb=>by
  have e:b=it:=by simpa using hb
  subst e
  obtain ⟨o,e,c,d⟩:=st
  exact ⟨o,e,fun v z=>by rw [d] at z;cases z⟩
 keep:=fun i h h' st k=>st.at fun o e=>k it (by simp) o e
 item:=by
  intro X hP hw hK hc i pins s σ H E I hf st hg
  subst hP hw hK
  obtain ⟨e,hi⟩:=hg
  obtain ⟨vs,rel,hat⟩:=SY I.hok e hd
  have hl:kvs.length=vs.length:=Paired.length rel
  have hx:vs[i]?=some (vs[i]'(by omega)):=List.getElem?_eq_getElem (by omega)
  have hp:kvs[i]?=some kvs[i]:=List.getElem?_eq_getElem hi
  have pr:=JT rel hp hx
  generalize kvs[i]=p at hp pr
  generalize vs[i]'(by omega)=q at hx pr
  obtain ⟨k,x⟩:=q
  obtain ⟨f0,f1,f2,f3,f4,f5⟩:=hf it (by simp)
  rw [hl] at st
  refine wpAny_pyNext_dict_item st hat hx fun key h' hkey st' sb=>?_
  have I1:Inv X pins σ H { s with heap:=h' }:=I.turned (t':=s.toks) (fun b o hb e=>(sb.2 b hb).trans e) f0 f1 f3 f4 f5
  obtain ⟨o',e',c',d'⟩:=id st'
  rw [←hl] at st'
  have hk:p.1=k:=pr.1
  exact ⟨key,rfl,O0 (s:={ s with heap:=h' }) e' c' d' (by decide) ⟨kV p.1,H,I1,by rw [hk];exact Ox hkey,⟨rfl,p,hp,rfl⟩,st',fun b hb=>(hf b hb).1⟩⟩
 done:=by
  intro X hP hw hK hc i pins s σ H E I hf st hg
  subst hP hw hK
  obtain ⟨e,hi⟩:=hg
  obtain ⟨vs,rel,hat⟩:=SY I.hok e hd
  have hl:kvs.length=vs.length:=Paired.length rel
  obtain ⟨f0,f1,f2,f3,f4,f5⟩:=hf it (by simp)
  rw [hl] at st
  exact wpAny_pyNext_dict_end (I.ok.hd hc) st hat (by simp;omega) fun h' eb=>⟨rfl,I.turned (t':=s.toks) (fun b o hb e=>eb b o hb e) f0 f1 f3 f4 f5⟩
 self:=fun _ _ _ _ _ st h=>wpAny_pyIter_keyiter st h
section
variable {X:Cx}
def VU (tl:TE):TI:=fun σ H R=>tl σ H fun x H1=>∃a kvs,x=.ref a/\Rd H1 a (.dK kvs)/\∀o H2,H2 a=some (.frz o (.dK kvs))→(∀b,b≠a→H2 b=H1 b)→R (Qn o kvs a) H2
theorem Rf {tg l:Expr}{tl:TE}(hl:PE X l tl):PI X tg l (VU tl):=by
 intro pins s σ H R I h
 refine thn (hl pins s σ H _ I h) fun v s1 ⟨x,H1,I1,r1,q1⟩=>?_
 obtain ⟨a,kvs,e,q0,q⟩:=q1
 subst e
 cases r1
 obtain ⟨o,H2,I2,e2,q2,f2⟩:∃o H2,Inv X pins σ H2 s1/\H2 a=some (.frz o (.dK kvs))/\R (Qn o kvs a) H2/\∀b,H1 b=none→H2 b=none:=by
  rcases q0 with e|⟨o,e⟩
  ·obtain ⟨z,lo,vs,rel,o,es,ep,ho,hx,hd,r⟩:=(show BB X.prog X.w H1 s1.heap a (.dK kvs) from I1.hok a _ e)
   refine ⟨o,upd H1 a (.frz o (.dK kvs)),?_,AE,q o _ AE (fun b hb=>AO hb),fun b hb=>by rw [AO (AM e hb).symm];exact hb⟩
   exact I1.write (t':=s1.toks) (h':=s1.heap) (e:=a) (by rw [e];trivial) (.inl rfl) (fun b u _ q=>q) ⟨o,ho⟩ ⟨ho,z,lo,vs,rel,o,es,ep,ho,hx,hd,r⟩
  ·exact ⟨o,H1,I1,e,q o H1 e fun b _=>rfl,fun b hb=>hb⟩
 obtain ⟨ho,z,lo,vs,rel,o',es,ep,ho',hx,hd,r⟩:=(show BB X.prog X.w H2 s1.heap a (.frz o (.dK kvs)) from I2.hok a _ e2)
 rw [ho] at ho'
 cases ho'
 have hl:kvs.length=vs.length:=Paired.length rel
 refine wpAny_pyIter_dict (knd:=Ah X.prog X.w) lo ⟨o,es,ho,hx,hd,r⟩ ?_
 refine ⟨s1.heap.objs.size,[s1.heap.objs.size],_,_,H2,rfl,I2.kept (t':=s1.toks) fun b o e=>Heap.get?_push_of_some _ e,Nj a _ hd,⟨_,Heap.get?_push_size _ rfl,rfl,by rw [hl];rfl⟩,fun b hb=>?_,q2⟩
 have e:b=s1.heap.objs.size:=by simpa using hb
 subst e
 exact I2.QO (Nat.le_refl _) (I2.hok.fresh (Nat.le_refl _))
end
theorem QP {d:Addr}{o:Obj}{kvs:List (Key×V)}{g:TG}{tb:TS}{D:Ends}{σ:St}{H:Hp}(Pv:Nat→St→Hp→Prop) (h0:Pv 0 σ H) (hl:∀i σ H,i≤kvs.length→Pv i σ H→H d=some (.frz o (.dK kvs)))
  (hs:∀(i:Nat) p σ H,kvs[i]?=some p→Pv i σ H→g (kV p.1) σ H fun σ2 H2=>tb { D with nx:=Pv (i+1),ct:=Pv (i+1),bk:=D.nx } σ2 H2) (hd:∀σ H,Pv kvs.length σ H→D.nx σ H) :
  ∃W:Nat→Nat→St→Hp→Prop,(∃m,W 0 m σ H)/\∀i m σ H,W i m σ H →
   ((Qn o kvs d).stop i H/\D.nx σ H)\/((Qn o kvs d).go i H/\∃N:St→Hp→Prop,(∀σ' H',N σ' H'→∃m',m'<m/\W (i+1) m' σ' H')/\∀x H',(Qn o kvs d).yld i H x H'→g x σ H' fun σ2 H2=>tb { D with nx:=N,ct:=N,bk:=D.nx } σ2 H2):=by
 refine ⟨fun i m σ H=>m=kvs.length-i/\i≤kvs.length/\Pv i σ H,⟨kvs.length,by simp,Nat.zero_le _,h0⟩,?_⟩
 rintro i m σ H ⟨rfl,hi,p⟩
 have q:=hl i σ H hi p
 by_cases hlt:i<kvs.length
 ·refine .inr ⟨⟨q,hlt⟩,Pv (i+1),fun σ' H' p'=>⟨kvs.length-(i+1),by omega,rfl,hlt,p'⟩,fun x H' y=>?_⟩
  obtain ⟨e,pr,hp,rfl⟩:=y
  subst e
  exact hs i pr σ _ hp p
 ·have:i=kvs.length:=by omega
  subst this
  exact .inl ⟨⟨q,Nat.le_refl _⟩,hd σ H p⟩
end L2
namespace Sdf
open PySem PySem.Spec PyProof.Rows
section
variable {prog:Program}{w:World}{K:Type}[DecidableEq K] {knd:HeapKind prog w K}{A:Around}{E:Value→Shared→Prop}{s:Shared}
end
end Sdf
namespace Sdf
open PySem PySem.Spec PyProof.Rows
section
variable {prog:Program}{w:World}{K:Type}[DecidableEq K] {knd:HeapKind prog w K}{A:Around}{E:Value→Shared→Prop}{s:Shared}
end
end Sdf
namespace L2
open PySem PySem.Spec PyProof.Rows
section
variable {X:Cx}{o e f:Expr}{apos cpos:Pos}{td ty tx:TE}
end
end L2
namespace Dkr
open PySem PySem.Spec PyProof.Rows
def Raw (h:Heap) (d:Addr) (es:Array DictEntry) (ep:Nat):Prop:=∃o,h.get? d=some o/\o.ExactDict/\o.data=.dict es ep
section
variable {prog:Program}{w:World}{A:Around}{E:Value→Shared→Prop}{s:Shared}{d it:Addr}{es:Array DictEntry}{ep i:Nat}
theorem Raw.type (r:Raw s.heap d es ep):s.TypeIs (.ref d) "dict" := let ⟨o,e,c,_⟩:=r;⟨o,e,c.1⟩
theorem Raw.lt {h:Heap}(r:Raw h d es ep):d<h.objs.size:=let ⟨_,e,_⟩:=r;Heap.lt_size e
theorem Raw.keep {h h':Heap}(r:Raw h d es ep) (k:∀o,h.get? d=some o→h'.get? d=some o):Raw h' d es ep:=let ⟨o,e,c⟩:=r;⟨o,k o e,c⟩
end
end Dkr
namespace L2
open PySem PySem.Spec PyProof.Rows
section
variable {X:Cx}{K:PySem.W.Frag}
end
end L2
namespace Stk
open PySem PySem.Spec PyProof.Rows L2
theorem Mu:Manifest.owners.lookup (String.ofList ['r','o','t','a','r','e','t','i','_','t','e','s'].reverse)=some Manifest.sig_set_iterator:=by kernel_rfl
theorem slot_next:Slot "set_iterator" "__next__" "set_iterator.__next__" :=
 .of (owner := "set_iterator") (n := "__next__") (by rw [typeLookup_type,builtinLookup_eq_fast];kernel_rfl) (by decide +kernel) (by decide +kernel) (by decide +kernel)
  (by first|exact .inl (by decide +kernel)|exact .inr (by decide +kernel)) (by rw [isSubtype_type];kernel_rfl)
theorem entry_next:entryFor table "set_iterator.__next__" = some Builtin.«set_iterator.__next__»:=entryFor_of_tree (by kernel_rfl)
theorem args_next (a:Value):argsOk "set_iterator.__next__" ⟨[a],[]⟩:=by
 unfold argsOk;rw [signature?_of (id := "set_iterator.__next__") (n:=['_','_','t','x','e','n','_','_']) (o:=['r','o','t','a','r','e','t','i','_','t','e','s']) (by kernel_rfl) Mu];kernel_rfl
theorem Kj:Slot "set_iterator" "__iter__" "set_iterator.__iter__" :=
 .of (owner := "set_iterator") (n := "__iter__") (by rw [typeLookup_type,builtinLookup_eq_fast];kernel_rfl) (by decide +kernel) (by decide +kernel) (by decide +kernel)
  (by first|exact .inl (by decide +kernel)|exact .inr (by decide +kernel)) (by rw [isSubtype_type];kernel_rfl)
theorem Jr:entryFor table "set.__iter__" = some Builtin.«frozenset.__iter__» :=
 entryFor_alias (id' := "frozenset.__iter__") (by kernel_rfl) rfl (by decide +kernel) (by kernel_rfl)
def KU (xs:Array Nat):Prop:=∀i j:Nat,i<j→∀a b:Nat,xs[i]?=some a→xs[j]?=some b→a<b
theorem J0 {xs:Array Nat}{j:Nat}(hr:KU xs):∀(fuel lo hi:Nat),hi-lo≤fuel→lo≤hi→hi≤xs.size→(∀i a,i<lo→xs[i]?=some a→a<j)→(∀i a,hi≤i→xs[i]?=some a→j≤a) →
  SetTable.below.go xs j fuel lo hi≤xs.size/\(∀i a,i<SetTable.below.go xs j fuel lo hi→xs[i]?=some a→a<j)/\∀i a,SetTable.below.go xs j fuel lo hi≤i→xs[i]?=some a→j≤a
 | 0,lo,hi,h1,h2,h3,h4,h5=>by
  unfold SetTable.below.go
  exact ⟨by omega,h4,fun i a hi=>h5 i a (by omega)⟩
 | fuel+1,lo,hi,h1,h2,h3,h4,h5=>by
  unfold SetTable.below.go
  split
  ·next hlt =>
   have hm:(lo+hi) / 2<xs.size:=by omega
   have e:xs[(lo+hi) / 2]?=some xs[(lo+hi) / 2]:=Array.getElem?_eq_getElem hm
   have eg:xs.getD ((lo+hi) / 2) j=xs[(lo+hi) / 2]:=by simp [Array.getD,hm]
   dsimp only
   rw [eg]
   split
   ·next hx =>
    refine J0 hr fuel _ _ (by omega) (by omega) h3 (fun i a hq ea=>?_) h5
    by_cases h:i=(lo+hi) / 2
    ·subst h;rw [e] at ea;cases ea;exact hx
    ·have:=hr i _ (by omega) a _ ea e;omega
   ·next hx =>
    refine J0 hr fuel _ _ (by omega) (by omega) (by omega) h4 (fun i a hq ea=>?_)
    by_cases h:i=(lo+hi) / 2
    ·subst h;rw [e] at ea;cases ea;omega
    ·have:=hr _ i (by omega) _ a e ea;omega
  ·exact ⟨by omega,h4,fun i a hi=>h5 i a (by omega)⟩
theorem Jz {xs:Array Nat}(hr:KU xs) (j:Nat):SetTable.below xs j≤xs.size/\(∀i a,i<SetTable.below xs j→xs[i]?=some a→a<j)/\∀i a,SetTable.below xs j≤i→xs[i]?=some a→j≤a :=
 J0 hr xs.size 0 xs.size (by omega) (by omega) (Nat.le_refl _) (fun i a h=>absurd h (by omega)) fun i a h e=>by
  rw [Array.getElem?_eq_none h] at e;cases e
theorem OQ {xs:Array Nat}(hr:KU xs) {i a:Nat}(e:xs[i]?=some a):SetTable.below xs (a+1)=i+1:=by
 obtain ⟨h1,h2,h3⟩:=Jz hr (a+1)
 have hi:i<xs.size:=by rcases Nat.lt_or_ge i xs.size with h|h;exact h;rw [Array.getElem?_eq_none h] at e;cases e
 rcases Nat.lt_trichotomy (SetTable.below xs (a+1)) (i+1) with h|h|h
 ·have:=h3 i a (by omega) e;omega
 ·exact h
 ·have hx:i+1<xs.size:=by omega
  have e2:xs[i+1]?=some xs[i+1]:=Array.getElem?_eq_getElem hx
  have:=h2 (i+1) _ h e2
  have:=hr i (i+1) (by omega) _ _ e e2
  omega
theorem OP {xs:Array Nat}(hr:KU xs):SetTable.below xs 0=0:=by
 obtain ⟨h1,h2,h3⟩:=Jz hr 0
 rcases Nat.eq_zero_or_pos (SetTable.below xs 0) with h|h
 ·exact h
 ·have hx:0<xs.size:=by omega
  have:=h2 0 _ h (Array.getElem?_eq_getElem hx)
  omega
theorem Mi {xs:Array Nat}(hr:KU xs) {j:Nat}(hn:xs[SetTable.below xs j]?≠some j):KU (SetTable.insertAt xs (SetTable.below xs j) j):=by
 obtain ⟨h1,h2,h3⟩:=Jz hr j
 generalize SetTable.below xs j=p at *
 have key:∀i,(SetTable.insertAt xs p j)[i]?=if i<p then xs[i]? else if i=p then some j else xs[i-1]?:=fun i=>by
  unfold SetTable.insertAt
  rw [Array.getElem?_append]
  have hs:((xs.extract 0 p).push j).size=p+1:=by simp;omega
  rw [hs]
  by_cases a1:i<p
  ·rw [if_pos a1,if_pos (by omega),Array.getElem?_push,if_neg (by simp;omega)]
   simp [Array.getElem?_extract];omega
  ·rw [if_neg a1]
   by_cases a2:i=p
   ·rw [if_pos a2,if_pos (by omega),Array.getElem?_push,if_pos (by simp;omega)]
   ·rw [if_neg a2,if_neg (by omega)]
    simp only [Array.getElem?_extract]
    have:p+(i-(p+1))=i-1:=by omega
    rw [this]
    split
    ·rfl
    ·rw [Array.getElem?_eq_none (by omega)]
 intro i k hik a b ea eb
 rw [key] at ea eb
 have lt3:∀i b,p≤i→xs[i]?=some b→j<b:=fun i b hi e=>by
  have l1:=h3 i b hi e
  rcases Nat.lt_or_ge j b with h|h
  ·exact h
  ·have hb:b=j:=by omega
   subst hb
   rcases Nat.lt_or_ge p i with h4|h4
   ·have hx:p<xs.size:=by
     rcases Nat.lt_or_ge i xs.size with h|h
     ·omega
     ·rw [Array.getElem?_eq_none h] at e;cases e
    have e2:=Array.getElem?_eq_getElem hx
    have:=hr p i h4 _ _ e2 e
    have:=h3 p _ (Nat.le_refl _) e2
    omega
   ·have:i=p:=by omega
    subst this
    exact absurd e hn
 split at ea
 ·split at eb
  ·exact hr i k hik a b ea eb
  ·split at eb
   ·cases eb;exact h2 i a (by assumption) ea
   ·have:=h2 i a (by assumption) ea;have:=h3 (k-1) b (by omega) eb;omega
 ·split at ea
  ·cases ea
   split at eb
   ·omega
   ·split at eb
    ·omega
    ·exact lt3 (k-1) b (by omega) eb
  ·split at eb
   ·omega
   ·split at eb
    ·omega
    ·exact hr (i-1) (k-1) (by omega) a b ea eb
theorem F7 {t:SetTable}{h:Int}:∀(fuel:Nat) (p:SetTable.Probe),(∀d,p.dummy=some d→t.slot d=.dummy)→∀j dm,SetTable.probe.go t (fun _=>h+1) h fuel p=some (.empty j dm)→t.slot j=.empty/\∀d,dm=some d→t.slot d=.dummy
 | 0,p,hp,j,dm,e=>by unfold SetTable.probe.go at e;cases e
 | fuel+1,p,hp,j,dm,e=>by
  unfold SetTable.probe.go at e
  have adv:∀q:SetTable.Probe,(t.advance q).dummy=q.dummy:=fun q=>by
   unfold SetTable.advance;split <;> rfl
  split at e
  ·next hs=>cases e;exact ⟨hs,hp⟩
  ·next hs=>exact F7 fuel _ (fun d hd=>by rw [adv] at hd;cases hd;exact hs) j dm e
  ·split at e
   ·cases e
   ·exact F7 fuel _ (fun d hd=>by rw [adv] at hd;exact hp d hd) j dm e
theorem Ry {t:SetTable}{j:Nat}(h:∀i,t.slot j≠.live i):t.place[SetTable.below t.place j]?≠some j:=fun e=>by
 refine h (SetTable.below t.place j) ?_
 unfold SetTable.slot
 simp only [e]
 simp
def Good (l:Bool) (t:SetTable):Prop:=t.led=l/\(t.plain=true→KU t.place)
theorem OH (l:Bool):Good l (.fresh 0 0 l):=⟨rfl,fun _ i j h a b e=>by simp [SetTable.fresh] at e⟩
theorem El {l:Bool}{t:SetTable}(h:t.led=l) (n:Nat):Good l (t.standIn n):=⟨h,fun e=>by simp [SetTable.standIn] at e⟩
theorem SW {l:Bool} {t:SetTable} (h:Good l t):Good l { t with plain:=false }:=⟨h.1,fun e=>by simp at e⟩
theorem SX {l:Bool}{t:SetTable}(g:Good l t) (es:Array (Int×Value)) (h:Int) (x:Value):Good l (layNew t es h x).2.1:=by
 unfold layNew
 split
 ·next slot wd hf =>
  dsimp only
  unfold SetTable.orStandIn
  have hl:(t.put slot).1.led=l:=g.1
  split
  ·refine ⟨hl,fun hp=>?_⟩
   refine Mi (g.2 hp) (Ry fun i=>?_)
   unfold SetTable.freeSlot at hf
   split at hf
   ·next j dm e =>
    obtain ⟨z1,z2⟩:=F7 _ _ (fun d hd=>by simp [SetTable.probeStart] at hd) j dm e
    cases hf
    cases dm with
    | none=>rw [show (none:Option Nat).getD j=j from rfl,z1];exact fun e=>nomatch e
    | some d=>rw [show (some d:Option Nat).getD j=d from rfl,z2 d rfl];exact fun e=>nomatch e
   ·cases hf
  ·exact El hl _
 ·exact El g.1 _
theorem OG {l:Bool}{t:SetTable}(g:t.led=l) (es:Array (Int×Value)) (n:Nat):Good l (relayAll t es n).2.1:=by
 unfold relayAll
 split
 ·next t' order e =>
  dsimp only
  split
  ·unfold SetTable.relaid SetTable.laid at e
   simp only [Option.bind_eq_bind,Option.bind_eq_some_iff,Option.pure_def,Option.some.injEq,Prod.mk.injEq] at e
   obtain ⟨ow,_,e1,_⟩:=e
   subst e1
   refine ⟨g,fun _=>?_⟩
   dsimp only
   have pw:(((List.range (SetTable.sizeAbove n-1+1)).filterMap fun j=>(ow.getD j none).map (j,·)).map (·.1)).Pairwise (· < ·):=by
    rw [List.pairwise_map]
    refine List.Pairwise.filterMap _ ?_ List.pairwise_lt_range
    intro a b hab c hc d hd
    obtain ⟨_,_,rfl⟩:=Option.map_eq_some_iff.mp hc
    obtain ⟨_,_,rfl⟩:=Option.map_eq_some_iff.mp hd
    exact hab
   intro i j hij a b ea eb
   rw [List.getElem?_toArray] at ea eb
   obtain ⟨hi,rfl⟩:=List.getElem?_eq_some_iff.mp ea
   obtain ⟨hj,rfl⟩:=List.getElem?_eq_some_iff.mp eb
   exact List.pairwise_iff_getElem.mp pw i j hi hj hij
  ·exact El g _
 ·exact El g _
end Stk
namespace Stk
open PySem PySem.Spec PyProof.Rows L2
instance decMem (k:Key):∀L:List Key,Decidable (k∈L)
 | []=>.isFalse (by simp)
 | x::L=>if h:k=x then .isTrue (by simp [h]) else match decMem k L with
  | .isTrue h2=>.isTrue (by simp [h2])
  | .isFalse h2=>.isFalse (by simp [h,h2])
def keyOf:Value→Option Key
 | .int i _=>some (.inl i)
 | .str x _=>some (.inr x)
 | _=>none
theorem NJ {k:Key}{v:Value}(h:DV k v=true):keyOf v=some k:=by
 rcases A1 h with ⟨i,t,rfl,rfl⟩|⟨x,t,rfl,rfl⟩ <;> rfl
theorem SN {k:Key}{v:Value}(h:keyOf v=some k):DV k v=true:=by
 cases v <;> first|cases h|skip
 ·exact Hb _ _
 ·exact Ha _ _
theorem TN {k:Key}{v:Value}(h:DV k v=true):v.scannable=true:=by
 rcases A1 h with ⟨i,t,rfl,rfl⟩|⟨x,t,rfl,rfl⟩ <;> rfl
def byT (w:World):Bool:=w.params.followText "set-order"
def De (prog:Program) (w:World) (h:Heap) (a:Addr) (L:List Key):Prop :=
 ∃o es ep t,h.get? a=some o/\o.ExactSet/\o.data=.set es ep t/\ElemsOf (Ah prog w) es.toList/\(es.toList.map fun e=>keyOf e.2).Perm (L.map some)/\es.size<scanBound/\t.fits es.size=true/\Good (!byT w) t
section
variable {prog:Program}{w:World}{A:Around}{E:Value→Shared→Prop}{s:Shared}{a:Addr}{L:List Key}
theorem De.at' {h h':Heap}(x:De prog w h a L) (k:∀o,h.get? a=some o→h'.get? a=some o):De prog w h' a L :=
 let ⟨o,es,ep,t,ho,r⟩:=x;⟨o,es,ep,t,k o ho,r⟩
theorem De.type (x:De prog w s.heap a L):s.TypeIs (.ref a) "set" := let ⟨o,_,_,_,ho,hc,_⟩:=x;⟨o,ho,hc.1⟩
theorem De.lt {h:Heap}(x:De prog w h a L):a<h.objs.size:=let ⟨_,_,_,_,ho,_⟩:=x;Heap.lt_size ho
theorem store {h:Heap}{o:Obj}{es:Array (Int×Value)}{ep:Nat}{t:SetTable}(ho:h.get? a=some o) (hd:o.data=.set es ep t) {es':Array (Int×Value)}{t':SetTable} :
  (h.update a (Obj.putSet es' t')).get? a=some { o with data:=.set es' (ep+1) t' }:=by
 have:=Heap.get?_update_self (Obj.putSet es' t') ho (by rw [putSet_of es' t' hd];rfl)
 rw [putSet_of es' t' hd] at this;exact this
theorem Nd {g:Bool→Sem Unit}(hg:∀(b:Bool) (s₁:Shared) (Q':Unit→Shared→Prop),Q' () s₁→wpAny (model prog w) A (g b) Q' E s₁)
  {o:Obj} {es:Array (Int×Value)} {ep:Nat} {t:SetTable} (ho:s.heap.get? a=some o) (hex:o.ExactSet) (hd:o.data=.set es ep t)
  {es1:Array (Int×Value)} {t2:SetTable} (hel1:ElemsOf (Ah prog w) es1.toList) (hp1:(es1.toList.map fun e=>keyOf e.2).Perm (L.map some))
  (hb1:es1.size<scanBound) (hf2:t2.fits es1.size=true) (hgd:Good (!byT w) t2) {wasDummy:Bool} {R:Option Bool→Shared→Prop}
  (h:∀h',Heap.SameBut a s.heap h'→De prog w h' a L→R (some true) { s with heap:=h' }) :
  wpAny (model prog w) A (do
    storeSet a es1 t2
    if (!wasDummy&&t2.tooFull)=true then do
      g (relayAll t2 es1 (SetTable.grown es1.size)).2.2
      storeSet a (relayAll t2 es1 (SetTable.grown es1.size)).1 (relayAll t2 es1 (SetTable.grown es1.size)).2.1
      pure (some true)
     else pure (some true)) R E s:=by
 refine wpAny_bind (wpAny_storeSet_of ho hd ?_ (fits_of_scanBound hb1))
 have ho1:=store (es':=es1) (t':=t2) ho hd
 have hsb1:=Heap.SameBut.update s.heap a (Obj.putSet es1 t2)
 split
 ·have hp:=relayAll_perm t2 es1 (SetTable.grown es1.size)
  have hfr:=relayAll_fits t2 es1 (SetTable.grown es1.size)
  have hgr:=OG hgd.1 es1 (SetTable.grown es1.size)
  generalize hRl:relayAll t2 es1 (SetTable.grown es1.size)=Rl at hp hfr hgr ⊢
  obtain ⟨es2,t3,gave2⟩:=Rl
  dsimp only at hp hfr hgr ⊢
  have hsz:es2.size=es1.size:=by rw [←Array.length_toList,hp.length_eq,Array.length_toList]
  have hb2:es2.size<scanBound:=by rw [hsz];exact hb1
  refine wpAny_bind (hg _ _ _ ?_)
  refine wpAny_bind (wpAny_storeSet_of ho1 rfl ?_ (fits_of_scanBound hb2))
  exact wpAny_pure (h _ (hsb1.trans (Heap.SameBut.update _ a _)) ⟨_,es2,_,t3,store ho1 rfl,hex,rfl,hel1.perm hp,(hp.map _).trans hp1,hb2,hfr,hgr⟩)
 ·exact wpAny_pure (h _ hsb1 ⟨_,es1,_,t2,ho1,hex,rfl,hel1,hp1,hb1,hf2,hgd⟩)
theorem OU {k:Key}{x:Value}{Q:Bool→Shared→Prop}(hkey:DV k x=true) (hS:De prog w s.heap a L) (hroom:L.length+1<scanBound)
  (h:∀h',Heap.SameBut a s.heap h'→De prog w h' a (if k∈L then L else L++[k])→Q (!decide (k∈L)) { s with heap:=h' }) :
  wpAny (model prog w) A (setAddHashed a x ((Ah prog w).hash k)) Q E s:=by
 obtain ⟨o,es,ep,t,ho,hex,hd,hel,hpm,hb,hf,hgd⟩:=hS
 have hn:es.size=L.length:=by have:=hpm.length_eq;simpa using this
 have hsc:=TN hkey
 have hkey':(Ah prog w).is k x=true:=hkey
 have hmem:∀k,k∈L↔∃e∈es.toList,(Ah prog w).is k e.2=true:=fun k=>by
  have:=hpm.mem_iff (a:=some k)
  simp only [List.mem_map,Option.some.injEq,exists_eq_right] at this
  rw [←this]
  exact ⟨fun ⟨e,he,hk⟩=>⟨e,he,SN hk⟩,fun ⟨e,he,hk⟩=>⟨e,he,NJ hk⟩⟩
 unfold setAddHashed setAddHashedIn
 refine wpAny_holding (wpAny_bind (wpAny_setState_of ho hd hf ?_))
 dsimp only
 rw [byScan_of hsc hb hel]
 simp only [↓reduceIte]
 unfold setAddByScan
 refine wpAny_bind ?_
 refine wpAny_bind (wpAny_rule ?_)
 refine wpAny_bind (wpAny_setScan_of hkey' ho hd hf hel ?_)
 cases hr:List.findIdx? (fun e=>(Ah prog w).is k e.2) es.toList with
 | some j =>
  dsimp only
  obtain ⟨hj,hpj,_⟩:=List.findIdx?_eq_some_iff_getElem.mp hr
  have hk:k∈L:=(hmem k).mpr ⟨es.toList[j],List.getElem_mem hj,hpj⟩
  refine wpAny_pure (wpAny_pure ?_)
  have:=h s.heap (Heap.SameBut.refl a s.heap) (by rw [if_pos hk];exact ⟨o,es,ep,t,ho,hex,hd,hel,hpm,hb,hf,hgd⟩)
  rw [decide_eq_true hk] at this
  exact this
 | none =>
  dsimp only
  have hk:k∉L:=fun hk=>by
   obtain ⟨e,he,hp⟩:=(hmem k).mp hk
   have:=List.findIdx?_eq_none_iff.mp hr e he
   rw [hp] at this;exact Bool.noConfusion this
  have hgw:∀(b:Bool) {s₁:Shared} {Q':Unit→Shared→Prop},Q' () s₁→wpAny (model prog w) A (match b with|true=>rule "set.scan.the-table-gave-way" | false=>pure ()) Q' E s₁ :=
   fun b s₁ Q' hq=>by cases b <;> first|exact wpAny_pure hq|exact wpAny_rule hq
  have hperm:=layNew_perm t es ((Ah prog w).hash k) x
  have hfits:=layNew_fits t es ((Ah prog w).hash k) x
  have hgl:=SX hgd es ((Ah prog w).hash k) x
  generalize hL:layNew t es ((Ah prog w).hash k) x=Ly at hperm hfits hgl ⊢
  obtain ⟨es1,t1,wasDummy,gave⟩:=Ly
  dsimp only at hperm hfits hgl ⊢
  rw [Array.toList_push] at hperm
  have hel1:ElemsOf (Ah prog w) es1.toList:=(hel.push hkey' hsc).perm hperm
  have hp1:(es1.toList.map fun e=>keyOf e.2).Perm ((L++[k]).map some):=by
   refine (hperm.map _).trans ?_
   rw [List.map_append,List.map_append]
   refine hpm.append ?_
   simp only [List.map_cons,List.map_nil]
   rw [NJ hkey]
  have hb1':es1.size<scanBound:=by
   have:=hp1.length_eq
   simp at this
   omega
  refine wpAny_bind (hgw _ ?_)
  have hend:∀h',Heap.SameBut a s.heap h'→De prog w h' a (L++[k])→Q true { s with heap:=h' }:=by
   intro h' hsb hS'
   have:=h h' hsb (by rw [if_neg hk];exact hS')
   rw [decide_eq_false hk] at this
   exact this
  split
  ·refine wpAny_bind ?_
   rw [hashByValue_scannable 8 hsc]
   refine wpAny_pure ?_
   refine Nd ?_ ho hex hd hel1 hp1 hb1' ?_ ?_ ?_
   ·intro b s₁ Q' hq;cases b <;> first|exact wpAny_pure hq|exact wpAny_rule hq
   ·split
    ·exact hfits
    ·exact SetTable.fits_plain_off hfits
   ·split
    ·exact hgl
    ·exact SW hgl
   ·intro h' hsb hS';dsimp only;exact wpAny_pure (hend h' hsb hS')
  ·refine wpAny_bind (wpAny_pure ?_)
   simp only [↓reduceIte]
   refine Nd ?_ ho hex hd hel1 hp1 hb1' hfits hgl ?_
   ·intro b s₁ Q' hq;cases b <;> first|exact wpAny_pure hq|exact wpAny_rule hq
   ·intro h' hsb hS';dsimp only;exact wpAny_pure (hend h' hsb hS')
end
def once:List Key→List Key→List Key
 | L,[]=>L
 | L,k::ks=>once (if k∈L then L else L++[k]) ks
theorem Mv:∀(ks L:List Key),(once L ks).length≤L.length+ks.length
 | [],L=>by simp [once]
 | k::ks,L=>by
  have:=Mv ks (if k∈L then L else L++[k])
  unfold once
  by_cases hx:k∈L
  ·simp only [if_pos hx] at this ⊢;simp only [List.length_cons];omega
  ·simp only [if_neg hx,List.length_append,List.length_cons,List.length_nil] at this ⊢;omega
theorem Hx (k:Key):∀(ks L:List Key),once L (ks++[k])=if k∈once L ks then once L ks else once L ks++[k]
 | [],L=>rfl
 | x::ks,L=>by simp only [List.cons_append,once];exact Hx k ks _
theorem Jh (k:Key):∀(ks L:List Key),k∈once L ks↔k∈L\/k∈ks
 | [],L=>by simp [once]
 | x::ks,L=>by
  unfold once
  rw [Jh k ks]
  split
  ·simp only [List.mem_cons];constructor
   ·rintro (h|h);exact .inl h;exact .inr (.inr h)
   ·rintro (h|rfl|h);exact .inl h;exact .inl (by assumption);exact .inr h
  ·simp only [List.mem_append,List.mem_singleton,List.mem_cons,List.not_mem_nil,or_false,or_assoc]
theorem Jd:∀(ks L:List Key),L.Nodup→(once L ks).Nodup
 | [],L,h=>h
 | x::ks,L,h=>by
  unfold once
  refine Jd ks _ ?_
  split
  ·exact h
  ·next hx =>
   rw [List.nodup_append]
   refine ⟨h,by simp,fun a ha b hb e=>?_⟩
   simp at hb
   subst hb;subst e
   exact hx ha
section
variable {prog:Program}{w:World}{A:Around}{R:Result→Shared→Prop}{I:Addr}{fp wr:List Addr}{G:Array GenState→Array GenState→Prop}{n:Nat}{P:Nat→Value→Prop}{St:Nat→Shared→Prop}
theorem Hq (W:WalksS prog w A.in1 I fp wr G n P St) (S:Addr) (hSf:S∉fp) (ks:List Key) (hn:ks.length=n) (hval:∀(i:Nat) k v,ks[i]?=some k→P i v→DV k v=true) (hb:n+1<scanBound) :
  ∀(k i:Nat) (s:Shared),n-i=k→i≤n→St i s→De prog w s.heap S (once [] (ks.take i))→(∀s',Moved (S::wr) G s s'→De prog w s'.heap S (once [] ks)→R (.ok (.ret .none)) s') →
   codeAny (model prog w) A (.builtin "set.update.loop" ⟨[.ref S,.ref I],[]⟩) R s:=by
 have hSw:S∉wr:=fun h=>hSf (W.sub _ h)
 have hsub:∀b∈wr,b∈S::wr:=fun b hb=>List.mem_cons_of_mem _ hb
 intro k
 induction k with
 | zero =>
  intro i s hk hi hst hS hR
  have hin:i=n:=by omega
  subst hin
  refine codeAny_builtin PyProof.Rows.F.entry_set_update_loop ?_
  rw [Around.under_plainId PyProof.Rows.F.plain_set_update_loop _]
  show wpAny _ A.in1 (pyNext (.ref I) >>= _) _ _ s
  refine wpAny_bind (W.done s _ _ hst fun s' hm=>?_)
  show wpAny _ A.in1 (ret Value.none) _ _ s'
  rw [List.take_of_length_le (by omega)] at hS
  exact wpAny_pure (hR s' (hm.mono hsub) (hS.at' fun o e=>hm.heap S _ hSw e))
 | succ k ih =>
  intro i s hk hi hst hS hR
  have hlt:i<n:=by omega
  refine codeAny_builtin PyProof.Rows.F.entry_set_update_loop ?_
  rw [Around.under_plainId PyProof.Rows.F.plain_set_update_loop _]
  show wpAny _ A.in1 (pyNext (.ref I) >>= _) _ _ s
  refine wpAny_bind (W.item i s _ _ hlt hst fun v s' hP hst' hm=>?_)
  have hki:ks[i]?=some (ks[i]'(by omega)):=List.getElem?_eq_getElem (by omega)
  have hv:=hval i _ v hki hP
  have hS':De prog w s'.heap S (once [] (ks.take i)):=hS.at' fun o e=>hm.heap S _ hSw e
  show wpAny _ A.in1 (holding [v] (setAdd S v) >>= _) _ _ s'
  refine wpAny_bind (wpAny_holding ?_)
  unfold setAdd
  refine wpAny_holding ?_
  refine wpAny_bind ((Ah prog w).pyHash (show (Ah prog w).is _ v=true from hv) ?_)
  have hroom:(once [] (ks.take i)).length+1<scanBound:=by have:=Mv (ks.take i) [];simp at this;omega
  refine OU (s:={ s' with toks:=s'.toks+1 }) hv hS' hroom fun h' hsb hS2=>?_
  have hSi:De prog w h' S (once [] (ks.take (i+1))):=by
   rw [List.take_add_one,hki]
   rw [show (some (ks[i]'(by omega))).toList=[ks[i]'(by omega)] from rfl,Hx]
   exact hS2
  refine wpAny_pure ⟨plainId_quiet PyProof.Rows.F.plain_set_update_loop _,ih (i+1) _ (by omega) hlt (W.frame _ s' _ _ hst' (Nat.le_succ _) fun b hb o e=>?_) hSi fun s'' hm'' hS''=>?_⟩
  ·rw [hsb.2 b (fun h:b=S=>hSf (by rw [←h];exact hb))];exact e
  ·refine hR s'' (Moved.trans W.gtrans ((hm.mono hsub).then_heap (Nat.le_succ _) fun b o hb e=>?_) hm'') hS''
   rw [hsb.2 b (fun h:b=S=>hb (by rw [h];exact List.mem_cons_self))];exact e
end
end Stk
namespace Stk
open PySem PySem.Spec PyProof.Rows L2
section
variable {prog:Program}{w:World}{A:Around}{E:Value→Shared→Prop}{s:Shared}
abbrev EO (w:World):Obj:={ cls:=.type "set", dict:=none,data:=.set #[] 0 (.fresh 0 0 (!byT w)) }
theorem Oc (a:Value) {Q₁:Value→Shared→Prop} (h:Q₁ (.ref s.heap.objs.size) { s with heap:=s.heap.push (EO w) }) :
  codeAny (model prog w) A (.call (.builtin "set.__new__") ⟨[.type "set", a],[]⟩) (wants Q₁ E) s:=by
 refine codeAny_of_tree ?_
 show wpAny _ A.in1 (do checkBuiltinCall "set.__new__" ⟨[.type "set", a],[]⟩;again (.builtin "set.__new__" ⟨[.type "set", a],[]⟩)) _ _ s
 refine wpAny_bind (wpAny_of_eq (PySem.F.newCall_set_1 a) (wpAny_pure ⟨plainId_quiet PySem.F.plain_set_new _,codeAny_builtin PySem.F.entry_set_new ?_⟩))
 rw [Around.under_plainId PySem.F.plain_set_new _]
 unfold Builtin.«set.__new__» Builtin.Frozenset.newClass
 have hsub:=sub_set_self
 obtain ⟨hp,g,d,tk,os⟩:=s
 dsimp only
 wp_walk
 refine wpAny_askSetting (wpAny_pure ?_)
 dsimp only
 simp only [newObj]
 refine wpAny_bind (wpAny_alloc (wpAny_pure ?_))
 exact wpAny_pure h
theorem Ip {h:Heap}{a:Addr}(e:h.get? a=some (EO w)):De prog w h a [] :=
 ⟨_,#[],0,_,e,⟨rfl,rfl,rfl⟩,rfl,fun e he=>by simp at he,by simp,by decide,by rfl,OH _⟩
theorem Sk {l:Addr}{items:Array Value}{ks:List Key}{Q:Value→Shared→Prop}
  (hh:A.handled=none) (hl:s.heap.IsList l items) (hlen:ks.length=items.size) (hi:∀(i:Nat) k v,ks[i]?=some k→items[i]?=some v→DV k v=true) (hb:items.size+1<scanBound)
  (h:∀(h':Heap) (tk:Nat),De prog w h' s.heap.objs.size (once [] ks)→(∀b o,b<s.heap.objs.size→s.heap.get? b=some o→h'.get? b=some o)→Q (.ref s.heap.objs.size) { s with heap:=h',toks:=tk }) :
  wpAny (model prog w) A (call (.type "set") [.ref l]) Q E s:=by
 obtain ⟨c,tl,hmro⟩:=PySem.F.called_set.mro
 have hmade:=PySem.F.called_set.made
 have hsub:=PySem.F.called_set.sub
 refine wpAny_call (codeAny_of_tree ?_)
 show wpAny _ _ (callAny (.type "set") _) _ _ _
 refine wpAny_pure ⟨Code.quiet_builtin _ (by decide +kernel),codeAny_builtin PySem.F.entry_type_call ?_⟩
 rw [Around.under_plain (weight_type_call_type "set" [.ref l] []) rfl]
 have h1:=PySem.F.called_set.notType
 have h2:=PySem.F.called_set.canCreate
 have hct:=PySem.F.typeCall_set_1 (.ref l)
 repeat (any_goals (first|assumption|wp_step))
 refine codeAny_mono (Oc (.ref l) (E:=E) (Q₁:=fun obj s₁=>obj=.ref s.heap.objs.size/\s₁={ s with heap:=s.heap.push (EO w) }) ⟨rfl,rfl⟩) fun r s₁ hr=>?_
 cases r with
 | error e=>exact hr
 | ok fl =>
  cases fl with
  | ret obj =>
   obtain ⟨rfl,rfl⟩:=hr
   have hS:(s.heap.push (EO w)).get? s.heap.objs.size=some (EO w):=Heap.get?_push_size _ rfl
   have hT:Shared.TypeIs { s with heap:=s.heap.push (EO w) } (.ref s.heap.objs.size) "set" := ⟨_,hS,rfl⟩
   have hli:=PySem.F.called_set.init.lookup
   have hbi:=PySem.F.called_set.init.bind (.ref s.heap.objs.size)
   repeat (any_goals (first|assumption|wp_step))
   refine codeAny_mono (codeAny_call_builtin (R:=wants (fun r s₂=>r=.none/\∃h' tk,s₂={ s with heap:=h',toks:=tk }/\De prog w h' s.heap.objs.size (once [] ks) /\
     (∀b o,b<s.heap.objs.size→s.heap.get? b=some o→h'.get? b=some o)) E) PySem.F.called_set.init.plain PySem.F.entry_set_init (check_set_init_1 hT ?_)) fun r₂ s₂ hr₂=>?_
   ·obtain ⟨ol,hol,hcl,nl,hdl⟩:=hl
    obtain ⟨ocls,odict,odata,oslots⟩:=ol
    simp only at hcl hdl
    subst hcl;subst hdl
    have hol':(s.heap.push (EO w)).get? l=some { cls:=.type "list", dict:=odict,data:=.seq items nl,slots:=oslots }:=Heap.get?_push_of_some _ hol
    have hsls:=PySem.F.sub_list_set
    have hslf:=PySem.F.sub_list_frozenset
    have hne:(Value.type "list" == Value.type "dict")=false:=by decide
    have hl1:(s.heap.push (EO w)).IsList l items:=⟨_,hol',rfl,nl,rfl⟩
    unfold Builtin.«set.__init__» noKeywords Builtin.Frozenset.updateFrom
    generalize hPI:pyIter=PI
    wp_walk
    subst hPI
    refine wpAny_pyIter_list hl1 ?_
    refine wpAny_bind (wpAny_runValue ?_)
    have hlS:l<s.heap.objs.size:=Heap.lt_size hol
    have hh3:A.in1.in1.in1.handled=none:=by simp [hh]
    have hneI:l≠(s.heap.push (EO w)).objs.size:=by
     rw [Heap.size_push];exact Nat.ne_of_lt (Nat.lt_succ_of_lt hlS)
    have hSf:s.heap.objs.size∉[(s.heap.push (EO w)).objs.size,l]:=by
     rw [Heap.size_push];simp only [List.mem_cons,List.mem_singleton,List.not_mem_nil,or_false,not_or]
     exact ⟨Nat.ne_of_lt (Nat.lt_succ_self _),Nat.ne_of_gt hlS⟩
    refine Hq ((Walks.list hh3 _ l hneI items).toS) s.heap.objs.size hSf ks hlen (fun i k v e1 e2=>hi i k v e1 e2) hb (items.size-0) 0 _ (by omega) (Nat.zero_le _)
     ⟨⟨_,Heap.get?_push_size _ rfl,rfl,rfl⟩,(hl1.push _)⟩ ?hS0 ?hR
    case hS0=>exact Ip (Heap.get?_push_of_some _ hS)
    case hR =>
     intro s' hm hS'
     obtain ⟨h',g',d',tk',os'⟩:=s'
     have eg:g'=s.gens:=hm.gens
     have ed:d'=s.drawn:=hm.drawn
     have eo:os'=s.os:=hm.os
     subst eg;subst ed;subst eo
     show wpAny _ _ _ _ _ _
     refine wpAny_pure ?_
     show wpAny _ _ (ret Value.none) _ _ _
     refine wpAny_pure ⟨rfl,h',tk',rfl,hS',fun b o hb e=>?_⟩
     have hb1:b≠s.heap.objs.size:=Nat.ne_of_lt hb
     have hb2:b≠(s.heap.push (EO w)).objs.size:=by
      rw [Heap.size_push];exact Nat.ne_of_lt (Nat.lt_succ_of_lt hb)
     exact hm.heap b o (by simp only [List.mem_cons,List.mem_singleton,List.not_mem_nil,or_false,not_or];exact ⟨hb1,hb2⟩) (Heap.get?_push_of_some _ (Heap.get?_push_of_some _ e))
   ·cases r₂ with
    | error e=>exact hr₂
    | ok fl₂ =>
     cases fl₂ with
     | ret r =>
      obtain ⟨rfl,h',tk,rfl,hS',hk'⟩:=hr₂
      repeat (any_goals (first|assumption|wp_step))
      exact h _ _ hS' hk'
     | _=>exact hr₂.elim
  | _=>exact hr.elim
end
end Stk
namespace Stk
open PySem PySem.Spec PyProof.Rows L2
theorem GI {α:Type}:∀(xs:List α) (i:Nat) (h:i<xs.length),(xs[i]::xs.eraseIdx i).Perm xs
 | x::xs,0,h=>.refl _
 | x::xs,i+1,h=>by
  simp only [List.getElem_cons_succ,List.eraseIdx_cons_succ]
  exact (List.Perm.swap ..).trans ((GI xs i (by simpa using h)).cons x)
theorem QX {M:Model} {A:Around} {E:Value→Shared→Prop} {s:Shared} {src:Source} {n:Nat} {Q:Nat→Shared→Prop} (hn:n≠0) (h:∀i d,i<n→Q i { s with drawn:=d }):wpAny M A (choose src n) Q E s:=fun Γ p hΓ=>by
 unfold choose
 rw [Sem.wp_choose]
 refine ⟨hn,?_⟩
 exact wpAny_pure (M:=M) (A:=A) (E:=E) (Q:=Q) (h _ _ (Nat.mod_lt _ (Nat.pos_of_ne_zero hn))) Γ p hΓ
theorem Gw {M:Model} {A:Around} {E:Value→Shared→Prop} {α:Type}:∀(n:Nat) (xs:List α) (s:Shared) (Q:List α→Shared→Prop),xs.length=n→(∀ys d,ys.Perm xs→Q ys { s with drawn:=d })→wpAny M A (drawOrder n xs) Q E s
 | 0,xs,s,Q,hl,h=>by
  unfold drawOrder
  exact wpAny_pure (h [] s.drawn (by rw [List.length_eq_zero_iff.mp hl]))
 | n+1,[],s,Q,hl,h=>by simp at hl
 | n+1,x::xs,s,Q,hl,h=>by
  unfold drawOrder
  refine wpAny_bind (QX (by simp) fun i d hi=>?_)
  have e:(x::xs)[i]?=some (x::xs)[i]:=List.getElem?_eq_getElem hi
  rw [e]
  dsimp only
  refine wpAny_bind (Gw n _ _ _ (by rw [List.length_eraseIdx,if_pos hi];omega) fun ys d' hp=>wpAny_pure ?_)
  exact h _ d' ((hp.cons _).trans (GI _ _ hi))
theorem Kr {α:Type}(nx:Nat→Nat):∀(n k:Nat) (xs:List α) (out:Array α),xs.length=n→(pickOrder.go nx n k xs out).toList.Perm (out.toList++xs)
 | 0,k,xs,out,hl=>by
  unfold pickOrder.go
  rw [List.length_eq_zero_iff.mp hl,List.append_nil]
 | n+1,k,xs,out,hl=>by
  unfold pickOrder.go
  have hi:nx k % xs.length<xs.length:=Nat.mod_lt _ (by omega)
  rw [List.getElem?_eq_getElem hi]
  dsimp only
  refine (Kr nx n (k+1) _ _ (by rw [List.length_eraseIdx,if_pos hi];omega)).trans ?_
  rw [Array.toList_push,List.append_assoc,List.singleton_append]
  exact List.Perm.append_left _ (GI _ _ hi)
theorem Cm {α:Type}(nx:Nat→Nat) (xs:Array α):(pickOrder nx xs).toList.Perm xs.toList:=by
 unfold pickOrder
 simpa using Kr nx xs.size 0 xs.toList #[] (by simp)
def EJ (h:Heap) (it:Addr) (first:Value) (i:Nat) (S:Addr) (n ep:Nat):Prop:=∃o,h.get? it=some o/\o.cls=.type "set_iterator" /\ o.data=.fields #[first,.int i 0,.ref S,.int n 0,.int ep 0]
def Hn (h:Heap) (S:Addr) (es:Array (Int×Value)) (ep:Nat) (t:SetTable):Prop:=∃o,h.get? S=some o/\o.ExactSet/\o.data=.set es ep t/\t.fits es.size=true
section
variable {prog:Program}{w:World}{A:Around}{E:Value→Shared→Prop}{s:Shared}{S it:Addr}{es:Array (Int×Value)}{ep i n:Nat}{t:SetTable}{first:Value}
theorem EJ.type (x:EJ s.heap it first i S n ep):s.TypeIs (.ref it) "set_iterator" := let ⟨o,e,c,_⟩:=x;⟨o,e,c⟩
theorem Hn.keep {h h':Heap}(r:Hn h S es ep t) (k:∀o,h.get? S=some o→h'.get? S=some o):Hn h' S es ep t:=let ⟨o,e,c⟩:=r;⟨o,k o e,c⟩
theorem EJ.keep {h h':Heap}(r:EJ h it first i S n ep) (k:∀o,h.get? it=some o→h'.get? it=some o):EJ h' it first i S n ep:=let ⟨o,e,c⟩:=r;⟨o,k o e,c⟩
theorem EJ.U2 {h:Heap}(x:EJ h it first i S n ep) (v:Value):EJ (h.update it (Obj.mapFields (·.setIfInBounds 0 v))) it v i S n ep:=by
 obtain ⟨o,e,c,d⟩:=x
 exact ⟨_,Heap.get?_update_self _ e (Obj.isFreed_of_fields (Obj.data_mapFields d _)),(Obj.cls_mapFields ..).trans c,by rw [Obj.data_mapFields d];simp⟩
theorem EJ.V9 {h:Heap}(x:EJ h it first i S n ep):EJ (h.update it (Obj.mapFields (·.setIfInBounds 1 (rawInt ((i:Int)+1))))) it first (i+1) S n ep:=by
 obtain ⟨o,e,c,d⟩:=x
 exact ⟨_,Heap.get?_update_self _ e (Obj.isFreed_of_fields (Obj.data_mapFields d _)),(Obj.cls_mapFields ..).trans c,by rw [Obj.data_mapFields d];simp [rawInt]⟩
theorem N8 {T:Addr}{ps:List Nat}{p:Nat}{e:Int×Value}(x:EJ s.heap it (.ref T) i S es.size ep) (r:Hn s.heap S es ep t) (hT:s.heap.IsTuple T (ps.map fun (p:Nat)=>rawInt p).toArray) (hp:ps[i]?=some p) (he:es[p]?=some e) {Q:Option Value→Shared→Prop}
  (hQ:∀h',EJ h' it (.ref T) (i+1) S es.size ep→Heap.SameBut it s.heap h'→Q (some e.2) { s with heap:=h' }):wpAny (model prog w) A (pyNext (.ref it)) Q E s:=by
 have ty:=x.type
 obtain ⟨o,ho,hc,hd⟩:=id x
 obtain ⟨od,ho2,c2,hd2,hf⟩:=r
 unfold pyNext
 refine wpAny_bind (wpAny_attempt (wpAny_callSpecial?_slot (name:=Str.ofString "__next__") ty slot_next (wpAny_call_entry slot_next ty entry_next ?_ (args_next _))))
 unfold Builtin.«set_iterator.__next__»
 refine wpAny_bind (wpAny_pure (wpAny_bind (wpAny_fieldsOf ho hd ?_)))
 show wpAny _ _ (setEntries S >>= _) _ _ s
 refine wpAny_bind (wpAny_setEntries_of ho2 hd2 hf ?_)
 rw [if_neg (by simp)]
 obtain ⟨oT,hoT,cT,mT,dT⟩:=hT
 refine wpAny_bind (wpAny_seqItems hoT dT ?_)
 have e1:(ps.map fun (p:Nat)=>rawInt p).toArray[(i:Int).toNat]?=some (.int (p:Int) 0):=by
  rw [Int.toNat_natCast,List.getElem?_toArray,List.getElem?_map,hp];rfl
 simp only [e1]
 refine wpAny_bind ?_
 unfold setNextDrawn
 refine wpAny_bind (wpAny_setState_of ho2 hd2 hf ?_)
 dsimp only
 rw [if_neg (by simp)]
 simp only [Int.toNat_natCast,he]
 refine wpAny_pure ?_
 refine wpAny_bind (wpAny_setField ho hd (by simp) ?_)
 exact wpAny_pure ⟨_,rfl,wpAny_pure (hQ _ x.V9 (Heap.SameBut.update ..))⟩
theorem OZ (hh:A.handled=none) {s₂:Shared} {Q:Option Value→Shared→Prop} (hQ:∀h',(∀b o,s₂.heap.get? b=some o→h'.get? b=some o)→Q none { s₂ with heap:=h' }) :
  wpAny (model prog w) A.in1 (newExc (.type "StopIteration") [] >>= fun e=>raiseNew (α:=Fin) e) (fun fin s'=>∃v, fin=Fin.done (Flow.ret v)/\wpAny (model prog w) A (match (Except.ok (some v):Except Value (Option Value)) with
        | Except.ok (some v)=>pure (some v)
        | Except.ok none=>unsupported "iter:the-iterator's-class-has-lost-its-__next__-amid-the-walk"
        | Except.error e=>do
         let b ← isInstance e (Value.type "StopIteration")
         if b=true then pure none else throw e) Q E s') (fun e s'=>wpAny (model prog w) A (match (Except.error e:Except Value (Option Value)) with
        | Except.ok (some v)=>pure (some v)
        | Except.ok none=>unsupported "iter:the-iterator's-class-has-lost-its-__next__-amid-the-walk"
        | Except.error e=>do
         let b ← isInstance e (Value.type "StopIteration")
         if b=true then pure none else throw e) Q E s') s₂:=by
 refine wpAny_bind ?_
 simp only [newExc,newTuple]
 refine wpAny_bind (wpAny_newObj_type (wpAny_bind (m:=firstArgMember _ _) (wpAny_of_eq (a:=Value.none) (by first|rfl|(simp only [firstArgMember];rfl)) (wpAny_newObj_type ?_ (by size_fits)))) (by size_fits))
 simp only [raiseNew]
 refine wpAny_bind (wpAny_handled ?_)
 rw [show A.in1.handled=none from hh]
 refine wpAny_bind (wpAny_pure (wpAny_throw ?_))
 refine wpAny_bind (wpAny_isInstance (T := "StopIteration") (b:=true) ⟨_,Heap.get?_push_size _ rfl,rfl⟩ isSubtype_stop ?_)
 exact wpAny_pure (hQ _ fun b o e=>Heap.get?_push_of_some _ (Heap.get?_push_of_some _ e))
theorem QS (hh:A.handled=none) {T:Addr}{ps:List Nat}(x:EJ s.heap it (.ref T) i S es.size ep) (r:Hn s.heap S es ep t) (hT:s.heap.IsTuple T (ps.map fun (p:Nat)=>rawInt p).toArray) (hp:ps[i]?=none) {Q:Option Value→Shared→Prop}
  (hQ:∀h',Heap.ExtBut it s.heap h'→Q none { s with heap:=h' }):wpAny (model prog w) A (pyNext (.ref it)) Q E s:=by
 have ty:=x.type
 obtain ⟨o,ho,hc,hd⟩:=id x
 obtain ⟨od,ho2,c2,hd2,hf⟩:=r
 unfold pyNext
 refine wpAny_bind (wpAny_attempt (wpAny_callSpecial?_slot (name:=Str.ofString "__next__") ty slot_next (wpAny_call_entry slot_next ty entry_next ?_ (args_next _))))
 unfold Builtin.«set_iterator.__next__»
 refine wpAny_bind (wpAny_pure (wpAny_bind (wpAny_fieldsOf ho hd ?_)))
 show wpAny _ _ (setEntries S >>= _) _ _ s
 refine wpAny_bind (wpAny_setEntries_of ho2 hd2 hf ?_)
 rw [if_neg (by simp)]
 obtain ⟨oT,hoT,cT,mT,dT⟩:=hT
 refine wpAny_bind (wpAny_seqItems hoT dT ?_)
 have e1:(ps.map fun (p:Nat)=>rawInt p).toArray[(i:Int).toNat]?=none:=by
  rw [Int.toNat_natCast,List.getElem?_toArray,List.getElem?_map,hp];rfl
 simp only [e1]
 refine wpAny_bind (wpAny_setField ho hd (by simp) ?_)
 obtain ⟨o1,h1,c1,d1⟩:=x.U2 (rawInt 0)
 refine wpAny_bind (wpAny_setField h1 d1 (by simp) ?_)
 refine OZ hh fun h' k=>hQ _ fun b o hb e=>k b o ?_
 exact ((Heap.SameBut.update ..).trans (Heap.SameBut.update ..)).extBut b o hb e
theorem Mz {slot j:Nat}{v:Value}(x:EJ s.heap it (.int slot 0) i S es.size ep) (r:Hn s.heap S es ep t)
  (hn:∀Q':Option (Value×Nat)→Shared→Prop,Q' (some (v,j)) s→∀E,wpAny (model prog w) A.in1 (setNext S slot i ep) Q' E s) {Q:Option Value→Shared→Prop}
  (hQ:∀h',EJ h' it (.int j 0) (i+1) S es.size ep→Heap.SameBut it s.heap h'→Q (some v) { s with heap:=h' }):wpAny (model prog w) A (pyNext (.ref it)) Q E s:=by
 have ty:=x.type
 obtain ⟨o,ho,hc,hd⟩:=id x
 obtain ⟨od,ho2,c2,hd2,hf⟩:=r
 unfold pyNext
 refine wpAny_bind (wpAny_attempt (wpAny_callSpecial?_slot (name:=Str.ofString "__next__") ty slot_next (wpAny_call_entry slot_next ty entry_next ?_ (args_next _))))
 unfold Builtin.«set_iterator.__next__»
 refine wpAny_bind (wpAny_pure (wpAny_bind (wpAny_fieldsOf ho hd ?_)))
 show wpAny _ _ (setEntries S >>= _) _ _ s
 refine wpAny_bind (wpAny_setEntries_of ho2 hd2 hf ?_)
 rw [if_neg (by simp)]
 show wpAny _ _ (setNext S (slot:Int).toNat (i:Int).toNat (ep:Int).toNat >>= _) _ _ s
 rw [Int.toNat_natCast,Int.toNat_natCast,Int.toNat_natCast]
 refine wpAny_bind (hn _ ?_ _)
 dsimp only
 refine wpAny_bind (wpAny_setField ho hd (by simp) ?_)
 obtain ⟨o1,h1,c1,d1⟩:=x.U2 (rawInt j)
 refine wpAny_bind (wpAny_setField h1 d1 (by simp) ?_)
 exact wpAny_pure ⟨_,rfl,wpAny_pure (hQ _ (x.U2 (rawInt j)).V9 ((Heap.SameBut.update ..).trans (Heap.SameBut.update ..)))⟩
theorem O4 (hh:A.handled=none) {slot:Nat}(x:EJ s.heap it (.int slot 0) i S es.size ep) (r:Hn s.heap S es ep t)
  (hn:∀Q':Option (Value×Nat)→Shared→Prop,Q' none s→∀E,wpAny (model prog w) A.in1 (setNext S slot i ep) Q' E s) {Q:Option Value→Shared→Prop}
  (hQ:∀h',Heap.ExtBut it s.heap h'→Q none { s with heap:=h' }):wpAny (model prog w) A (pyNext (.ref it)) Q E s:=by
 have ty:=x.type
 obtain ⟨o,ho,hc,hd⟩:=id x
 obtain ⟨od,ho2,c2,hd2,hf⟩:=r
 unfold pyNext
 refine wpAny_bind (wpAny_attempt (wpAny_callSpecial?_slot (name:=Str.ofString "__next__") ty slot_next (wpAny_call_entry slot_next ty entry_next ?_ (args_next _))))
 unfold Builtin.«set_iterator.__next__»
 refine wpAny_bind (wpAny_pure (wpAny_bind (wpAny_fieldsOf ho hd ?_)))
 show wpAny _ _ (setEntries S >>= _) _ _ s
 refine wpAny_bind (wpAny_setEntries_of ho2 hd2 hf ?_)
 rw [if_neg (by simp)]
 show wpAny _ _ (setNext S (slot:Int).toNat (i:Int).toNat (ep:Int).toNat >>= _) _ _ s
 rw [Int.toNat_natCast,Int.toNat_natCast,Int.toNat_natCast]
 refine wpAny_bind (hn _ ?_ _)
 dsimp only
 refine wpAny_bind (wpAny_setField ho hd (by simp) ?_)
 refine OZ hh fun h' k=>hQ _ fun b o hb e=>k b o ?_
 exact (Heap.SameBut.update ..).extBut b o hb e
theorem GO {E:Value→Shared→Prop}(hb:byT w=true) (r:Hn s.heap S es ep t) (slot:Nat) (Q':Option (Value×Nat)→Shared→Prop) (h:Q' (((pickOrder (w.params.setOrder S ep) es)[i]?).map fun e=>(e.2,slot)) s):wpAny (model prog w) A (setNext S slot i ep) Q' E s:=by
 obtain ⟨od,ho2,c2,hd2,hf⟩:=r
 unfold setNext
 refine wpAny_bind (wpAny_setState_of ho2 hd2 hf ?_)
 dsimp only
 refine wpAny_bind (m:=setsByText) ?_
 unfold setsByText
 refine wpAny_bind (wpAny_askSetting (wpAny_pure ?_))
 show wpAny _ _ (if byT w=true then _ else _) _ _ s
 rw [if_pos hb,if_neg (by simp)]
 refine wpAny_bind ?_
 unfold setWalk
 refine wpAny_bind (wpAny_setState_of ho2 hd2 hf ?_)
 dsimp only
 refine wpAny_bind (m:=setsByText) ?_
 unfold setsByText
 refine wpAny_bind (wpAny_askSetting (wpAny_pure ?_))
 show wpAny _ _ (if byT w=true then _ else _) _ _ s
 rw [if_pos hb]
 exact wpAny_bind (wpAny_askSetting (wpAny_pure (wpAny_pure h)))
theorem Hs {E:Value→Shared→Prop}(hb:byT w=false) (r:Hn s.heap S es ep t) (hl:t.led=true) (hd:(!t.plain&&decide (es.size > 1))=false) (hr:KU t.place) (slot:Nat) (hs:SetTable.below t.place slot=i) (Q':Option (Value×Nat)→Shared→Prop)
  (h1:∀e j,es[i]?=some e→t.place[i]?=some j→Q' (some (e.2,j+1)) s) (h2:es.size≤i→Q' none s):wpAny (model prog w) A (setNext S slot i ep) Q' E s:=by
 obtain ⟨od,ho2,c2,hd2,hf⟩:=r
 have hps:t.place.size=es.size:=by
  simp only [SetTable.fits,Bool.and_eq_true,beq_iff_eq] at hf
  exact hf.1
 unfold setNext
 refine wpAny_bind (wpAny_setState_of ho2 hd2 hf ?_)
 dsimp only
 refine wpAny_bind (m:=setsByText) ?_
 unfold setsByText
 refine wpAny_bind (wpAny_askSetting (wpAny_pure ?_))
 show wpAny _ _ (if byT w=true then _ else if (!t.plain&&decide (es.size > 1))=true then _ else _) _ _ s
 rw [if_neg (by rw [hb];exact Bool.false_ne_true),if_neg (by rw [hd];exact Bool.false_ne_true)]
 refine wpAny_bind (m:=if (!t.led&&!es.isEmpty)=true then _ else _) ?_
 rw [if_neg (by rw [hl];simp)]
 refine wpAny_pure ?_
 rw [hs]
 rcases Nat.lt_or_ge i es.size with h|h
 ·have e1:es[i]?=some es[i]:=Array.getElem?_eq_getElem h
  have e2:t.place[i]?=some (t.place[i]'(by omega)):=Array.getElem?_eq_getElem (by omega)
  rw [e1,e2]
  exact wpAny_pure (h1 _ _ e1 e2)
 ·rw [Array.getElem?_eq_none h]
  exact wpAny_pure (h2 h)
end
end Stk
namespace Stk
open PySem PySem.Spec PyProof.Rows L2
theorem Ql (a:Value):argsOk "set_iterator.__iter__" ⟨[a],[]⟩:=by
 unfold argsOk;rw [signature?_of (id := "set_iterator.__iter__") (n:=['_','_','r','e','t','i','_','_']) (o:=['r','o','t','a','r','e','t','i','_','t','e','s']) (by kernel_rfl) Mu];kernel_rfl
theorem OL:entryFor table "set_iterator.__iter__" = some Builtin.«dict_keyiterator.__iter__» :=
 entryFor_alias (id' := "dict_keyiterator.__iter__") (by kernel_rfl) rfl (by decide +kernel) (by kernel_rfl)
section
variable {prog:Program}{w:World}{A:Around}{E:Value→Shared→Prop}{s:Shared}{S it:Addr}{es:Array (Int×Value)}{ep i n:Nat}{t:SetTable}{first:Value}
theorem Hc (x:EJ s.heap it first i S n ep) {Q:Value→Shared→Prop}(h:Q (.ref it) s):wpAny (model prog w) A (pyIter (.ref it)) Q E s:=by
 refine wpAny_pyIter_slot x.type Kj (wpAny_call_entry Kj x.type OL ?_ (Ql _))
 show wpAny _ _ (ret (.ref it)) _ _ s
 exact wpAny_pure ⟨_,rfl, "set_iterator", _,x.type,slot_next.lookup,h⟩
theorem Nf (hh:A.handled=none) (I T:Addr) (h1:S≠I) (h2:T≠I) (ps:List Nat) (vs:List Value) (hl:ps.length=es.size) (hv:∀(i p:Nat),ps[i]?=some p→∃e,es[p]?=some e/\vs[i]?=some e.2) :
  Walks prog w A I [I,S,T] [I] es.size (fun i v=>vs[i]?=some v) (fun i h=>EJ h I (.ref T) i S es.size ep/\Hn h S es ep t/\h.IsTuple T (ps.map fun (p:Nat)=>rawInt p).toArray) where
 sub:=fun b hb=>by simp at hb;simp [hb]
 frame:=fun i h h' st k=>⟨st.1.keep (k I (by simp)),st.2.1.keep (k S (by simp)),let ⟨o,e,c⟩:=st.2.2;⟨o,k T (by simp) o e,c⟩⟩
 item:=fun i s Q E hi st hQ=>by
  have hp:ps[i]?=some (ps[i]'(by omega)):=List.getElem?_eq_getElem (by omega)
  obtain ⟨e,he,hve⟩:=hv i _ hp
  refine N8 st.1 st.2.1 st.2.2 hp he fun h' k' sb=>hQ _ h' s.toks hve ⟨k',st.2.1.keep fun o e=>sb.extBut S o h1 e,let ⟨o,e,c⟩:=st.2.2;⟨o,sb.extBut T o h2 e,c⟩⟩ fun b o hb e=>sb.extBut b o (fun h=>hb (by simp [h])) e
 done:=fun s Q E st hQ=>QS hh st.1 st.2.1 st.2.2 (List.getElem?_eq_none (by omega)) fun h' he=>hQ h' s.toks fun b o hb e=>he b o (fun h=>hb (by simp [h])) e
 self:=fun i s Q E st hQ=>Hc st.1 hQ
theorem PL (hh:A.handled=none) (hb:byT w=true) (I:Addr) (h1:S≠I) :
  Walks prog w A I [I,S] [I] es.size (fun i v=>((pickOrder (w.params.setOrder S ep) es).toList.map (·.2))[i]?=some v) (fun i h=>EJ h I (.int (0:Nat) 0) i S es.size ep/\Hn h S es ep t) where
 sub:=fun b hb=>by simp at hb;simp [hb]
 frame:=fun i h h' st k=>⟨st.1.keep (k I (by simp)),st.2.keep (k S (by simp))⟩
 item:=fun i s Q E hi st hQ=>by
  have hsz:(pickOrder (w.params.setOrder S ep) es).size=es.size:=by have:=(Cm (w.params.setOrder S ep) es).length_eq;simpa using this
  have e:(pickOrder (w.params.setOrder S ep) es)[i]?=some ((pickOrder (w.params.setOrder S ep) es)[i]'(by omega)):=Array.getElem?_eq_getElem (by omega)
  refine Mz (v:=((pickOrder (w.params.setOrder S ep) es)[i]'(by omega)).2) (j:=0) st.1 st.2 (fun Q' q E=>GO hb st.2 0 Q' (by rw [e];exact q)) fun h' k' sb=>hQ _ h' s.toks (by rw [List.getElem?_map,Array.getElem?_toList,e];rfl) ⟨k',st.2.keep fun o e=>sb.extBut S o h1 e⟩ fun b o hb e=>sb.extBut b o (fun h=>hb (by simp [h])) e
 done:=fun s Q E st hQ=>by
  have hsz:(pickOrder (w.params.setOrder S ep) es).size=es.size:=by have:=(Cm (w.params.setOrder S ep) es).length_eq;simpa using this
  exact O4 hh st.1 st.2 (fun Q' q E=>GO hb st.2 0 Q' (by rw [Array.getElem?_eq_none (by omega)];exact q)) fun h' he=>hQ h' s.toks fun b o hb e=>he b o (fun h=>hb (by simp [h])) e
 self:=fun i s Q E st hQ=>Hc st.1 hQ
theorem Qs (hh:A.handled=none) (hb:byT w=false) (hl:t.led=true) (hd:(!t.plain&&decide (es.size > 1))=false) (hr:KU t.place) (I:Addr) (h1:S≠I) :
  Walks prog w A I [I,S] [I] es.size (fun i v=>(es.toList.map (·.2))[i]?=some v) (fun i h=>(∃slot:Nat,SetTable.below t.place slot=i/\EJ h I (.int slot 0) i S es.size ep)/\Hn h S es ep t) where
 sub:=fun b hb=>by simp at hb;simp [hb]
 frame:=fun i h h' st k=>⟨let ⟨sl,e,x⟩:=st.1;⟨sl,e,x.keep (k I (by simp))⟩,st.2.keep (k S (by simp))⟩
 item:=fun i s Q E hi st hQ=>by
  obtain ⟨⟨sl,hs,x⟩,r⟩:=st
  have hps:t.place.size=es.size:=by
   obtain ⟨_,_,_,_,hf⟩:=r
   simp only [SetTable.fits,Bool.and_eq_true,beq_iff_eq] at hf
   exact hf.1
  have e2:t.place[i]?=some (t.place[i]'(by omega)):=Array.getElem?_eq_getElem (by omega)
  refine Mz (v:=(es[i]).2) (j:=(t.place[i]'(by omega))+1) x r (fun Q' q E=>Hs hb r hl hd hr sl hs Q' (fun e j e3 e4=>?_) fun h=>absurd hi (by omega)) fun h' k' sb=>hQ _ h' s.toks ?_ ⟨⟨_,OQ hr e2,k'⟩,r.keep fun o e=>sb.extBut S o h1 e⟩ fun b o hb e=>sb.extBut b o (fun h=>hb (by simp [h])) e
  ·rw [Array.getElem?_eq_getElem hi] at e3
   rw [e2] at e4
   cases e3;cases e4
   exact q
  ·rw [List.getElem?_map,Array.getElem?_toList,Array.getElem?_eq_getElem hi];rfl
 done:=fun s Q E st hQ=>by
  obtain ⟨⟨sl,hs,x⟩,r⟩:=st
  refine O4 hh x r (fun Q' q E=>Hs hb r hl hd hr sl hs Q' (fun e j e3 e4=>?_) fun h=>q) fun h' he=>hQ h' s.toks fun b o hb e=>he b o (fun h=>hb (by simp [h])) e
  rw [Array.getElem?_eq_none (Nat.le_refl _)] at e3
  cases e3
 self:=fun i s Q E st hQ=>let ⟨⟨_,_,x⟩,_⟩:=st;Hc x hQ
theorem SQ {L:List Key}(hh:A.handled=none) (x:De prog w s.heap S L) {Q:Value→Shared→Prop}
  (hQ:∀(h':Heap) (d:Drawn) (I:Addr) (fp:List Addr) (St:Nat→Heap→Prop) (vs:List Value) (n:Nat),vs.length=n→(∀b o,s.heap.get? b=some o→h'.get? b=some o)→(∀b∈fp,b=S\/s.heap.objs.size≤b)→s.heap.objs.size≤I →
   Walks prog w A I fp [I] n (fun i v=>vs[i]?=some v) St→St 0 h'→(vs.map keyOf).Perm (L.map some)→n<scanBound→Q (.ref I) { s with heap:=h',drawn:=d }) :
  wpAny (model prog w) A (pyIter (.ref S)) Q E s:=by
 have ty:=x.type
 have hlt:=x.lt
 obtain ⟨o,es,ep,t,ho,hex,hd,hel,hpm,hb,hf,hgd⟩:=x
 have raw:Hn s.heap S es ep t:=⟨o,ho,hex,hd,hf⟩
 refine wpAny_pyIter_slot ty PySem.F.slot_set_iter (wpAny_call_entry PySem.F.slot_set_iter ty Jr ?_ (PySem.F.args_set_iter_1 _))
 unfold Builtin.«frozenset.__iter__» Builtin.Frozenset.slot0 Builtin.Frozenset.addrOf
 refine wpAny_bind (wpAny_bind (wpAny_pure (wpAny_pure ?_)))
 dsimp only
 unfold Builtin.Frozenset.sizeOf
 refine wpAny_bind (wpAny_bind (wpAny_setEntries_of ho hd hf (wpAny_pure ?_)))
 refine wpAny_bind (m:=setDrawn S) ?_
 unfold setDrawn
 refine wpAny_bind (wpAny_setState_of ho hd hf ?_)
 dsimp only
 refine wpAny_bind (m:=setsByText) ?_
 unfold setsByText
 refine wpAny_bind (wpAny_askSetting (wpAny_pure ?_))
 refine wpAny_pure ?_
 show wpAny _ _ (if (!byT w&&(!t.plain&&decide (es.size > 1)))=true then _ else _) _ _ s
 by_cases hdr:(!byT w&&(!t.plain&&decide (es.size > 1)))=true
 ·rw [if_pos hdr]
  refine wpAny_bind (Gw es.size (List.range es.size) s _ (by simp) fun ys d hp=>wpAny_bind ?_)
  refine wpAny_newTuple ?_ (by have:=hp.length_eq;simp at this ⊢;rw [this];exact fits_of_scanBound hb)
  have hly:ys.length=es.size:=by have:=hp.length_eq;simpa using this
  refine wpAny_bind (wpAny_setEpoch_of (s:={ s with heap:=s.heap.push _,drawn:=d }) (Heap.get?_push_of_some _ ho) hd hf ?_)
  simp only [newFields]
  refine wpAny_bind (wpAny_newObj_type (wpAny_pure ⟨_,rfl, "set_iterator", _,⟨_,Heap.get?_push_size _ rfl,rfl⟩,slot_next.lookup,?_⟩))
  have key:∀p∈ys,∃e,es[p]?=some e:=fun p hp2=>by
   have:=hp.mem_iff.mp hp2
   rw [List.mem_range] at this
   exact ⟨_,Array.getElem?_eq_getElem this⟩
  refine hQ _ d _ [_,S,s.heap.objs.size] _ (ys.map fun p=>((es[p]?).map (·.2)).getD .none) es.size (by simpa using hly) (fun b o e=>Heap.get?_push_of_some _ (Heap.get?_push_of_some _ e)) ?_ ?_ (Nf (t:=t) (ep:=ep) hh _ _ ?_ ?_ ys _ hly fun i p e=>?_) ⟨⟨_,Heap.get?_push_size _ rfl,rfl,?_⟩,raw.keep fun o e=>Heap.get?_push_of_some _ (Heap.get?_push_of_some _ e),⟨_,Heap.get?_push_of_some _ (Heap.get?_push_size _ rfl),rfl,_,rfl⟩⟩ ?_ hb
  ·intro b hb2
   simp only [List.mem_cons,List.not_mem_nil,or_false] at hb2
   rcases hb2 with rfl|rfl|rfl
   ·right;rw [Heap.size_push];omega
   ·exact .inl rfl
   ·right;exact Nat.le_refl _
  ·rw [Heap.size_push];omega
  ·rw [Heap.size_push];exact Nat.ne_of_lt (Nat.lt_succ_of_lt hlt)
  ·rw [Heap.size_push];exact Nat.ne_of_lt (Nat.lt_succ_self _)
  ·obtain ⟨e2,he2⟩:=key p (List.mem_of_getElem? e)
   refine ⟨e2,he2,?_⟩
   rw [List.getElem?_map,e]
   simp [he2]
  ·simp [rawInt]
  ·refine List.Perm.trans ?_ hpm
   refine ((hp.map (fun p=>((es[p]?).map (·.2)).getD .none)).map keyOf).trans ?_
   have:(List.range es.size).map (fun p=>((es[p]?).map (·.2)).getD .none)=es.toList.map (·.2):=by
    refine List.ext_getElem (by simp) fun i h1 h2=>?_
    simp at h1 h2
    simp [h1]
   rw [this,List.map_map]
   exact .refl _
 ·rw [if_neg hdr]
  refine wpAny_bind (wpAny_pure ?_)
  refine wpAny_bind (wpAny_setEpoch_of ho hd hf ?_)
  simp only [newFields]
  refine wpAny_bind (wpAny_newObj_type (wpAny_pure ⟨_,rfl, "set_iterator", _,⟨_,Heap.get?_push_size _ rfl,rfl⟩,slot_next.lookup,?_⟩))
  have fpo:∀b∈[s.heap.objs.size,S],b=S\/s.heap.objs.size≤b:=fun b hb2=>by
   simp only [List.mem_cons,List.not_mem_nil,or_false] at hb2
   rcases hb2 with rfl|rfl
   ·right;exact Nat.le_refl _
   ·exact .inl rfl
  cases hbt:byT w with
  | true =>
   refine hQ _ s.drawn _ [_,S] _ ((pickOrder (w.params.setOrder S ep) es).toList.map (·.2)) es.size ?_ (fun b o e=>Heap.get?_push_of_some _ e) fpo (Nat.le_refl _) (PL (t:=t) (ep:=ep) hh hbt _ (Nat.ne_of_lt hlt)) ⟨⟨_,Heap.get?_push_size _ rfl,rfl,?_⟩,raw.keep fun o e=>Heap.get?_push_of_some _ e⟩ ?_ hb
   ·have:=(Cm (w.params.setOrder S ep) es).length_eq;simpa using this
   ·refine List.Perm.trans ?_ hpm
    rw [List.map_map]
    exact (Cm (w.params.setOrder S ep) es).map _
   ·simp [rawInt]
  | false =>
   have hd2:(!t.plain&&decide (es.size > 1))=false:=by rw [hbt] at hdr;simpa using hdr
   have hps:t.place.size=es.size:=by
    simp only [SetTable.fits,Bool.and_eq_true,beq_iff_eq] at hf
    exact hf.1
   have hr:KU t.place:=by
    cases hpl:t.plain with
    | true=>exact hgd.2 hpl
    | false =>
     rw [hpl] at hd2
     simp at hd2
     intro i j hij a b ea eb
     rw [Array.getElem?_eq_none (by omega)] at eb
     cases eb
   refine hQ _ s.drawn _ [_,S] _ (es.toList.map (·.2)) es.size (by simp) (fun b o e=>Heap.get?_push_of_some _ e) fpo (Nat.le_refl _) (Qs (t:=t) (ep:=ep) hh hbt (by rw [hgd.1,hbt];rfl) hd2 hr _ (Nat.ne_of_lt hlt)) ⟨⟨0,OP hr,_,Heap.get?_push_size _ rfl,rfl,?_⟩,raw.keep fun o e=>Heap.get?_push_of_some _ e⟩ ?_ hb
   ·rw [List.map_map]
    exact hpm
   ·simp [rawInt]
theorem SU (hT:s.TypeIs (.ref S) "set") {Q:Bool→Shared→Prop}(h:Q false s):wpAny (model prog w) A (Builtin.List.listLengthHint (.ref S)) Q E s:=by
 unfold Builtin.List.listLengthHint
 refine wpAny_bind (wpAny_specialOf hT PySem.F.slot_set_len.lookup ?_)
 generalize hid:("set.__len__" : String)=id0
 wp_delta
 rw [show splitId id0=some ("set", "__len__") from by subst hid;decide +kernel]
 subst hid
 refine wpAny_bind (wpAny_isInstance (T := "set") (b:=true) hT (by rw [isSubtype_type];kernel_rfl) ?_)
 refine wpAny_ite_split (fun hab=>absurd hab (by decide)) (fun _=>?_)
 refine wpAny_ite_split (fun _=>?_) (fun hab=>absurd (by decide +kernel) hab)
 refine wpAny_bind (wpAny_typeOf hT ?_)
 exact wpAny_pure h
theorem NW {L:List Key}(hh:A.handled=none) (x:De prog w s.heap S L) {Q:List Value→Shared→Prop}
  (hQ:∀h' tk d (vs:List Value),(∀b o,s.heap.get? b=some o→h'.get? b=some o)→s.heap.objs.size<h'.objs.size→(vs.map keyOf).Perm (L.map some)→vs.length<scanBound→Q vs { s with heap:=h',toks:=tk,drawn:=d }):wpAny (model prog w) A (collect (.ref S)) Q E s:=by
 unfold collect
 refine wpAny_bind (wpAny_runValue (codeAny_builtin F.entry_proto_collect ?_))
 rw [Around.under_plainId F.plain_proto_collect _]
 show wpAny _ A.in1 (newList [] >>= fun l=>again (.builtin "list.__iadd__" ⟨[l,.ref S],[]⟩)) _ _ s
 refine wpAny_bind (wpAny_newObj_type ?_)
 refine wpAny_pure ⟨plainId_quiet F.plain_list_iadd _,codeAny_builtin F.entry_list_iadd ?_⟩
 rw [Around.under_plainId F.plain_list_iadd _]
 have hS₁:(s.heap.push { cls:=.type "list", data:=.seq ([]:List Value).toArray }).get? s.heap.objs.size=some { cls:=.type "list", data:=.seq ([]:List Value).toArray }:=Heap.get?_push_size _ rfl
 have kp:∀b o,s.heap.get? b=some o→(s.heap.push { cls:=.type "list", data:=.seq ([]:List Value).toArray }).get? b=some o:=fun b o e=>Heap.get?_push_of_some _ e
 have hne:s.heap.objs.size≠S:=Nat.ne_of_gt x.lt
 have x1:De prog w (s.heap.push { cls:=.type "list", data:=.seq ([]:List Value).toArray }) S L:=x.at' fun o e=>kp S o e
 show wpAny _ A.in1 (Builtin.List.listExtendWith (.ref s.heap.objs.size) (.ref S) (.ref s.heap.objs.size)) _ _ _
 unfold Builtin.List.listExtendWith
 refine wpAny_bind (wpAny_typeOf (T := "set") (s:={ s with heap:=s.heap.push { cls:=.type "list", data:=.seq ([]:List Value).toArray } }) x1.type ?_)
 have h1:Builtin.List.listSameRef (.ref s.heap.objs.size) (.ref S)=false:=by simp [Builtin.List.listSameRef,hne]
 simp only [h1,show (Value.type "set" == Value.type "list")=false from by decide,show (Value.type "set" == Value.type "tuple")=false from by decide,Bool.or_false,Bool.false_eq_true,if_false]
 refine wpAny_bind (SQ (A:=A.in1) (s:={ s with heap:=s.heap.push { cls:=.type "list", data:=.seq ([]:List Value).toArray } }) hh x1 fun h' d I fp St vs n hvl k1 hfp hI W st pm hb=>?_)
 have hS₂:=k1 _ _ hS₁
 have hSI:s.heap.objs.size<I:=by have h2:(s.heap.push { cls:=.type "list", data:=.seq ([]:List Value).toArray }).objs.size=s.heap.objs.size+1:=Heap.size_push ..;rw [h2] at hI;exact hI
 have hSf:s.heap.objs.size∉fp:=fun hm=>by
  rcases hfp _ hm with e|e
  ·exact hne e
  ·have h2:(s.heap.push { cls:=.type "list", data:=.seq ([]:List Value).toArray }).objs.size=s.heap.objs.size+1:=Heap.size_push ..
   rw [h2] at e;exact absurd e (Nat.not_le_of_lt (Nat.lt_succ_self _))
 refine wpAny_bind (wpAny_holding (SU (s:={ s with heap:=h',drawn:=d }) (x1.at' fun o e=>k1 S o e).type ?_))
 have key:∀(h:Heap) (c₁:Nat) (R:Result→Shared→Prop),St 0 h→(∀b o,b≠s.heap.objs.size→h'.get? b=some o→h.get? b=some o)→h.get? s.heap.objs.size=some { cls:=.type "list", data:=.seq #[] c₁ } →
   (∀h2 tk c',(∀b o,s.heap.get? b=some o→h2.get? b=some o)→h2.get? s.heap.objs.size=some { cls:=.type "list", dict:=none,data:=.seq vs.toArray c',slots:=#[] }→R (.ok (.ret (.ref s.heap.objs.size))) { s with heap:=h2,toks:=tk,drawn:=d }) →
   codeAny (model prog w) A (.builtin "list.extend.loop" ⟨[.ref s.heap.objs.size,.ref I,.ref s.heap.objs.size],[]⟩) R { s with heap:=h,drawn:=d }:=by
  intro h c₁ R hst hk hS₃ hR
  refine codeAny_extend_loopS W.toS (fits_of_scanBound hb) s.heap.objs.size hSf _ n 0 _ #[] c₁ rfl (Nat.zero_le _) hst hS₃ (ItemsOf.nil _) fun s' acc' c' hm hS' hacc=>?_
  rw [Moved.eq_with hm]
  have ea:acc'=vs.toArray:=by
   refine Array.ext (by rw [hacc.1];simpa using hvl.symm) fun i h1 h2=>?_
   have this:vs[i]?=some acc'[i]:=hacc.2 i acc'[i] (Array.getElem?_eq_getElem h1)
   simp at h2
   rw [List.getElem?_eq_getElem h2] at this
   simpa using (Option.some.inj this).symm
  subst ea
  refine hR s'.heap s'.toks c' (fun b o e=>hm.heap b o (fun hmem=>?_) (hk b o (Nat.ne_of_lt (Heap.lt_size e)) (k1 b o (kp b o e)))) hS'
  rcases List.mem_cons.mp hmem with e'|hmem
  ·exact absurd (Heap.lt_size e) (by rw [e'];exact Nat.lt_irrefl _)
  ·have:=Heap.lt_size e;rw [List.mem_singleton.mp hmem] at this;exact absurd (Nat.lt_trans this hSI) (Nat.lt_irrefl _)
 have fin:∀h2 tk c',(∀b o,s.heap.get? b=some o→h2.get? b=some o)→h2.get? s.heap.objs.size=some { cls:=.type "list", dict:=none,data:=.seq vs.toArray c',slots:=#[] } →
   wpAny (model prog w) A (load s.heap.objs.size >>= fun o=>match o.data with
    | .seq xs _=>pure xs.toList
    | _=>unsupported "internal:collect") Q E { s with heap:=h2,toks:=tk,drawn:=d }:=fun h2 tk c' a1 a2=>by
  refine wpAny_bind (wpAny_load a2 ?_)
  exact wpAny_pure (hQ h2 tk d vs a1 (Heap.lt_size a2) pm (by rw [hvl];exact hb))
 refine wpAny_ite_split (fun _=>?_) (fun _=>wpAny_pure ⟨plainId_quiet PySem.F.plain_extend_loop _,key _ 0 _ st (fun b o _ e=>e) hS₂ fun h2 tk c' a1 a2=>fin h2 tk c' a1 a2⟩)
 refine wpAny_bind (wpAny_rule ?_)
 refine wpAny_bind ?_
 show wpAny _ _ (updateSeq s.heap.objs.size (·.push .none) >>= fun _=>updateSeq s.heap.objs.size (·.pop)) _ _ _
 refine wpAny_bind (wpAny_updateSeq hS₂ rfl ?_)
 have hS₄:=Heap.get?_update_self (Obj.mapSeq (·.push Value.none)) hS₂ rfl
 refine wpAny_updateSeq (hz:=by seq_fits) hS₄ rfl ?_
 have hS₅:=Heap.get?_update_self (Obj.mapSeq (·.pop)) hS₄ rfl
 refine wpAny_pure ⟨plainId_quiet PySem.F.plain_extend_loop _,key _ _ _ ?_ (fun b o hb e=>?_) hS₅ fun h2 tk c' a1 a2=>fin h2 tk c' a1 a2⟩
 ·refine W.frame 0 _ _ st fun b hb o e=>?_
  have hbS:b≠s.heap.objs.size:=fun h=>hSf (h ▸ hb)
  exact (Heap.get?_update_other _ _ (Ne.symm hbS)).trans ((Heap.get?_update_other _ _ (Ne.symm hbS)).trans e)
 ·exact (Heap.get?_update_other _ _ (Ne.symm hb)).trans ((Heap.get?_update_other _ _ (Ne.symm hb)).trans e)
end
end Stk
namespace L2
open PySem PySem.Spec PyProof.Rows
theorem Inv.drawn {X:Cx} {pins:List (Addr×Obj)} {σ:St} {H:Hp} {s:Shared} (I:Inv X pins σ H s) (d:Drawn):Inv X pins σ H { s with drawn:=d }:=by
 obtain ⟨a1,a2,a3,a4,a5,a6,a7,a8,a9,a10,a11⟩:=I
 exact ⟨a1,a2,a3,a4,a5,a6,a7,a8,a9,a10,a11⟩
theorem T1:∀{vs:List Value}{L:List Key},(vs.map Stk.keyOf).Perm (L.map some)→∃L':List Key,vs.map Stk.keyOf=L'.map some/\L'.Perm L:=fun {vs L} h=>by
 refine ⟨vs.map fun v=>(Stk.keyOf v).getD (.inl 0),?_,?_⟩
 ·rw [List.map_map]
  refine List.map_congr_left fun v hv=>?_
  have:=h.mem_iff.mp (List.mem_map_of_mem hv)
  obtain ⟨k,_,e⟩:=List.mem_map.mp this
  simp [←e]
 ·have:=h.map fun o=>o.getD (.inl 0)
  rw [List.map_map,List.map_map] at this
  simpa [Function.comp_def] using this
theorem Lm {k:Key}{v:Value}(h:Stk.keyOf v=some k):RelV (kV k) v:=by
 cases v <;> first|cases h|skip
 ·exact ⟨_,rfl⟩
 ·exact ⟨_,rfl⟩
section
variable {X:Cx}{K:PySem.W.Frag}{e:Expr}{te:TE}{p1 p2 pos1 pos2:Pos}
end
end L2
namespace Dpr
open PySem PySem.Spec PyProof.Rows L2
def DW (prog:Program) (w:World) (h:Heap) (d:Addr) (xs:List (List Key×Addr×Value)):Prop :=
 ∃o es ep,h.get? d=some o/\o.ExactDict/\o.data=.dict es ep/\es.toList=xs.map (entryOfKey (tupleKind (Ah prog w)))
theorem DW.keep {prog:Program}{w:World}{h h':Heap}{d:Addr}{xs:List (List Key×Addr×Value)}(x:DW prog w h d xs) (k:∀o,h.get? d=some o→h'.get? d=some o):DW prog w h' d xs:=let ⟨o,es,ep,e,r⟩:=x;⟨o,es,ep,k o e,r⟩
section
variable {prog:Program}{w:World}{A:Around}{R:Result→Shared→Prop}{I:Addr}{fp wr:List Addr}{G:Array GenState→Array GenState→Prop}{n:Nat}{P:Nat→Value→Prop}{St:Nat→Shared→Prop}
end
end Dpr
namespace Dpr
open PySem PySem.Spec PyProof.Rows L2
end Dpr
namespace L2
open PySem PySem.Spec PyProof.Rows
section
variable {X:Cx}
end
end L2
namespace L2
open PySem PySem.Spec PyProof.Rows
def Qm (h:Heap) (u:Value) (ks:List Key) (rs:List Addr):Prop:=∃a o items m us,u=.ref a/\h.get? a=some o/\o.cls=.type "tuple" /\ o.data=.seq items m/\items.toList=us++rs.map Value.ref/\us.map Ar=ks/\∀v∈us,BN v
def WQ (h:Heap) (rs:List Addr) (tl:List Key) (rs':List Addr) (tl':List Key):Prop :=
 (rs=rs'/\tl=tl')\/∃(p q:Addr) (ns ms:List Int),rs=[p]/\rs'=[q]/\tl=ns.map Sum.inl/\tl'=ms.map Sum.inl/\CM h (.ref p) tl/\CM h (.ref q) tl'
abbrev Dn:=List Key×List Addr×List Key
def Cu (d:Dn):List Key:=d.1++d.2.2
structure J6 (h:Heap) (vs:List Value) (ds:List Dn) (sh:List Bool):Prop where
 len:vs.length=ds.length
 hn:sh≠[]
 one:∀(i:Nat) u d,vs[i]?=some u→ds[i]?=some d→Qm h u d.1 d.2.1/\d.1.map isI=sh
 two:∀(i j:Nat) d e,ds[i]?=some d→ds[j]?=some e→d.1=e.1→WQ h d.2.1 d.2.2 e.2.1 e.2.2
theorem Jq:∀{us us':List Value}{rs rs':List Addr},(∀v∈us,BN v)→(∀v∈us',BN v)→us++rs.map Value.ref=us'++rs'.map Value.ref→us=us'/\rs=rs'
 | [],[],rs,rs',_,_,e=>⟨rfl,by
   have e:rs.map Value.ref=rs'.map Value.ref:=e
   exact (List.map_inj_right (fun a b q=>by injection q)).mp e⟩
 | [],v::us',rs,rs',_,h,e=>by
  cases rs with
  | nil=>cases e
  | cons r rs =>
   have e:Value.ref r::rs.map Value.ref=v::(us'++rs'.map Value.ref):=e
   injection e with e1 _
   have:=h v List.mem_cons_self
   rw [←e1] at this
   exact this.elim
 | v::us,[],rs,rs',h,_,e=>by
  cases rs' with
  | nil=>cases e
  | cons r rs' =>
   have e:v::(us++rs.map Value.ref)=Value.ref r::rs'.map Value.ref:=e
   injection e with e1 _
   have:=h v List.mem_cons_self
   rw [e1] at this
   exact this.elim
 | v::us,v'::us',rs,rs',h,h',e=>by
  have e:v::(us++rs.map Value.ref)=v'::(us'++rs'.map Value.ref):=e
  injection e with e1 e2
  obtain ⟨a,b⟩:=Jq (fun w hw=>h w (List.mem_cons_of_mem _ hw)) (fun w hw=>h' w (List.mem_cons_of_mem _ hw)) e2
  exact ⟨by rw [e1,a],b⟩
theorem Qm.one {h:Heap}{u:Value}{ks ks':List Key}{rs rs':List Addr}(t:Qm h u ks rs) (t':Qm h u ks' rs'):ks=ks'/\rs=rs':=by
 obtain ⟨a,o,items,m,us,rfl,e,_,d,l,k,f⟩:=t
 obtain ⟨a',o',items',m',us',q,e',_,d',l',k',f'⟩:=t'
 injection q with q
 subst q
 rw [e] at e'
 cases e'
 rw [d] at d'
 cases d'
 obtain ⟨x,y⟩:=Jq f f' (l.symm.trans l')
 exact ⟨by rw [←k,←k',x],y⟩
theorem CM.one {h:Heap}{u:Value}{ks ks':List Key}(t:CM h u ks) (t':CM h u ks'):ks=ks':=t.kf.symm.trans t'.kf
noncomputable def kfC (vs:List Value) (kss:List (List Key)) (u:Value):List Key:=by
 classical exact if hx:∃ks,(u,ks)∈vs.zip kss then hx.choose else []
theorem J6.kf {h:Heap}{vs:List Value}{ds:List Dn}{sh:List Bool}(x:J6 h vs ds sh):∀(i:Nat) u d,vs[i]?=some u→ds[i]?=some d→kfC vs (ds.map Cu) u=Cu d:=by
 intro i u d e1 e2
 have hx:∃ks,(u,ks)∈vs.zip (ds.map Cu):=⟨Cu d,List.mem_iff_getElem?.mpr ⟨i,List.getElem?_zip_eq_some.mpr ⟨e1,by rw [List.getElem?_map,e2];rfl⟩⟩⟩
 unfold kfC
 rw [dif_pos hx]
 obtain ⟨j,hj⟩:=List.mem_iff_getElem?.mp hx.choose_spec
 obtain ⟨e3,e4⟩:=List.getElem?_zip_eq_some.mp hj
 rw [List.getElem?_map] at e4
 obtain ⟨d',e5,e6⟩:=Option.map_eq_some_iff.mp e4
 have e3:vs[j]?=some u:=e3
 have e6:Cu d'=hx.choose:=e6
 rw [←e6]
 obtain ⟨a,b⟩:=(x.one i u d e1 e2).1.one (x.one j u d' e3 e5).1
 have tl:d.2.2=d'.2.2:=by
  rcases x.two i j d d' e2 e5 a with ⟨_,q⟩|⟨p,q,_,_,r1,r2,_,_,t1,t2⟩
  ·exact q
  ·rw [b,r2] at r1
   injection r1 with r1
   subst r1
   exact t1.one t2
 unfold Cu
 rw [a,tl]
section
variable {prog:Program}{w:World}{A:Around}{E:Value→Shared→Prop}{s:Shared}{b:Bool}{Q:Bool→Shared→Prop}
theorem Ou {fin:Bool}:∀(xs ys:List Value) (zs zs':List Value) (i:Nat),(∀v∈xs,BN v)→(∀v∈ys,BN v)→xs.map (fun v=>isI (Ar v))=ys.map (fun v=>isI (Ar v)) →
  (xs.map Ar=ys.map Ar→∀j,i+xs.length≤j→PySem.W.KatLex prog w A b fin Q (zs.zip zs') j s)→(xs.map Ar≠ys.map Ar→Q (A4 (xs.map Ar) (ys.map Ar)) s)→PySem.W.KatLex prog w A b fin Q ((xs++zs).zip (ys++zs')) i s
 | [],[],zs,zs',i,_,_,_,h,_=>h rfl i (Nat.le_refl _)
 | [],_::_,_,_,_,_,_,e,_,_=>by cases e
 | _::_,[],_,_,_,_,_,e,_,_=>by cases e
 | x::xs,y::ys,zs,zs',i,hx,hy,e,h,h'=>by
  obtain ⟨e1,e2⟩:=List.cons.inj e
  have fx:=hx x List.mem_cons_self
  have fy:=hy y List.mem_cons_self
  refine PySem.W.kat_cons (OJ fx fy e1 (PySem.W.kat_go (fun q=>?_) fun q=>?_))
  ·have q:=of_decide_eq_true q
   refine PySem.W.kat_yes (Ou xs ys zs zs' _ (fun v hv=>hx v (List.mem_cons_of_mem _ hv)) (fun v hv=>hy v (List.mem_cons_of_mem _ hv)) e2 (fun z j hj=>h (by rw [List.map_cons,List.map_cons,q,z]) j (by rw [List.length_cons];omega)) fun z=>?_)
   have:=h' (fun k=>z (List.cons.inj k).2)
   rw [List.map_cons,List.map_cons,A4,if_pos q] at this
   exact this
  ·have q:=of_decide_eq_false q
   have:=h' (fun k=>q (List.cons.inj k).1)
   rw [List.map_cons,List.map_cons,A4,if_neg q] at this
   exact PySem.W.kat_no (SJ _ fx fy e1 this)
theorem NG:∀(rs:List Addr) (i:Nat),Q false s→PySem.W.KatLex prog w A b false Q ((rs.map Value.ref).zip (rs.map Value.ref)) i s
 | [],_,h=>PySem.W.kat_nil h
 | r::rs,i,h=>PySem.W.kat_cons (PySem.SeqAt.EqAt.same (.ref r) prog w _ _ (PySem.W.kat_yes (NG rs _ h)))
theorem NI:∀{ks ls xs ys:List Key},ks.length=ls.length→A4 (ks++xs) (ls++ys)=if ks=ls then A4 xs ys else A4 ks ls
 | [],[],_,_,_=>by rw [if_pos rfl];rfl
 | [],_::_,_,_,e=>by cases e
 | _::_,[],_,_,e=>by cases e
 | k::ks,l::ls,xs,ys,e=>by
  have ih:=NI (ks:=ks) (ls:=ls) (xs:=xs) (ys:=ys) (by simpa using e)
  show (if k=l then A4 (ks++xs) (ls++ys) else kLt k l)=if k::ks=l::ls then A4 xs ys else (if k=l then A4 ks ls else kLt k l)
  by_cases h:k=l
  ·subst h
   rw [if_pos rfl,ih]
   by_cases h2:ks=ls
   ·subst h2;rw [if_pos rfl,if_pos rfl]
   ·rw [if_neg h2,if_neg (fun q=>h2 (List.cons.inj q).2),if_pos rfl]
  ·rw [if_neg h,if_neg (fun q=>h (List.cons.inj q).1),if_neg h]
theorem F5 {h:Heap}:∀{us:List Value},(∀v∈us,BN v)→∃as,ReadsAll h us ((us.map Ar).map kD) as
 | [],_=>⟨_,.nil⟩
 | v::us,f=>by
  obtain ⟨as,r⟩:=F5 (h:=h) (fun w hw=>f w (List.mem_cons_of_mem _ hw))
  have fv:=f v List.mem_cons_self
  cases v <;> first|exact fv.elim|skip
  ·exact ⟨_,.cons (.int _ _) r⟩
  ·exact ⟨_,.cons (.str _ _) r⟩
theorem MF:∀ns:List Int,(ns.map (Sum.inl:Int→Key)).map kD=ns.map PyData.int
 | []=>rfl
 | n::ns=>by rw [List.map_cons,List.map_cons,List.map_cons,MF ns];rfl
theorem QR {p q:Addr}{ns ms:List Int}(t1:CM s.heap (.ref p) (ns.map Sum.inl)) (t2:CM s.heap (.ref q) (ms.map Sum.inl)) (hu:A.units+64<cLine):SeqAt.EqAt A s (.ref p) (.ref q) (decide (ns=ms)):=by
 obtain ⟨a,o,items,m,e0,e,c,d,k,f⟩:=t1
 obtain ⟨a',o',items',m',e0',e',c',d',k',f'⟩:=t2
 injection e0 with e0
 injection e0' with e0'
 subst e0 e0'
 obtain ⟨as,r⟩:=F5 (h:=s.heap) f
 obtain ⟨as',r'⟩:=F5 (h:=s.heap) f'
 rw [k,MF] at r
 rw [k',MF] at r'
 have:=SeqAt.eqAt_reads (.tuple (ns.map PyData.int)) (.tuple (ms.map PyData.int)) A s (.ref p) (.ref q) as as' (.tuple e c d r) (.tuple e' c' d' r') (by simp [PyData.canLay0,(lay_ints ns).1]) (by simp [PyData.canLay0,(lay_ints ms).1]) (by
  have h1:(PyData.tuple (ns.map PyData.int)).depth≤1:=by simp [PyData.depth,(lay_ints ns).2]
  omega)
 have e3:PyData.eqv (.tuple (ns.map PyData.int)) (.tuple (ms.map PyData.int))=decide (ns=ms):=by
  simp only [PyData.eqv]
  exact NN ns ms
 rw [e3] at this
 exact this
theorem QG {p q:Addr}{ns ms:List Int}(t1:CM s.heap (.ref p) (ns.map Sum.inl)) (t2:CM s.heap (.ref q) (ms.map Sum.inl)) (hu:A.units+64<cLine) (h:Q (A4 (ns.map Sum.inl) (ms.map Sum.inl)) s):wpAny (model prog w) A (oneLt' false (.ref p) (.ref q)) Q E s:=by
 obtain ⟨a,o,items,m,e0,e,c,d,k,f⟩:=t1
 obtain ⟨a',o',items',m',e0',e',c',d',k',f'⟩:=t2
 injection e0 with e0
 injection e0' with e0'
 subst e0 e0'
 obtain ⟨cls,dd,data,sl⟩:=o
 obtain ⟨cls2,dd2,data2,sl2⟩:=o'
 simp only at c d c' d'
 subst c d c' d'
 have isn:∀(l:List Int) (i:Nat) (z:Key),(l.map (Sum.inl:Int→Key))[i]?=some z→isI z=true:=fun l i z hz=>by
  rw [List.getElem?_map] at hz
  obtain ⟨n,_,rfl⟩:=Option.map_eq_some_iff.mp hz
  rfl
 have lx:PH items.toList items'.toList items.size items'.size (A4 (ns.map Sum.inl) (ms.map Sum.inl)):=by
  refine ⟨⟨items.toList,[],by simp,.inl rfl,f,f',fun i x y e1 e2=>?_,by rw [k,k']⟩,by simp;omega⟩
  rw [isn ns i (Ar x) (by rw [←k,List.getElem?_map,e1];rfl),isn ms i (Ar y) (by rw [←k',List.getElem?_map,e2];rfl)]
 refine PySem.W.kat_one _ _ ?_
 exact richCompare_meets_room (op:=.Lt) ⟨_,e,rfl⟩ ⟨_,e',rfl⟩ PySem.F.slot_tuple_lt PySem.F.entry_tuple_lt (PySem.F.args_tuple_lt_2 _ _) (Kc p q _ _ m m' dd dd2 sl sl2 _ lx)
  ⟨e,e',⟨(fun x=>nomatch x),h⟩⟩ (by omega)
theorem J6.cmp {h:Heap}{vs:List Value}{ds:List Dn}{sh:List Bool}(x:J6 h vs ds sh) (hu:A.units+64<cLine) (h2:2≤vs.length) (kp:∀a o items m,h.get? a=some o→o.cls=.type "tuple" → o.data=.seq items m→s.heap.get? a=some o) :
  ∃κ,(∀(Q:SortKind→Shared→Prop) (E:Value→Shared→Prop),Q κ s→wpAny (model prog w) A (keyKind' vs.toArray) Q E s)/\Srt.Cmp prog w A s κ lexOrd (kfC vs (ds.map Cu)) (pairsOf vs):=by
 have mp:∀p∈(pairsOf vs).toList,p.1∈vs:=fun p hp=>by rw [pairsOf_toList] at hp;exact (mem_zip_self hp).2
 have kn:∀{u ks rs},Qm h u ks rs→Qm s.heap u ks rs:=fun ⟨a,o,items,m,us,e0,e,c,d,r⟩=>⟨a,o,items,m,us,e0,kp a o items m e c d,c,d,r⟩
 have kt:∀{u ks},CM h u ks→CM s.heap u ks:=fun ⟨a,o,items,m,e0,e,c,d,r⟩=>⟨a,o,items,m,e0,kp a o items m e c d,c,d,r⟩
 have at':∀u∈vs,∃(i:Nat) (d:Dn),vs[i]?=some u/\ds[i]?=some d:=fun u hu=>FP x.len hu
 refine ⟨tuples' true,fun Q E q=>?_,⟨fun p hp q hq Q E k=>?_⟩⟩
 ·have key:∀(l:List Value),(∀u∈l,u∈vs)→∃fs,PySem.W.KatTups s.heap l fs/\fs.length=l.length/\∀v∈fs,BN v/\isI (Ar v)=sh.headD true:=fun l=>by
   induction l with
   | nil=>exact fun _=>⟨[],trivial,rfl,fun v hv=>by cases hv⟩
   | cons u l ih =>
    intro hu
    obtain ⟨fs,k1,k2,k3⟩:=ih fun v hv=>hu v (List.mem_cons_of_mem _ hv)
    obtain ⟨i,d,e1,e2⟩:=at' u (hu u List.mem_cons_self)
    obtain ⟨t,z⟩:=x.one i u d e1 e2
    obtain ⟨a,o,items,m,us,rfl,e,c,d',l0,r,fl⟩:=kn t
    match us,l0,r,fl with
    | [],_,r,_ =>
     have r:[]=d.1:=r
     rw [←r] at z
     exact absurd z.symm x.hn
    | f0::l1,l0,r,fl =>
     have g0:items[0]?=some f0:=by rw [←Array.getElem?_toList,l0];rfl
     refine ⟨f0::fs,PySem.W.KatTups.cons e c d' g0 k1,by rw [List.length_cons,List.length_cons,k2],fun v hv=>?_⟩
     rcases List.mem_cons.mp hv with rfl|hv
     ·refine ⟨fl _ (by simp),?_⟩
      have r:Ar v::l1.map Ar=d.1:=r
      rw [←z,←r]
      rfl
     ·exact k3 v hv
  obtain ⟨fs,k1,k2,k3⟩:=key vs fun _ h=>h
  cases hh:sh.headD true with
  | true =>
   refine PySem.W.kat_kind (T:=.type "int") k1 (by omega) (fun v hv=>?_) (by decide) q
   obtain ⟨fl,z⟩:=k3 v hv
   rw [hh] at z
   cases v <;> first|exact fl.elim|exact Bool.noConfusion (show true=false from z)|exact Bool.noConfusion (show false=true from z)|exact .now
  | false =>
   refine PySem.W.kat_kind (T:=.type "str") k1 (by omega) (fun v hv=>?_) (by decide) q
   obtain ⟨fl,z⟩:=k3 v hv
   rw [hh] at z
   cases v <;> first|exact fl.elim|exact Bool.noConfusion (show true=false from z)|exact Bool.noConfusion (show false=true from z)|exact .now
 ·obtain ⟨i,d,e1,e2⟩:=at' _ (mp p hp)
  obtain ⟨j,d',e3,e4⟩:=at' _ (mp q hq)
  have k:Q (A4 (kfC vs (ds.map Cu) p.1) (kfC vs (ds.map Cu) q.1)) s:=k
  rw [x.kf i _ d e1 e2,x.kf j _ d' e3 e4] at k
  obtain ⟨t,z1⟩:=x.one i _ d e1 e2
  obtain ⟨t',z2⟩:=x.one j _ d' e3 e4
  obtain ⟨a,o,items,m,us,u1,e,c,dd,l0,r,fl⟩:=kn t
  obtain ⟨a',o',items',m',us',u2,e',c',dd',l0',r',fl'⟩:=kn t'
  have es:us.map (fun v=>isI (Ar v))=us'.map (fun v=>isI (Ar v)):=by
   have h1:(us.map Ar).map isI=(us'.map Ar).map isI:=by rw [r,r',z1,z2]
   rw [List.map_map,List.map_map] at h1
   exact h1
  have el:d.1.length=d'.1.length:=by have:=congrArg List.length (z1.trans z2.symm);simpa using this
  unfold Cu at k
  rw [NI el] at k
  rw [u1,u2]
  refine PySem.W.kat_lt e dd e' dd' ?_
  rw [l0,l0']
  have lu:us.length=d.1.length:=by rw [←r,List.length_map]
  have lu':us'.length=d'.1.length:=by rw [←r',List.length_map]
  have sz1:items.size=us.length+d.2.1.length:=by rw [←Array.length_toList,l0];simp
  have sz2:items'.size=us'.length+d'.2.1.length:=by rw [←Array.length_toList,l0'];simp
  have hpos:0<us.length:=by
   rw [lu]
   refine Nat.pos_of_ne_zero fun z=>x.hn ?_
   rw [←z1,List.eq_nil_of_length_eq_zero z];rfl
  refine Ou us us' _ _ 0 fl fl' es (fun q j hj=>?_) fun q=>?_
  ·rw [r,r'] at q
   rw [if_pos q] at k
   rcases x.two i _ d d' e2 e4 q with ⟨q1,q2⟩|⟨p',q',ns,ms,r1,r2,r3,r4,t1,t2⟩
   ·rw [decide_eq_false (by rw [sz1,sz2,lu,lu',el,q1];omega),q1]
    rw [q2,ER] at k
    exact NG _ _ k
   ·rw [decide_eq_false (by rw [sz1,sz2,lu,lu',el,r1,r2];simp),r1,r2]
    rw [r3] at t1
    rw [r4] at t2
    rw [r3,r4] at k
    refine PySem.W.kat_cons (QR (kt t1) (kt t2) hu prog w _ _ (PySem.W.kat_go (fun z=>?_) fun z=>?_))
    ·have z:=of_decide_eq_true z
     rw [z,ER] at k
     exact PySem.W.kat_yes (PySem.W.kat_nil k)
    ·refine PySem.W.kat_no ?_
     have j0:(j==0)=false:=by simp;omega
     rw [j0,Bool.and_false]
     exact QG (kt t1) (kt t2) hu k
  ·rw [r,r'] at q ⊢
   rw [if_neg q] at k
   exact k
end
def HC (K:PySem.W.Frag) (H:Hp) (xs:List V) (ds:List Dn) (sh:List Bool):Prop:=sh≠[]/\Paired (fun x (d:Dn)=>(∃a,x=.ref a/\SqT K H a (d.1.map kV++d.2.1.map V.ref))/\d.1.map isI=sh) xs ds /\
 ∀(i j:Nat) d e,ds[i]?=some d→ds[j]?=some e→d.1=e.1→(d.2.1=e.2.1/\d.2.2=e.2.2)\/∃(p q:Addr) (ns ms:List Int),d.2.1=[p]/\e.2.1=[q]/\d.2.2=ns.map Sum.inl/\e.2.2=ms.map Sum.inl/\SqT K H p (ns.map V.int)/\SqT K H q (ms.map V.int)
section
variable {X:Cx}{pins:List (Addr×Obj)}{σ:St}{H:Hp}{s:Shared}
theorem Mj:∀{rs:List Addr}{us:List Value},Vals (rs.map V.ref) us→us=rs.map Value.ref
 | [],_,h=>by cases h;rfl
 | r::rs,_,h=>by
  cases h with
  | cons h1 h2 =>
   cases h1
   rw [Mj h2]
   rfl
theorem Ke (I:Inv X pins σ H s) {p:Addr}{ns:List Int}(h:SqT X.K H p (ns.map V.int)):CM s.heap (.ref p) (ns.map Sum.inl):=by
 have h':SqT X.K H p ((ns.map (Sum.inl:Int→Key)).map kV):=by rw [List.map_map];exact h
 obtain ⟨its2,rv,⟨o,ho,hc,n,hd⟩,_⟩:=I.tuple h'
 obtain ⟨k1,k2⟩:=FR rv
 exact ⟨p,o,its2.toArray,n,rfl,ho,hc,hd,by simpa using k1,by simpa using k2⟩
theorem HC.vals (I:Inv X pins σ H s) {xs:List V}{ds:List Dn}{sh:List Bool}{its:List Value}(h:HC X.K H xs ds sh) (r:Vals xs its):J6 s.heap its ds sh:=by
 obtain ⟨hn,p,two⟩:=h
 have hl:=r.length
 obtain ⟨h1,h2⟩:=AN p
 refine ⟨by omega,hn,fun i u d e1 e2=>?_,fun i j d e e1 e2 q=>?_⟩
 ·have hi:=(List.getElem?_eq_some_iff.mp e2).1
  have e3:xs[i]?=some xs[i]:=List.getElem?_eq_getElem (by omega)
  obtain ⟨⟨a,ea,hq⟩,z⟩:=h2 i _ _ e3 e2
  obtain ⟨u',e4,e5⟩:=r.get e3
  rw [e1] at e4
  cases e4
  rw [ea] at e5
  obtain rfl:u=Value.ref a:=e5
  obtain ⟨its2,rv,⟨o,ho,hc,n,hd⟩,_⟩:=I.tuple hq
  obtain ⟨us,ws,rfl,v1,v2⟩:=Ia rv
  obtain ⟨k1,k2⟩:=FR v1
  rw [Mj v2] at hd
  exact ⟨⟨a,o,_,n,us,rfl,ho,hc,hd,by simp,k1,k2⟩,z⟩
 ·rcases two i j d e e1 e2 q with h|⟨p,q,ns,ms,r1,r2,r3,r4,t1,t2⟩
  ·exact .inl h
  ·exact .inr ⟨p,q,ns,ms,r1,r2,r3,r4,by rw [r3];exact Ke I t1,by rw [r4];exact Ke I t2⟩
end
theorem Tf {its:List Value}{ys:List V}{kss:List (List Key)}{kf:Value→List Key}(r:Vals ys its) (hk:its.length=kss.length) (hkf:∀(i:Nat) u ks,its[i]?=some u→kss[i]?=some ks→kf u=ks) {out:Array Keyed}(p:out.Perm (pairsOf its)) (u:Srt.Up (O:=lexOrd) kf out 0 (pairsOf its).size) :
    ∃qs:List (V×List Key),qs.Perm (ys.zip kss)/\Vals (qs.map (·.1)) (out.map (·.2)).toList/\(qs.map (·.2)).Pairwise (fun a b=>A4 b a=false):=by
  have pl:out.toList.Perm (its.zip its):=by rw [←pairsOf_toList];exact Array.perm_iff_toList_perm.mp p
  have me:∀q∈out.toList,q.1=q.2/\q.1∈its:=fun q hq=>mem_zip_self (pl.mem_iff.mp hq)
  have e0:(out.map (·.2)).toList=out.toList.map (·.2):=Array.toList_map ..
  have pu:(out.toList.map (·.2)).Perm its:=by
    have:=pl.map (·.2)
    rwa [List.map_snd_zip (Nat.le_refl _)] at this
  have hl:=r.length
  have pf:Paired (fun (q:V×List Key) v=>RelV q.1 v/\kf v=q.2) (ys.zip kss) its:=by
    refine Ax (by rw [List.length_zip];omega) fun i a b e1 e2=>?_
    obtain ⟨e3,e4⟩:=List.getElem?_zip_eq_some.mp e1
    obtain ⟨v,e5,e6⟩:=r.get e3
    rw [e2] at e5
    cases e5
    exact ⟨e6,hkf i b a.2 e2 e4⟩
  obtain ⟨qs,q1,q2⟩:=FK pu pf
  obtain ⟨l2,g2⟩:=AN q2
  refine ⟨qs,q1,?_,?_⟩
  · rw [e0]
    refine Ax (by rw [List.length_map,l2]) fun i a b e1 e2=>?_
    rw [List.getElem?_map] at e1
    obtain ⟨q,e3,rfl⟩:=Option.map_eq_some_iff.mp e1
    exact (g2 i q b e3 e2).1
  · rw [List.pairwise_iff_getElem]
    intro i j hi hj hij
    rw [List.length_map] at hi hj
    rw [List.length_map] at l2
    have hs:(pairsOf its).size=out.size:=p.size_eq.symm
    have ko:∀k (hk:k<qs.length),(qs[k]).2=Srt.KX (O:=lexOrd) kf out k:=fun k hk=>by
      have hk2 : k < out.size := by have : out.toList.length = out.size := by simp
                                    omega
      rw [Srt.BI hk2]
      have e1:qs[k]?=some qs[k]:=List.getElem?_eq_getElem hk
      have e2:(out.toList.map (·.2))[k]?=some out[k].2:=by rw [List.getElem?_map,Array.getElem?_toList,getElem?_pos out k hk2];rfl
      have:=(g2 k _ _ e1 e2).2
      rw [(me out[k] (by simp)).1,this]
    have := u i j (Nat.zero_le _) (Nat.le_of_lt hij) (by have : out.toList.length = out.size := by simp
                                                         omega)
    rw [←ko i hi,←ko j hj] at this
    rw [List.getElem_map,List.getElem_map]
    exact this
section
variable {X:Cx}{K:PySem.W.Frag}
theorem Gz {k:Nat}(hr:DC k X.A) (hK:X.K=K:=by rfl):CJ X (.builtin "sorted") (fun xs H Q=>∃(p:Addr) (ys:List V) (ds:List Dn) (sh:List Bool),xs=[.ref p]/\SqL K H p ys/\HC K H ys ds sh /\
  ∀l (qs:List (V×List Key)),H l=none→qs.Perm (ys.zip (ds.map Cu))→(qs.map (·.2)).Pairwise (fun a b=>A4 b a=false)→Q (.ref l) (upd H l (.lst (qs.map (·.1))))):=by
 subst hK
 intro pins s σ H xs us Q I r h
 obtain ⟨p,ys,ds,sh,rfl,hq,so,q⟩:=h
 obtain ⟨u,rfl,ru⟩:=vals1 r
 cases ru
 obtain ⟨its,rv,pl,hz⟩:=I.list hq
 have sv:=so.vals I rv
 have hl:=pl.isList
 have hlen:=rv.length
 refine Calls.call_function_entry kind_sorted plain_sorted entry_sorted (args_sorted1 _) ?_
 unfold Builtin.«sorted»
 refine wpAny_bind (m:=checkCount "sorted" 1 1 _) (wpAny_pure ?_)
 refine wpAny_bind (collect_list hl ?_ (by omega))
 refine wpAny_bind (wpAny_newList ?_ (by omega))
 have hsz:((s.heap.push (seqObj "list" #[] 0)).update s.heap.objs.size (Obj.mapSeq (·++its.toArray))).objs.size=s.heap.objs.size+1:=by
  rw [Heap.size_update,size_push']
 have hoL:(((s.heap.push (seqObj "list" #[] 0)).update s.heap.objs.size (Obj.mapSeq (·++its.toArray))).push (seqObj "list" its.toArray 0)).get? (s.heap.objs.size+1)=some (seqObj "list" its.toArray 0):=by
  rw [←hsz];exact Heap.get?_push_size _ rfl
 have kp:∀b o,s.heap.get? b=some o→(((s.heap.push (seqObj "list" #[] 0)).update s.heap.objs.size (Obj.mapSeq (·++its.toArray))).push (seqObj "list" its.toArray 0)).get? b=some o:=fun b o e =>
  Heap.get?_push_of_some _ ((Heap.get?_update_ne _ _ _ _ (Nat.ne_of_lt (Heap.lt_size e))).trans (Heap.get?_push_of_some _ e))
 show wpAny _ _ _ _ _ { s with heap:=((s.heap.push (seqObj "list" #[] 0)).update s.heap.objs.size (Obj.mapSeq (·++its.toArray))).push (seqObj "list" its.toArray 0) }
 rw [hsz]
 refine wpAny_bind (wpAny_holding (wpAny_call_entry slot_list_sort ⟨_,hoL,rfl⟩ entry_list_sort (Srt.F6 (O:=lexOrd) hoL (by omega) (kfC its (ds.map Cu)) (fun h' k' h2=>?_) fun out p u=>⟨_,rfl,wpAny_pure ⟨_,rfl,?_⟩⟩) (args_list_sort _)))
 ·refine sv.cmp ?_ h2 fun a o items m e _ _=>?_
  ·have:=hr.un
   have e1:X.A.in1.units≤X.A.units+1:=by first|exact Nat.le_refl _|(simp [Around.in1];omega)
   have e2:X.A.in1.in1.units≤X.A.in1.units+1:=by first|exact Nat.le_refl _|(simp [Around.in1];omega)
   omega
  ·exact k' a o (Nat.ne_of_lt (Nat.lt_succ_of_lt (Heap.lt_size e))) (kp a o e)
 ·obtain ⟨qs,q1,q2,q3⟩:=Tf (kss:=ds.map Cu) (kf:=kfC its (ds.map Cu)) rv (by rw [List.length_map];exact sv.len) (fun i u ks e1 e2=>by
   rw [List.getElem?_map] at e2
   obtain ⟨d,e3,rfl⟩:=Option.map_eq_some_iff.mp e2
   exact sv.kf i u d e1 e3) p u
  obtain ⟨e,ho⟩:=sortedAll_at s.heap its (out.map (·.2))
  have lz:(qs.map (·.1)).length≤sizeLine:=by
   rw [List.length_map,q1.length_eq,List.length_zip]
   omega
  refine ⟨.ref (s.heap.objs.size+1),_,I.laid (a:=s.heap.objs.size+1) (o:=.lst (qs.map (·.1))) (t':=s.toks) (fun b o e=>sortedAll_old e) (Nat.le_succ _) ⟨lz,_,e,q2,by rw [Array.toArray_toList];exact ho⟩,rfl,q _ qs (I.hok.fresh (Nat.le_succ _)) q1 q3⟩
end
end L2
namespace Stk
open PySem PySem.Spec PyProof.Rows L2
section
variable {prog:Program}{w:World}{A:Around}{E:Value→Shared→Prop}{s:Shared}
theorem Qa {l:Addr}{items:Array Value}{ks:List Key}{Q:Value→Shared→Prop}
  (hh:A.handled=none) (hl:s.heap.IsTuple l items) (hlen:ks.length=items.size) (hi:∀(i:Nat) k v,ks[i]?=some k→items[i]?=some v→DV k v=true) (hb:items.size+1<scanBound)
  (h:∀(h':Heap) (tk:Nat),De prog w h' s.heap.objs.size (once [] ks)→(∀b o,b<s.heap.objs.size→s.heap.get? b=some o→h'.get? b=some o)→Q (.ref s.heap.objs.size) { s with heap:=h',toks:=tk }) :
  wpAny (model prog w) A (call (.type "set") [.ref l]) Q E s:=by
 obtain ⟨c,tl,hmro⟩:=PySem.F.called_set.mro
 have hmade:=PySem.F.called_set.made
 have hsub:=PySem.F.called_set.sub
 refine wpAny_call (codeAny_of_tree ?_)
 show wpAny _ _ (callAny (.type "set") _) _ _ _
 refine wpAny_pure ⟨Code.quiet_builtin _ (by decide +kernel),codeAny_builtin PySem.F.entry_type_call ?_⟩
 rw [Around.under_plain (weight_type_call_type "set" [.ref l] []) rfl]
 have h1:=PySem.F.called_set.notType
 have h2:=PySem.F.called_set.canCreate
 have hct:=PySem.F.typeCall_set_1 (.ref l)
 repeat (any_goals (first|assumption|wp_step))
 refine codeAny_mono (Oc (.ref l) (E:=E) (Q₁:=fun obj s₁=>obj=.ref s.heap.objs.size/\s₁={ s with heap:=s.heap.push (EO w) }) ⟨rfl,rfl⟩) fun r s₁ hr=>?_
 cases r with
 | error e=>exact hr
 | ok fl =>
  cases fl with
  | ret obj =>
   obtain ⟨rfl,rfl⟩:=hr
   have hS:(s.heap.push (EO w)).get? s.heap.objs.size=some (EO w):=Heap.get?_push_size _ rfl
   have hT:Shared.TypeIs { s with heap:=s.heap.push (EO w) } (.ref s.heap.objs.size) "set" := ⟨_,hS,rfl⟩
   have hli:=PySem.F.called_set.init.lookup
   have hbi:=PySem.F.called_set.init.bind (.ref s.heap.objs.size)
   repeat (any_goals (first|assumption|wp_step))
   refine codeAny_mono (codeAny_call_builtin (R:=wants (fun r s₂=>r=.none/\∃h' tk,s₂={ s with heap:=h',toks:=tk }/\De prog w h' s.heap.objs.size (once [] ks) /\
     (∀b o,b<s.heap.objs.size→s.heap.get? b=some o→h'.get? b=some o)) E) PySem.F.called_set.init.plain PySem.F.entry_set_init (check_set_init_1 hT ?_)) fun r₂ s₂ hr₂=>?_
   ·obtain ⟨ol,hol,hcl,nl,hdl⟩:=hl
    obtain ⟨ocls,odict,odata,oslots⟩:=ol
    simp only at hcl hdl
    subst hcl;subst hdl
    have hol':(s.heap.push (EO w)).get? l=some { cls:=.type "tuple", dict:=odict,data:=.seq items nl,slots:=oslots }:=Heap.get?_push_of_some _ hol
    have hsls:=PySem.F.sub_tuple_set
    have hslf:=PySem.F.sub_tuple_frozenset
    have hne:(Value.type "tuple" == Value.type "dict")=false:=by decide
    have hl1:(s.heap.push (EO w)).IsTuple l items:=⟨_,hol',rfl,nl,rfl⟩
    unfold Builtin.«set.__init__» noKeywords Builtin.Frozenset.updateFrom
    generalize hPI:pyIter=PI
    wp_walk
    subst hPI
    refine wpAny_pyIter_tuple hl1 ?_
    refine wpAny_bind (wpAny_runValue ?_)
    have hlS:l<s.heap.objs.size:=Heap.lt_size hol
    have hh3:A.in1.in1.in1.handled=none:=by simp [hh]
    have hneI:l≠(s.heap.push (EO w)).objs.size:=by
     rw [Heap.size_push];exact Nat.ne_of_lt (Nat.lt_succ_of_lt hlS)
    have hSf:s.heap.objs.size∉[(s.heap.push (EO w)).objs.size,l]:=by
     rw [Heap.size_push];simp only [List.mem_cons,List.mem_singleton,List.not_mem_nil,or_false,not_or]
     exact ⟨Nat.ne_of_lt (Nat.lt_succ_self _),Nat.ne_of_gt hlS⟩
    refine Hq ((Walks.tuple hh3 _ l hneI items).toS) s.heap.objs.size hSf ks hlen (fun i k v e1 e2=>hi i k v e1 e2) hb (items.size-0) 0 _ (by omega) (Nat.zero_le _)
     ⟨⟨_,Heap.get?_push_size _ rfl,rfl,rfl⟩,(hl1.push _)⟩ ?hS0 ?hR
    case hS0=>exact Ip (Heap.get?_push_of_some _ hS)
    case hR =>
     intro s' hm hS'
     obtain ⟨h',g',d',tk',os'⟩:=s'
     have eg:g'=s.gens:=hm.gens
     have ed:d'=s.drawn:=hm.drawn
     have eo:os'=s.os:=hm.os
     subst eg;subst ed;subst eo
     show wpAny _ _ _ _ _ _
     refine wpAny_pure ?_
     show wpAny _ _ (ret Value.none) _ _ _
     refine wpAny_pure ⟨rfl,h',tk',rfl,hS',fun b o hb e=>?_⟩
     have hb1:b≠s.heap.objs.size:=Nat.ne_of_lt hb
     have hb2:b≠(s.heap.push (EO w)).objs.size:=by
      rw [Heap.size_push];exact Nat.ne_of_lt (Nat.lt_succ_of_lt hb)
     exact hm.heap b o (by simp only [List.mem_cons,List.mem_singleton,List.not_mem_nil,or_false,not_or];exact ⟨hb1,hb2⟩) (Heap.get?_push_of_some _ (Heap.get?_push_of_some _ e))
   ·cases r₂ with
    | error e=>exact hr₂
    | ok fl₂ =>
     cases fl₂ with
     | ret r =>
      obtain ⟨rfl,h',tk,rfl,hS',hk'⟩:=hr₂
      repeat (any_goals (first|assumption|wp_step))
      exact h _ _ hS' hk'
     | _=>exact hr₂.elim
  | _=>exact hr.elim
end
end Stk
namespace L2
open PySem PySem.Spec PyProof.Rows
section
variable {X:Cx}{K:PySem.W.Frag}{e:Expr}{te:TE}{p1 p2 pos1 pos2:Pos}
end
end L2
namespace L2
open PySem PySem.Spec PyProof.Rows
section
variable {X:Cx}{K:PySem.W.Frag}{e st:Expr}{te ts:TE}{p2 pos:Pos}
end
def Wc (t u:TS):TS:=fun D σ H=>∀(N:St→Hp→Prop) (r:VK) (b c:St→Hp→Prop),(∀σ' H',u D σ' H'→N σ' H')→t ⟨N,r,b,c⟩ σ H
theorem AJ {X:Cx}{st:PySem.Stmt}{rest:List PySem.Stmt}{t u:TS}(h1:PS X st t) (h2:PSs X rest u):PSs X (st::rest) (Wc t u):=fun pins s σ H D I h=>Ac h1 h2 pins s σ H D I (h _ _ _ _ fun _ _ z=>z)
def Vl (t u:TS):TS:=fun D σ H=>∀(N:St→Hp→Prop) (r:VK) (b c:St→Hp→Prop),(∀σ' H',u D σ' H'→N σ' H')→(∀v H',D.rt v H'→r v H')→t ⟨N,r,b,c⟩ σ H
theorem RU {X:Cx}{st:PySem.Stmt}{rest:List PySem.Stmt}{t u:TS}(h1:PS X st t) (h2:PSs X rest u):PSs X (st::rest) (Vl t u):=fun pins s σ H D I h=>Ac h1 h2 pins s σ H D I (h _ _ _ _ (fun _ _ z=>z) fun _ _ z=>z)
def Wf (t:TS):TS:=fun D σ H=>∀(N:St→Hp→Prop) (r:VK) (b c:St→Hp→Prop),(∀σ' H',D.nx σ' H'→N σ' H')→t ⟨N,r,b,c⟩ σ H
theorem Bw {X:Cx}{st:PySem.Stmt}{t:TS}(h1:PS X st t):PS X st (Wf t):=fun pins s σ H D I h=>h1 pins s σ H D I (h _ _ _ _ fun _ _ z=>z)
end L2
namespace L2
open PySem PySem.Spec PyProof.Rows
@[elab_as_elim]
theorem An {H:Hp}{c:Addr}{o:HO}{R:Hp→Prop}(hc:H c=none) (k:∀G,AK H G→G c=some o→R G):R (upd H c o):=k _ (AK.Ay hc) AE
theorem le1 {n m:Nat}(h:n.ble m=true):n≤m:=Nat.le_of_ble_eq_true h
theorem Bp {N P:List Str}{sc:Scope}(h1:sc.kind=.function:=by rfl) (h2:sc.isCoroutine=false:=by rfl) (h3:sc.isGenerator=false:=by rfl) (h4:N.Nodup:=by decide +kernel) (h5:N.take P.length=P:=by rfl) (h6:∀x∈P,sc.names.lookup x=some .local\/sc.names.lookup x=some .cell:=by decide +kernel) (h7:∀y∈sc.names,y.2≠.free:=by decide +kernel):Aa N P sc:=⟨h1,h2,h3,h4,h5,h6,h7⟩
structure BA (P:Program) (w:World) (K:PySem.W.Frag) (mg:Str→Option Value) (base:Heap) (k:Nat) (f:Addr) (fd:FuncData) (ps:List Str) (sp:Sp) (x:Str):Prop where
 F:BM P w K mg base CX0 k f fd ps sp
 m:mg x=some (.ref f)
 k:PySem.W.keepIn K (.ref f)=true
 b:Binds K fd ps []
section
variable {X:Cx}{k n:Nat}{f:Addr}{fd:FuncData}{ps:List Str}{sp:Sp}{x:Str}{p pos pos':Pos}{e a b:Expr}{es:List Expr}{ta tb te:TE}{t:TA}
theorem AI (C:BA X.prog X.w X.K X.mg X.base k f fd ps sp x) (hr:DC n X.A) (ha:PA X (e::es) t) (hn:k≤n:=by decide) (hg:Gl X x:=by rfl) (hdb:(x==("__debug__" : Str))=false:=by decide) (he:starEach (e::es) X.env=(false,eval e X.env)::starEach es X.env:=by rfl) (hpl:(backTo pos (starEach es X.env)).any (·.1)=false:=by rfl) :
  PE X (.Call (.Name x p) (e::es) [] pos) (UM sp [] E0 t):=Lv C.F (hr.mono hn) hg C.m C.k C.b .nil Rm ha hdb he hpl
def Vm (t:TE):TE:=fun σ H Q=>∀R:VK,(∀v H',Q v H'→R v H')→t σ H R
theorem HR (h:PE X e te):PE X e (Vm te):=fun pins s σ H Q I w=>h pins s σ H Q I (w Q fun _ _ q=>q)
theorem pxl (K:PySem.W.Frag) (ha:PE X a ta) (hb:PE X b tb) (hs:HD b:=by exact fun _ _=>rfl) (hK:X.K=K:=by rfl):PE X (.Subscript a b pos) (tOp (TU K) ta tb):=JP (NK hK) ha hb hs
theorem pxt (K:PySem.W.Frag) (ha:PE X a ta) (hb:PE X b tb) (hs:HD b:=by exact fun _ _=>rfl) (hK:X.K=K:=by rfl):PE X (.Subscript a b pos) (tOp (TR K) ta tb):=JP (Oy hK) ha hb hs
theorem psl (i:Nat) (hN:X.N.Nodup) (he:PE X e te) (hi:X.N[i]?=some x:=by rfl) (hx:Loc X.env.scope x:=by first|exact .inl rfl|exact .inr rfl) (hs:swapsWith e (some (.Name x pos')) pos.line X.env=pure false:=by rfl) (hf:X.fn x=true\/X.env.scope.names.lookup x=some .local:=by first|exact .inl rfl|exact .inr rfl|assumption) :
  PS X (.Assign [.Name x pos'] e pos) (Q5 te (Ct i)):=U3 hN hi hx he hs hf
theorem pgn (i:Nat) (hN:X.N.Nodup) (hi:X.N[i]?=some x:=by rfl) (hx:Loc X.env.scope x:=by first|exact .inl rfl|exact .inr rfl) (hf:X.fn x=true\/X.env.scope.names.lookup x=some .local:=by first|exact .inl rfl|exact .inr rfl|assumption):PG X (.Name x pos) (Ct i):=EA hN hi hx hf
theorem pap (K:PySem.W.Frag) (ho:PE X a ta) (ha:PA X (e::es) t) (hK:X.K=K:=by rfl) (hbase:attributeBase a "append" X.env (eval a X.env)=eval a X.env:=by rfl)
  (hfew:((backTo pos (starEach (e::es) X.env)).all (fun x=>!x.1)&&(backToKw pos (keywordEach [] X.env)).all (fun x=>x.1.isSome)
   && decide ((e::es).length+([]:List Keyword).length+(if ([]:List Keyword).isEmpty then 0 else 1)<30))=true:=by rfl)
  (hline:(p.endLine==pos.line)=true:=by rfl) (hs:starEach (e::es) X.env=(false,eval e X.env)::starEach es X.env:=by rfl) (hpl:(backTo pos (starEach es X.env)).any (·.1)=false:=by rfl):PE X (.Call (.Attribute a "append" p) (e::es) [] pos) (tBM K "list" Of ta t) :=
 JR PySem.F.plainAttrs_list PySem.F.slot_list_append PySem.F.type_list_append P8 ho ha hK hbase hfew hline hs hpl
theorem pcm {iter elt:Expr}{ifs:List Expr}{scope:Scope}{wi:TI}{tt:TT}{px:Pos}(osc:Scope) (fr:List (Str×Nat)) (hfr:II X scope fr) (hi:PI X (.Name x px) iter wi)
  (ht:∀C s H ex,PTs (Av X scope (x::fr.map (·.1)) C s H ex) ifs tt) (he:∀C s H ex,PE (Av X scope (x::fr.map (·.1)) C s H ex) elt te)
  (hc:X.calm=true:=by rfl) (ho:X.env.scope=osc:=by rfl) (hk:scope.kind=.function:=by rfl) (hcell:∀y∈scope.names,y.2≠.cell:=by decide +kernel) (hnames:∀y∈scope.names,y.2=.local→scope.names.lookup y.1=some .local:=by decide +kernel)
  (hfree:∀y∈scope.names,y.2=.free→osc.names.lookup y.1=some .cell\/osc.names.lookup y.1=some .free:=by decide +kernel) (hx:scope.names.lookup x=some .local:=by rfl) (hnd:(x::fr.map (·.1)).Nodup:=by decide +kernel) (hs:∀x,foldedSetIterable iter X.env x=pure x:=by intro _;rfl) :
  PE X (.ListComp elt [⟨.Name x px,iter,ifs,0⟩] scope pos) (Hr 1 (fr.map (·.2)) wi (Ct 0) tt te):=Rk fr hc hi ho hk hcell hnames hfree hfr hx hnd ht he hs
end
end L2
namespace L2
open PySem PySem.Spec PyProof.Rows
def onI (x:V) (k:Int→Prop):Prop:=match x with|.int i=>k i|_=>False
def onR (x:V) (k:Addr→Prop):Prop:=match x with|.ref i=>k i|_=>False
def onV (x:Option (Option V)) (k:V→Prop):Prop:=match x with|some (some v)=>k v|_=>False
def on1 (xs:List V) (k:V→Prop):Prop:=match xs with|[x]=>k x|_=>False
def on2 (xs:List V) (k:V→V→Prop):Prop:=match xs with|[x,y]=>k x y|_=>False
theorem Cp {x:V}{k:Int→Prop}(h:onI x k):∃i,x=.int i/\k i:=by cases x <;> first|exact ⟨_,rfl,h⟩|exact h.elim
theorem Lx {x:V}{k:Addr→Prop}(h:onR x k):∃i,x=.ref i/\k i:=by cases x <;> first|exact ⟨_,rfl,h⟩|exact h.elim
theorem VD {x:Option (Option V)}{k:V→Prop}(h:onV x k):∃v,x=some (some v)/\k v:=by
 match x,h with
 | some (some v),h=>exact ⟨v,rfl,h⟩
theorem VE {xs:List V}{k:V→Prop}(h:on1 xs k):∃x,xs=[x]/\k x:=by
 match xs,h with
 | [x],h=>exact ⟨x,rfl,h⟩
theorem Lz {xs:List V}{k:V→V→Prop}(h:on2 xs k):∃x y,xs=[x,y]/\k x y:=by
 match xs,h with
 | [x,y],h=>exact ⟨x,y,rfl,h⟩
def Vh (i:Nat):TE:=fun σ H Q=>onV σ[i]? fun v=>Q v H
def rIC (C:Int→Int→Prop) (g:Int→Int→V):R2:=fun x y H Q=>onI x fun i=>onI y fun j=>C i j/\Q (g i j) H
def Pl (g:Int→Int→V):R2:=fun x y H Q=>onI x fun i=>onI y fun j=>Q (g i j) H
def rUC (g:Int→V):V→Hp→VK→Prop:=fun x H Q=>onI x fun i=>Q (g i) H
def V6 (K:PySem.W.Frag):R2:=fun x y H Q=>onR x fun p=>onI y fun i=>∃xs v,SqL K H p xs/\atI xs i=some v/\Q v H
def V4 (K:PySem.W.Frag):R2:=fun x y H Q=>onR x fun p=>onI y fun i=>∃xs v,SqT K H p xs/\atI xs i=some v/\Q v H
section
variable {X:Cx}{k n:Nat}{f:Addr}{fd:FuncData}{ps:List Str}{sp sp':Sp}{x:Str}{p pos pos':Pos}{e a b:Expr}{es:List Expr}{t t' ta tb te:TE}{r r':R2}{tA:TA}{fn:Value→Value→Sem Value}
theorem Te (h:PE X e t) (m:∀σ H Q,t' σ H Q→t σ H Q):PE X e t':=fun pins s σ H Q I w=>h pins s σ H Q I (m σ H Q w)
theorem EC (h:OpR X fn r) (m:∀x y H Q,r' x y H Q→r x y H Q):OpR X fn r':=fun pins s σ H x y v u Q I rx ry w=>h pins s σ H x y v u Q I rx ry (m x y H Q w)
theorem Nv {C:Int→Int→Prop}{g:Int→Int→V}(x y:V) (H:Hp) (Q:VK) (h:rIC C g x y H Q):rI C g x y H Q:=by
 obtain ⟨i,rfl,h1⟩:=Cp h
 obtain ⟨j,rfl,c,q⟩:=Cp h1
 exact ⟨i,j,rfl,rfl,c,q⟩
theorem GZ {g:Int→Int→V}(x y:V) (H:Hp) (Q:VK) (h:Pl g x y H Q):rI0 g x y H Q:=by
 obtain ⟨i,rfl,h1⟩:=Cp h
 obtain ⟨j,rfl,q⟩:=Cp h1
 exact ⟨i,j,rfl,rfl,q⟩
theorem pvC (i:Nat) (hN:X.N[i]?=some x:=by rfl) (hv:Vis X.env.scope x:=by first|exact Or.inl rfl|exact Or.inr (Or.inl rfl)|exact Or.inr (Or.inr rfl)) (hd:(x==("__debug__" : Str))=false:=by decide)
  (hcd:(x==("__classdict__" : Str))=false:=by decide):PE X (.Name x pos) (Vh i):=Te (Rh hN hv hd hcd) fun _ _ _ h=>VD h
theorem Az:OpR X (binaryOp .Add) (Pl fun i j=>.int (i+j)):=EC Eh GZ
theorem Cn:OpR X (binaryOp .Sub) (Pl fun i j=>.int (i-j)):=EC Lw GZ
theorem BD:OpR X (binaryOp .Mult) (rIC UI fun i j=>.int (i * j)):=EC N0 Nv
theorem Af:OpR X (binaryOp .FloorDiv) (rIC WU fun i j=>.int (i / j)):=EC Fd Nv
theorem AZ:OpR X (binaryOp .Mod) (rIC (fun _ j=>0<j) fun i j=>.int (i % j)):=EC JV Nv
theorem N1:OpR X (compareOp .Lt) (Pl fun i j=>.bl (decide (i<j))):=EC Ro GZ
theorem HS:OpR X (compareOp .LtE) (Pl fun i j=>.bl (decide (i≤j))):=EC WB GZ
theorem VA:OpR X (compareOp .Gt) (Pl fun i j=>.bl (decide (j<i))):=EC UU GZ
theorem LW:UnR X (unaryOp .USub) (rUC fun i=>.int (-i)):=fun pins s σ H x v Q I rx h=>LX pins s σ H x v Q I rx (Cp h)
theorem BX (K:PySem.W.Frag) (ha:PE X a ta) (hb:PE X b tb) (hs:HD b:=by exact fun _ _=>rfl) (hK:X.K=K:=by rfl):PE X (.Subscript a b pos) (tOp (V6 K) ta tb) :=
 JP (fun a b pins s σ H x y v u Q I rx ry h=>NK hK a b pins s σ H x y v u Q I rx ry (by
  obtain ⟨p,rfl,h⟩:=Lx h
  obtain ⟨i,rfl,xs,w,h1,h2,q⟩:=Cp h
  exact ⟨p,xs,i,w,rfl,rfl,h1,h2,q⟩)) ha hb hs
theorem Aj (K:PySem.W.Frag) (ha:PE X a ta) (hb:PE X b tb) (hs:HD b:=by exact fun _ _=>rfl) (hK:X.K=K:=by rfl):PE X (.Subscript a b pos) (tOp (V4 K) ta tb) :=
 JP (fun a b pins s σ H x y v u Q I rx ry h=>Oy hK a b pins s σ H x y v u Q I rx ry (by
  obtain ⟨p,rfl,h⟩:=Lx h
  obtain ⟨i,rfl,xs,w,h1,h2,q⟩:=Cp h
  exact ⟨p,xs,i,w,rfl,rfl,h1,h2,q⟩)) ha hb hs
theorem En (hc:X.calm=true):CJ X (.builtin "max") (fun xs H Q=>on2 xs fun x y=>onI x fun i=>onI y fun j=>Q (.int (if j > i then j else i)) H):=fun pins s σ H xs us Q I r h=>LI hc pins s σ H xs us Q I r (by
 obtain ⟨x,y,rfl,h⟩:=Lz h
 obtain ⟨i,rfl,h⟩:=Cp h
 obtain ⟨j,rfl,q⟩:=Cp h
 exact ⟨i,j,rfl,q⟩)
theorem C2 (hc:X.calm=true):CJ X (.builtin "min") (fun xs H Q=>on2 xs fun x y=>onI x fun i=>onI y fun j=>Q (.int (if j<i then j else i)) H):=fun pins s σ H xs us Q I r h=>Qd hc pins s σ H xs us Q I r (by
 obtain ⟨x,y,rfl,h⟩:=Lz h
 obtain ⟨i,rfl,h⟩:=Cp h
 obtain ⟨j,rfl,q⟩:=Cp h
 exact ⟨i,j,rfl,q⟩)
theorem BF {K:PySem.W.Frag}(hK:X.K=K:=by rfl):CJ X (.builtin "len") (fun xs H Q=>on1 xs fun x=>onR x fun p=>∃ys,(SqL K H p ys\/SqT K H p ys)/\Q (.int ys.length) H):=fun pins s σ H xs us Q I r h=>A7 hK pins s σ H xs us Q I r (by
 obtain ⟨x,rfl,h⟩:=VE h
 obtain ⟨p,rfl,ys,h,q⟩:=Lx h
 exact ⟨p,ys,rfl,h,q⟩)
theorem BA.weak {P:Program}{w:World}{K:PySem.W.Frag}{mg:Str→Option Value}{base:Heap}(C:BA P w K mg base k f fd ps sp x) (m:∀vs H Q E,sp' vs H Q E→sp vs H Q E):BA P w K mg base k f fd ps sp' x :=
 ⟨⟨fun vs H Q E h=>C.F.len vs H Q E (m _ _ _ _ h),fun A outer s H args us vs Q E hr he hb hv h=>C.F.run A outer s H args us vs Q E hr he hb hv (m _ _ _ _ h)⟩,C.m,C.k,C.b⟩
end
end L2
namespace Stk
open PySem PySem.Spec PyProof.Rows L2
theorem Qb {prog:Program}{w:World}{A:Around}{E:Value→Shared→Prop}{s:Shared}{l:Addr}{items:Array Value}{ks:List Key}{Q:Value→Shared→Prop}
  (hh:A.handled=none) (hl:s.heap.IsList l items\/s.heap.IsTuple l items) (hlen:ks.length=items.size) (hi:∀(i:Nat) k v,ks[i]?=some k→items[i]?=some v→DV k v=true) (hb:items.size+1<scanBound)
  (h:∀(h':Heap) (tk:Nat),De prog w h' s.heap.objs.size (once [] ks)→(∀b o,b<s.heap.objs.size→s.heap.get? b=some o→h'.get? b=some o)→Q (.ref s.heap.objs.size) { s with heap:=h',toks:=tk }) :
  wpAny (model prog w) A (call (.type "set") [.ref l]) Q E s:=by
 rcases hl with hl|hl
 ·exact Sk hh hl hlen hi hb h
 ·exact Qa hh hl hlen hi hb h
end Stk
namespace L2
open PySem PySem.Spec PyProof.Rows
section
variable {X:Cx}{K:PySem.W.Frag}{e:Expr}{te:TE}{p1 p2 pos1 pos2:Pos}
def Q4 (K:PySem.W.Frag) (te:TE):TE:=fun σ H Q=>te σ H fun x H1=>∃(a:Addr) (ks:List Key),x=.ref a/\(SqL K H1 a (ks.map kV)\/SqT K H1 a (ks.map kV))/\((∀k∈ks,∃i,k=.inl i)\/∀k∈ks,∃i,k=.inr i)/\ks.length+1<scanBound /\
 ∀l (rs:List Key),H1 l=none→rs.Perm (Stk.once [] ks)→rs.Pairwise (fun a b=>kLt b a=false)→Q (.ref l) (upd H1 l (.lst (rs.map kV)))
theorem JO (hc:X.calm=true) (hg1:Gl X "sorted") (hm1:X.mg "sorted" = none) (hg2:Gl X "set") (hm2:X.mg "set" = none) (he0:PE X e te) (hK:X.K=K:=by rfl)
  (hs2:starEach [e] X.env=(false,eval e X.env)::starEach [] X.env:=by rfl) (hs1:starEach [.Call (.Name "set" p2) [e] [] pos2] X.env=(false,eval (.Call (.Name "set" p2) [e] [] pos2) X.env)::starEach [] X.env:=by rfl) :
  PE X (.Call (.Name "sorted" p1) [.Call (.Name "set" p2) [e] [] pos2] [] pos1) (Q4 K te):=by
 subst hK
 intro pins s0 σ H Q I0 h
 refine wpAny_Call_Name_kw (EH I0 hg1 hm1 PyProof.Rows.boot_sorted ?_ (by decide) (by decide))
 refine PyProof.Rows.callWith_builtin1 ?_ hs1 rfl
 rw [hs1]
 refine Calls.spliced_cons (Q:=fun us s1=>wpAny (model X.prog X.w) X.A (call (.builtin "sorted") us) (EP X pins σ Q) X.xe s1) ?_
 refine wpAny_Call_Name_kw (EH I0 hg2 hm2 PyProof.Rows.boot_set ?_ (by decide) (by decide))
 refine PyProof.Rows.callWith_type1 ?_ hs2 rfl
 rw [hs2]
 refine Calls.spliced_cons (thn (he0 pins s0 σ H _ I0 h) fun u s ⟨x,H1,I,rx,a,ks,ex,hq,hty,hb,q⟩=>Calls.spliced_nil ?_)
 subst ex
 obtain rfl:u=Value.ref a:=rx
 obtain ⟨its0,rv0,hl⟩:∃its0,Vals (ks.map kV) its0/\(s.heap.IsList a its0.toArray\/s.heap.IsTuple a its0.toArray):=by
  rcases hq with hq|hq
  ·obtain ⟨i,r,p,_⟩:=I.list hq
   exact ⟨i,r,.inl p.isList⟩
  ·obtain ⟨i,r,p,_⟩:=I.tuple hq
   exact ⟨i,r,.inr p⟩
 have hlen:=rv0.length
 rw [List.length_map] at hlen
 refine Stk.Qb (items:=its0.toArray) (ks:=ks) (I.ok.hd hc) hl (by simpa using hlen) (fun i k v e1 e2=>?_) (by simp;omega) fun h0 tk0 sk old0=>Calls.spliced_nil ?_
 ·rw [List.getElem?_toArray] at e2
  obtain ⟨u',e4,e5⟩:=rv0.get (i:=i) (x:=kV k) (by rw [List.getElem?_map,e1];rfl)
  rw [e2] at e4
  cases e4
  cases k with
  | inl n=>obtain ⟨t,rfl⟩:=e5;exact Hb _ _
  | inr n=>obtain ⟨t,rfl⟩:=e5;exact Ha _ _
 have hlt0:s.heap.objs.size<h0.objs.size:=sk.lt
 refine Calls.call_function_entry kind_sorted plain_sorted entry_sorted (args_sorted1 _) ?_
 unfold Builtin.«sorted»
 refine wpAny_bind (m:=checkCount "sorted" 1 1 _) (wpAny_pure ?_)
 refine wpAny_bind (Stk.NW (A:=X.A.in1) (s:={ s with heap:=h0,toks:=tk0 }) (I.ok.hd hc) sk fun h1 tk d its k1 gr pm0 hbs=>?_)
 obtain ⟨L,eL,pL⟩:=T1 pm0
 have hmem:∀k∈L,k∈ks:=fun k hk=>by
  have:=(Stk.Jh k ks []).mp (pL.mem_iff.mp hk)
  simpa using this
 have hLl:its.length=L.length:=by have:=congrArg List.length eL;simpa using this
 have kat:∀(i:Nat) v k,its[i]?=some v→L[i]?=some k→Stk.keyOf v=some k:=fun i v k e1 e2=>by
  have:=congrArg (fun l=>l[i]?) eL
  simp only [List.getElem?_map,e1,e2] at this
  simpa using this
 have rv:Vals (L.map kV) its:=by
  refine Ax (by rw [List.length_map];omega) fun i x v e1 e2=>?_
  rw [List.getElem?_map] at e1
  obtain ⟨k,e3,rfl⟩:=Option.map_eq_some_iff.mp e1
  exact Lm (kat i v k e2 e3)
 have ra:=rv.length
 rw [List.length_map] at ra
 have sv:DT h1 its (L.map fun k=>[k]):=by
  rcases hty with hty|hty
  ·refine .cI (by rw [List.length_map];omega) fun i u ks e1 e2=>?_
   rw [List.getElem?_map] at e2
   obtain ⟨p,e3,rfl⟩:=Option.map_eq_some_iff.mp e2
   obtain ⟨n,en⟩:=hty p (hmem p (List.mem_of_getElem? e3))
   have e5:=Lm (kat i u p e1 e3)
   rw [en] at e5 ⊢
   obtain ⟨t,rfl⟩:=e5
   exact ⟨n,t,rfl,rfl⟩
  ·refine .cS (by rw [List.length_map];omega) fun i u ks e1 e2=>?_
   rw [List.getElem?_map] at e2
   obtain ⟨p,e3,rfl⟩:=Option.map_eq_some_iff.mp e2
   obtain ⟨n,en⟩:=hty p (hmem p (List.mem_of_getElem? e3))
   have e5:=Lm (kat i u p e1 e3)
   rw [en] at e5 ⊢
   obtain ⟨t,rfl⟩:=e5
   exact ⟨n,t,rfl,rfl⟩
 have hsl:its.length≤sizeLine:=fits_of_scanBound hbs
 refine wpAny_bind (wpAny_newList ?_ (by omega))
 have hoL:(h1.push (seqObj "list" its.toArray 0)).get? h1.objs.size=some (seqObj "list" its.toArray 0):=Heap.get?_push_size _ rfl
 have grow:s.heap.objs.size≤h1.objs.size:=Nat.le_of_lt (Nat.lt_trans hlt0 gr)
 refine wpAny_bind (wpAny_holding (wpAny_call_entry (s:={ s with heap:=h1.push (seqObj "list" its.toArray 0),toks:=tk,drawn:=d }) slot_list_sort ⟨_,hoL,rfl⟩ entry_list_sort (Srt.F6 (O:=lexOrd) hoL (by omega) (kfH h1) (fun h' k' h2=>?_) fun out p u=>⟨_,rfl,wpAny_pure ⟨_,rfl,?_⟩⟩) (args_list_sort _)))
 ·refine sv.cmp h2 fun a o items m _ e _ _=>?_
  exact k' a o (Nat.ne_of_lt (Heap.lt_size e)) (Heap.get?_push_of_some _ e)
 ·obtain ⟨qs,q1,q2,q3⟩:=Rn (X:=X) rv sv p u
  obtain ⟨e',ho⟩:=sortedHeap_at (h:=h1.push (seqObj "list" its.toArray 0)) (a:=h1.objs.size) (vs:=its) (out:=out.map (·.2)) hoL
  have one:∀x∈qs,∃k,x.1=kV k/\x.2=[k]:=fun x hx=>by
   have hm:=q1.mem_iff.mp hx
   obtain ⟨i,hi⟩:=List.mem_iff_getElem?.mp hm
   obtain ⟨e3,e4⟩:=List.getElem?_zip_eq_some.mp hi
   rw [List.getElem?_map] at e3 e4
   obtain ⟨p3,e5,e6⟩:=Option.map_eq_some_iff.mp e3
   rw [e5] at e4
   have e4:some [p3]=some x.2:=e4
   exact ⟨p3,e6.symm,(Option.some.inj e4).symm⟩
  have ep:qs.map (·.1)=(qs.map fun x=>x.2.headD (.inl 0)).map kV:=by
   rw [List.map_map]
   refine List.map_congr_left fun x hx=>?_
   obtain ⟨k,e1,e2⟩:=one x hx
   show x.1=kV (x.2.headD (.inl 0))
   rw [e1,e2]
   rfl
  have pm:(qs.map fun x=>x.2.headD (.inl 0)).Perm L:=by
   refine (q1.map _).trans (List.Perm.of_eq ?_)
   rw [show (fun x:V×List Key=>x.2.headD (.inl 0))=(fun l:List Key=>l.headD (.inl 0)) ∘ Prod.snd from rfl,←List.map_map,List.map_snd_zip (by simp),List.map_map]
   exact List.map_id _
  have pw:(qs.map fun x=>x.2.headD (.inl 0)).Pairwise (fun a b=>kLt b a=false):=by
   rw [List.pairwise_map]
   rw [List.pairwise_map] at q3
   refine q3.imp_of_mem fun {a b} ha hb hab=>?_
   obtain ⟨x,_,ex⟩:=one a ha
   obtain ⟨y,_,ey⟩:=one b hb
   rw [ex,ey] at hab ⊢
   show kLt y x=false
   have hab:(if y=x then false else kLt y x)=false:=hab
   by_cases z:y=x
   ·rw [z];exact ME x
   ·rw [if_neg z] at hab;exact hab
  have lz:(qs.map (·.1)).length≤sizeLine:=by
   rw [List.length_map,q1.length_eq,List.length_zip,List.length_map]
   omega
  have old:∀b o,s.heap.get? b=some o→(sortedHeap (h1.push (seqObj "list" its.toArray 0)) h1.objs.size its (out.map (·.2))).get? b=some o:=fun b o e=>by
   have e1:=k1 b o (old0 b o (Heap.lt_size e) e)
   have hlt:=Heap.lt_size e1
   rw [sortedHeap_old (Nat.ne_of_lt hlt) (by rw [size_push'];exact Nat.lt_succ_of_lt hlt)]
   exact Heap.get?_push_of_some _ e1
  refine ⟨.ref h1.objs.size,_,(I.drawn d).laid (a:=h1.objs.size) (o:=.lst (qs.map (·.1))) (t':=tk) old grow ⟨lz,_,e',q2,by rw [Array.toArray_toList];exact ho⟩,rfl,?_⟩
  rw [ep]
  exact q _ _ (I.hok.fresh grow) (pm.trans pL) pw
end
end L2
set_option maxHeartbeats 4000000
namespace K36
open PySem L2
seal PE PT PW PA PS PSs PG PGs PI PTs PC PO OpR UnR CJ Wy IxR SlR
def top (i:Nat):Stmt:=PySem.Challenge.pw_brooktally_k36_reasons_by_sets.main.body.getD i (.Pass ⟨0,0,0,0⟩)
abbrev FF:Stmt:=top 4
abbrev HK:Stmt:=top 5
abbrev HM:Stmt:=top 6
abbrev FG:Stmt:=top 7
abbrev FY:Stmt:=top 9
abbrev Lk:Stmt:=top 11
abbrev Lj:Stmt:=top 13
abbrev JC:Stmt:=top 14
abbrev FE:Stmt:=top 15
abbrev JD:Stmt:=top 17
abbrev Lg:Stmt:=top 19
abbrev D8:Stmt:=top 21
abbrev HN:Stmt:=top 22
abbrev HP:Stmt:=top 23
abbrev F4:Stmt:=top 24
abbrev DZ:Stmt:=top 25
abbrev DY:Stmt:=top 26
abbrev Cj:Stmt:=top 27
abbrev DM:Stmt:=top 28
abbrev Ed:Stmt:=top 29
abbrev DX:Stmt:=top 30
abbrev DL:Stmt:=top 31
abbrev HJ:Stmt:=top 32
abbrev D7:Stmt:=top 33
abbrev FD:Stmt:=top 35
abbrev Ee:Stmt:=top 36
abbrev RM:Stmt:=top 37
abbrev F3:Stmt:=top 39
abbrev Lh:Stmt:=top 40
abbrev HI:Stmt:=top 41
abbrev Li:Stmt:=top 42
abbrev IL:Stmt:=top 43
abbrev EM:Stmt:=top 44
abbrev Dq:Stmt:=top 45
abbrev FX:Stmt:=top 46
abbrev GW:Stmt:=top 47
abbrev Ko:Stmt:=top 48
theorem GU:Aa ["step"] ["step"] (AL FF):=Bp
theorem Iy:Aa ["step"] ["step"] (AL HK):=Bp
theorem Iz:Aa ["step"] ["step"] (AL HM):=Bp
theorem GV:Aa ["step"] ["step"] (AL FG):=Bp
theorem Iw:Aa ["plan"] ["plan"] (AL FY):=Bp
theorem Mh:Aa ["rows", "mark", "low", "high", "middle"] ["rows", "mark"] (AL Lk):=Bp
theorem Mg:Aa ["step", "event"] ["step", "event"] (AL Lj):=Bp
theorem Kl:Aa ["step", "item"] ["step", "item"] (AL JC):=Bp
theorem Kn:Aa ["step", "streams"] ["step", "streams"] (AL FE):=Bp
theorem Km:Aa ["time", "size", "step", "first"] ["time", "size", "step"] (AL JD):=Bp
theorem Mc:Aa ["sort", "tally"] ["sort", "tally"] (AL Lg):=Bp
theorem GR:Aa ["step", "events", "items", "place", "event"] ["step", "events"] (AL D8):=Bp
theorem JA:Aa ["items", "rows", "time", "key", "amount", "places"] ["items"] (AL HN):=Bp
theorem JB:Aa ["row", "low", "high"] ["row", "low", "high"] (AL HP):=Bp
theorem Hv:Aa ["item", "other", "places"] ["item", "other"] (AL F4):=Bp
theorem Fu:Aa ["within", "streams", "rows", "made", "item", "near"] ["within", "streams"] (AL DZ):=Bp
theorem Ft:Aa ["plan", "events", "told", "step", "streams"] ["plan", "events"] (AL DY):=Bp
theorem E4:Aa ["times", "size", "step", "begins", "time", "start"] ["times", "size", "step"] (AL Cj):=Bp
theorem FC:Aa ["times", "most", "parts", "time"] ["times", "most"] (AL DM):=Bp
theorem Fq:Aa ["step", "times"] ["step", "times"] (AL Ed):=Bp
theorem Fs:Aa ["step", "inner", "amounts"] ["step", "inner"] (AL DX):=Bp
theorem FA:Aa ["place", "step", "key", "row", "told", "start", "end", "inner"] ["place", "step", "key", "row"] (AL DL):=Bp
theorem Iv:Aa ["plan", "events", "streams", "told", "place", "rows", "key"] ["plan", "events"] (AL HJ):=Bp
theorem GQ:Aa ["plan", "events"] ["plan", "events"] (AL D7):=Bp
theorem GS:Aa ["inner", "reason", "time", "amount", "places", "place"] ["inner"] (AL FD):=Bp
theorem Hu:Aa ["plan", "events"] ["plan", "events"] (AL Ee):=Bp
theorem RJ:Aa ["plan", "events", "row", "mark"] ["plan", "events", "row"] (AL RM):=Bp
theorem Ht:Aa ["_law_script", "_law_k"] ["_law_script", "_law_k"] (AL F3):=Bp
theorem Me:Aa ["_law_cell", "_law_k", "_law_letters", "_law_frame", "_law_at"] ["_law_cell", "_law_k"] (AL Lh):=Bp
theorem Iq:Aa ["_law_mixed", "_law_name_here", "_law_streams", "_law_kinds", "_law_tick", "_law_way", "_law_one", "_law_other", "_law_more"] ["_law_mixed", "_law_name_here", "_law_streams", "_law_kinds", "_law_tick"] (AL HI):=Bp
theorem Mf:Aa ["_law_step", "_law_sizes", "_law_many_here"] ["_law_step", "_law_sizes", "_law_many_here"] (AL Li):=Bp
theorem Md:Aa ["_law_script", "_law_many_here", "_law_tick", "_law_base", "_law_kinds", "_law_plan_here", "_law_sizes", "_law_is_crossed", "_law_k", "_law_mixed", "_law_step", "_law_both", "_law_streams", "_law_sorts", "_law_size", "_law_most", "_law_at", "_law_amid"] ["_law_script", "_law_many_here", "_law_tick"] (AL IL):=Bp
theorem Iu:Aa ["_law_script", "_law_plan_here", "_law_many_here", "_law_tick", "_law_kinds", "_law_keys", "_law_found", "_law_k", "_law_mixed", "_law_time", "_law_amount"] ["_law_script", "_law_plan_here", "_law_many_here", "_law_tick"] (AL EM):=Bp
theorem HH:Aa ["_law_plan_here", "_law_name_here", "_law_events_here", "_law_step", "_law_ones", "_law_others", "_law_found", "_law_one", "_law_other"] ["_law_plan_here", "_law_name_here", "_law_events_here"] (AL Dq):=Bp
theorem Ir:Aa ["_law_plan_here", "_law_row", "_law_events_here", "_law_step", "_law_places", "_law_item"] ["_law_plan_here", "_law_row", "_law_events_here"] (AL FX):=Bp
theorem Kk:Aa ["_law_found", "_law_due", "_law_k"] ["_law_found", "_law_due"] (AL GW):=Bp
theorem RL:Aa ["_law_script", "_law_many_here", "_law_tick", "_law_plan_here", "_law_events_here", "_law_handed", "_law_due", "_law_found", "_law_row", "_law_places", "_law_told", "_law_some", "_law_odd", "_law_k"] ["_law_script"] (AL Ko):=Bp
set_option genInjectivity false in
structure Ad where
 B0:Addr
 Cd:FuncData
 C8:Addr
 Dk:FuncData
 C9:Addr
 Dl:FuncData
 B6:Addr
 Ce:FuncData
 C7:Addr
 Dj:FuncData
 Ew:Addr
 Fo:FuncData
 Eu:Addr
 Fn:FuncData
 Du:Addr
 EY:FuncData
 Dx:Addr
 Ea:FuncData
 Dw:Addr
 EZ:FuncData
 Ep:Addr
 Fi:FuncData
 By:Addr
 Cb:FuncData
 DA:Addr
 Dm:FuncData
 DB:Addr
 Dp:FuncData
 CU:Addr
 C0:FuncData
 Bg:Addr
 CG:FuncData
 Bf:Addr
 CD:FuncData
 BJ:Addr
 BY:FuncData
 BS:Addr
 Bo:FuncData
 Bd:Addr
 CB:FuncData
 Be:Addr
 CC:FuncData
 BR:Addr
 Bn:FuncData
 C6:Addr
 Di:FuncData
 Bx:Addr
 Ca:FuncData
 Bz:Addr
 Cc:FuncData
 CT:Addr
 Cz:FuncData
 J3:Addr
 LB:FuncData
 CS:Addr
 Cy:FuncData
 Es:Addr
 Fl:FuncData
 C3:Addr
 Df:FuncData
 Et:Addr
 Fm:FuncData
 Er:Addr
 Fj:FuncData
 C5:Addr
 Dh:FuncData
 Dt:Addr
 EX:FuncData
 C4:Addr
 Dg:FuncData
 Ds:Addr
 EW:FuncData
 J5:Addr
 Js:FuncData
 DQ:Addr
 CY:Addr
 BG:Addr
structure Tx (K:W.Frag) (mg:Str→Option Value) (ad:Ad):Prop where
 B9:Fun K "names_end" "names_end" FF ad.B0 ad.Cd
 Na:Binds K ad.Cd ["step"] []
 NC:mg "names_end" = some (.ref ad.B0)
 DH:Fun K "name_of" "name_of" HK ad.C8 ad.Dk
 Qj:Binds K ad.Dk ["step"] []
 QE:mg "name_of" = some (.ref ad.C8)
 DJ:Fun K "feeders" "feeders" HM ad.C9 ad.Dl
 Qk:Binds K ad.Dl ["step"] []
 QF:mg "feeders" = some (.ref ad.C9)
 CA:Fun K "is_teller" "is_teller" FG ad.B6 ad.Ce
 Nb:Binds K ad.Ce ["step"] []
 ND:mg "is_teller" = some (.ref ad.B6)
 DG:Fun K "tellers" "tellers" FY ad.C7 ad.Dj
 Qi:Binds K ad.Dj ["plan"] []
 QD:mg "tellers" = some (.ref ad.C7)
 E3:Fun K "ahead" "ahead" Lk ad.Ew ad.Fo
 UD:Binds K ad.Fo ["rows", "mark"] []
 Tv:mg "ahead" = some (.ref ad.Ew)
 E2:Fun K "taken" "taken" Lj ad.Eu ad.Fn
 UC:Binds K ad.Fn ["step", "event"] []
 Tu:mg "taken" = some (.ref ad.Eu)
 D1:Fun K "turned" "turned" JC ad.Du ad.EY
 Sn:Binds K ad.EY ["step", "item"] []
 SE:mg "turned" = some (.ref ad.Du)
 D4:Fun K "passed" "passed" FE ad.Dx ad.Ea
 Sq:Binds K ad.Ea ["step", "streams"] []
 SG:mg "passed" = some (.ref ad.Dx)
 D3:Fun K "starts" "starts" JD ad.Dw ad.EZ
 So:Binds K ad.EZ ["time", "size", "step"] []
 SF:mg "starts" = some (.ref ad.Dw)
 Ey:Fun K "value" "value" Lg ad.Ep ad.Fi
 T9:Binds K ad.Fi ["sort", "tally"] []
 Tr:mg "value" = some (.ref ad.Ep)
 B8:Fun K "taken_all" "taken_all" D8 ad.By ad.Cb
 NZ:Binds K ad.Cb ["step", "events"] []
 NB:mg "taken_all" = some (.ref ad.By)
 Cf:Fun K "by_keys" "by_keys" HN ad.DA ad.Dm
 LN:Binds K ad.Dm ["items"] []
 Kw:mg "by_keys" = some (.ref ad.DA)
 Cg:Fun K "between" "between" HP ad.DB ad.Dp
 LO:Binds K ad.Dp ["row", "low", "high"] []
 Kx:mg "between" = some (.ref ad.DB)
 CW:Fun K "met_once" "met_once" F4 ad.CU ad.C0
 OS:Binds K ad.C0 ["item", "other"] []
 OB:mg "met_once" = some (.ref ad.CU)
 Bl:Fun K "joined_all" "joined_all" DZ ad.Bg ad.CG
 MQ:Binds K ad.CG ["within", "streams"] []
 L9:mg "joined_all" = some (.ref ad.Bg)
 Bk:Fun K "streams_of" "streams_of" DY ad.Bf ad.CD
 MP:Binds K ad.CD ["plan", "events"] []
 L8:mg "streams_of" = some (.ref ad.Bf)
 BK:Fun K "each_windows" "each_windows" Cj ad.BJ ad.BY
 J2:Binds K ad.BY ["times", "size", "step"] []
 Jl:mg "each_windows" = some (.ref ad.BJ)
 BV:Fun K "gap_windows" "gap_windows" DM ad.BS ad.Bo
 KS:Binds K ad.Bo ["times", "most"] []
 KN:mg "gap_windows" = some (.ref ad.BS)
 Bh:Fun K "windows_of" "windows_of" Ed ad.Bd ad.CB
 MN:Binds K ad.CB ["step", "times"] []
 L6:mg "windows_of" = some (.ref ad.Bd)
 Bj:Fun K "told_value" "told_value" DX ad.Be ad.CC
 MO:Binds K ad.CC ["step", "inner"] []
 L7:mg "told_value" = some (.ref ad.Be)
 BU:Fun K "told_of_key" "told_of_key" DL ad.BR ad.Bn
 KR:Binds K ad.Bn ["place", "step", "key", "row"] []
 KL:mg "told_of_key" = some (.ref ad.BR)
 CH:Fun K "told_of" "told_of" HJ ad.C6 ad.Di
 Hk:Binds K ad.Di ["plan", "events"] []
 HX:mg "told_of" = some (.ref ad.C6)
 B7:Fun K "told_once" "told_once" D7 ad.Bx ad.Ca
 NY:Binds K ad.Ca ["plan", "events"] []
 NA:mg "told_once" = some (.ref ad.Bx)
 Bb:Fun K "reason_of" "reason_of" FD ad.Bz ad.Cc
 IC:Binds K ad.Cc ["inner"] []
 Hz:mg "reason_of" = some (.ref ad.Bz)
 CV:Fun K "told_why" "told_why" Ee ad.CT ad.Cz
 OR:Binds K ad.Cz ["plan", "events"] []
 OA:mg "told_why" = some (.ref ad.CT)
 J7:Fun K "why" "why" RM ad.J3 ad.LB
 WO:Binds K ad.LB ["plan", "events", "row"] []
 WE:mg "why" = some (.ref ad.J3)
 Bi:Fun K "_law_cell_at" "_law_cell_at" F3 ad.CS ad.Cy
 GJ:Binds K ad.Cy ["_law_script", "_law_k"] []
 GF:mg "_law_cell_at" = some (.ref ad.CS)
 EG:Fun K "_law_name" "_law_name" Lh ad.Es ad.Fl
 PF:Binds K ad.Fl ["_law_cell", "_law_k"] []
 Ot:mg "_law_name" = some (.ref ad.Es)
 DD:Fun K "_law_stream" "_law_stream" HI ad.C3 ad.Df
 Qf:Binds K ad.Df ["_law_mixed", "_law_name_here", "_law_streams", "_law_kinds", "_law_tick"] []
 QA:mg "_law_stream" = some (.ref ad.C3)
 E1:Fun K "_law_many" "_law_many" Li ad.Et ad.Fm
 UB:Binds K ad.Fm ["_law_step", "_law_sizes", "_law_many_here"] []
 Tt:mg "_law_many" = some (.ref ad.Et)
 Ez:Fun K "_law_plan" "_law_plan" IL ad.Er ad.Fj
 UA:Binds K ad.Fj ["_law_script", "_law_many_here", "_law_tick"] []
 Ts:mg "_law_plan" = some (.ref ad.Er)
 DF:Fun K "_law_events" "_law_events" EM ad.C5 ad.Dh
 Qh:Binds K ad.Dh ["_law_script", "_law_plan_here", "_law_many_here", "_law_tick"] []
 QC:mg "_law_events" = some (.ref ad.C5)
 CP:Fun K "_law_items" "_law_items" Dq ad.Dt ad.EX
 J1:Binds K ad.EX ["_law_plan_here", "_law_name_here", "_law_events_here"] []
 Jk:mg "_law_items" = some (.ref ad.Dt)
 DE:Fun K "_law_reason" "_law_reason" FX ad.C4 ad.Dg
 Qg:Binds K ad.Dg ["_law_plan_here", "_law_row", "_law_events_here"] []
 QB:mg "_law_reason" = some (.ref ad.C4)
 Dz:Fun K "_law_right" "_law_right" GW ad.Ds ad.EW
 Sm:Binds K ad.EW ["_law_found", "_law_due"] []
 SD:mg "_law_right" = some (.ref ad.Ds)
 J8:Fun K "law" "law" Ko ad.J5 ad.Js
 W5:Binds K ad.Js ["_law_script"] []
 WG:mg "law" = some (.ref ad.J5)
 FT:mg "PAIRED" = some (.ref ad.DQ)
 RT:∀H,SqT K H ad.DQ [.str "both", .str "join"]
 WH:∃o,K.lookup ad.DQ=some o/\o.cls=.type "tuple" /\ o.dict=none
 ET:mg "TELLERS" = some (.ref ad.CY)
 Pp:∀H,SqT K H ad.CY [.str "each", .str "gap"]
 Vf:∃o,K.lookup ad.CY=some o/\o.cls=.type "tuple" /\ o.dict=none
 EU:mg "TALLIES" = some (.ref ad.BG)
 Pq:∀H,SqT K H ad.BG [.str "count", .str "sum", .str "least", .str "greatest"]
 Fg:∃o,K.lookup ad.BG=some o/\o.cls=.type "tuple" /\ o.dict=none
 IZ:mg "bool" = none
 Bt:mg "enumerate" = none
 IW:mg "int" = none
 BC:mg "isinstance" = none
 CO:mg "len" = none
 Cv:mg "list" = none
 Fp:mg "max" = none
 E7:mg "min" = none
 DK:mg "range" = none
 KY:mg "set" = none
 CN:mg "sorted" = none
 MV:mg "sum" = none
 Ec:mg "tuple" = none
theorem us1 {α:Type}{us:List α}(h:us.length=1):∃a0,us=[a0]:=by match us,h with|[a0],_=>exact ⟨a0,rfl⟩
theorem us2 {α:Type}{us:List α}(h:us.length=2):∃a0 a1,us=[a0,a1]:=by match us,h with|[a0,a1],_=>exact ⟨a0,a1,rfl⟩
theorem us3 {α:Type}{us:List α}(h:us.length=3):∃a0 a1 a2,us=[a0,a1,a2]:=by match us,h with|[a0,a1,a2],_=>exact ⟨a0,a1,a2,rfl⟩
theorem us4 {α:Type}{us:List α}(h:us.length=4):∃a0 a1 a2 a3,us=[a0,a1,a2,a3]:=by match us,h with|[a0,a1,a2,a3],_=>exact ⟨a0,a1,a2,a3,rfl⟩
theorem us5 {α:Type}{us:List α}(h:us.length=5):∃a0 a1 a2 a3 a4,us=[a0,a1,a2,a3,a4]:=by match us,h with|[a0,a1,a2,a3,a4],_=>exact ⟨a0,a1,a2,a3,a4,rfl⟩
theorem Vg {K:W.Frag}{h:Heap}{mg:Str→Option Value}(X:K.In h) (G:h.Ns mainGlobals mg)
  {f_names_end:Addr} {Cd:FuncData}
  {f_name_of:Addr} {Dk:FuncData}
  {f_feeders:Addr} {Dl:FuncData}
  {f_is_teller:Addr} {Ce:FuncData}
  {f_tellers:Addr} {Dj:FuncData}
  {f_ahead:Addr} {Fo:FuncData}
  {f_taken:Addr} {Fn:FuncData}
  {f_turned:Addr} {EY:FuncData}
  {f_passed:Addr} {Ea:FuncData}
  {f_starts:Addr} {EZ:FuncData}
  {f_value:Addr} {Fi:FuncData}
  {f_taken_all:Addr} {Cb:FuncData}
  {f_by_keys:Addr} {Dm:FuncData}
  {f_between:Addr} {Dp:FuncData}
  {f_met_once:Addr} {C0:FuncData}
  {f_joined_all:Addr} {CG:FuncData}
  {f_streams_of:Addr} {CD:FuncData}
  {f_each_windows:Addr} {BY:FuncData}
  {f_gap_windows:Addr} {Bo:FuncData}
  {f_windows_of:Addr} {CB:FuncData}
  {f_told_value:Addr} {CC:FuncData}
  {f_told_of_key:Addr} {Bn:FuncData}
  {f_told_of:Addr} {Di:FuncData}
  {f_told_once:Addr} {Ca:FuncData}
  {f_reason_of:Addr} {Cc:FuncData}
  {f_told_why:Addr} {Cz:FuncData}
  {f_why:Addr} {LB:FuncData}
  {f_ucell_at:Addr} {Cy:FuncData}
  {f_uname:Addr} {Fl:FuncData}
  {f_ustream:Addr} {Df:FuncData}
  {f_umany:Addr} {Fm:FuncData}
  {f_uplan:Addr} {Fj:FuncData}
  {f_uevents:Addr} {Dh:FuncData}
  {f_uitems:Addr} {EX:FuncData}
  {f_ureason:Addr} {Dg:FuncData}
  {f_uright:Addr} {EW:FuncData}
  {f_law:Addr} {Js:FuncData}
  {DQ:Addr}
  {t0_PAIRED t1_PAIRED:Tok}
  {n_PAIRED:Nat} {sl_PAIRED:Array (Option Value)}
  {CY:Addr}
  {t0_TELLERS t1_TELLERS:Tok}
  {n_TELLERS:Nat} {sl_TELLERS:Array (Option Value)}
  {BG:Addr}
  {t0_TALLIES t1_TALLIES t2_TALLIES t3_TALLIES:Tok}
  {n_TALLIES:Nat} {sl_TALLIES:Array (Option Value)}
  (B0:W.nsIn K mainGlobals "names_end" = some (some (.ref f_names_end)))
  (B9:Fun K "names_end" "names_end" FF f_names_end Cd)
  (C8:W.nsIn K mainGlobals "name_of" = some (some (.ref f_name_of)))
  (DH:Fun K "name_of" "name_of" HK f_name_of Dk)
  (C9:W.nsIn K mainGlobals "feeders" = some (some (.ref f_feeders)))
  (DJ:Fun K "feeders" "feeders" HM f_feeders Dl)
  (B6:W.nsIn K mainGlobals "is_teller" = some (some (.ref f_is_teller)))
  (CA:Fun K "is_teller" "is_teller" FG f_is_teller Ce)
  (C7:W.nsIn K mainGlobals "tellers" = some (some (.ref f_tellers)))
  (DG:Fun K "tellers" "tellers" FY f_tellers Dj)
  (Ew:W.nsIn K mainGlobals "ahead" = some (some (.ref f_ahead)))
  (E3:Fun K "ahead" "ahead" Lk f_ahead Fo)
  (Eu:W.nsIn K mainGlobals "taken" = some (some (.ref f_taken)))
  (E2:Fun K "taken" "taken" Lj f_taken Fn)
  (Du:W.nsIn K mainGlobals "turned" = some (some (.ref f_turned)))
  (D1:Fun K "turned" "turned" JC f_turned EY)
  (Dx:W.nsIn K mainGlobals "passed" = some (some (.ref f_passed)))
  (D4:Fun K "passed" "passed" FE f_passed Ea)
  (Dw:W.nsIn K mainGlobals "starts" = some (some (.ref f_starts)))
  (D3:Fun K "starts" "starts" JD f_starts EZ)
  (Ep:W.nsIn K mainGlobals "value" = some (some (.ref f_value)))
  (Ey:Fun K "value" "value" Lg f_value Fi)
  (By:W.nsIn K mainGlobals "taken_all" = some (some (.ref f_taken_all)))
  (B8:Fun K "taken_all" "taken_all" D8 f_taken_all Cb)
  (DA:W.nsIn K mainGlobals "by_keys" = some (some (.ref f_by_keys)))
  (Cf:Fun K "by_keys" "by_keys" HN f_by_keys Dm)
  (DB:W.nsIn K mainGlobals "between" = some (some (.ref f_between)))
  (Cg:Fun K "between" "between" HP f_between Dp)
  (CU:W.nsIn K mainGlobals "met_once" = some (some (.ref f_met_once)))
  (CW:Fun K "met_once" "met_once" F4 f_met_once C0)
  (Bg:W.nsIn K mainGlobals "joined_all" = some (some (.ref f_joined_all)))
  (Bl:Fun K "joined_all" "joined_all" DZ f_joined_all CG)
  (Bf:W.nsIn K mainGlobals "streams_of" = some (some (.ref f_streams_of)))
  (Bk:Fun K "streams_of" "streams_of" DY f_streams_of CD)
  (BJ:W.nsIn K mainGlobals "each_windows" = some (some (.ref f_each_windows)))
  (BK:Fun K "each_windows" "each_windows" Cj f_each_windows BY)
  (BS:W.nsIn K mainGlobals "gap_windows" = some (some (.ref f_gap_windows)))
  (BV:Fun K "gap_windows" "gap_windows" DM f_gap_windows Bo)
  (Bd:W.nsIn K mainGlobals "windows_of" = some (some (.ref f_windows_of)))
  (Bh:Fun K "windows_of" "windows_of" Ed f_windows_of CB)
  (Be:W.nsIn K mainGlobals "told_value" = some (some (.ref f_told_value)))
  (Bj:Fun K "told_value" "told_value" DX f_told_value CC)
  (BR:W.nsIn K mainGlobals "told_of_key" = some (some (.ref f_told_of_key)))
  (BU:Fun K "told_of_key" "told_of_key" DL f_told_of_key Bn)
  (C6:W.nsIn K mainGlobals "told_of" = some (some (.ref f_told_of)))
  (CH:Fun K "told_of" "told_of" HJ f_told_of Di)
  (Bx:W.nsIn K mainGlobals "told_once" = some (some (.ref f_told_once)))
  (B7:Fun K "told_once" "told_once" D7 f_told_once Ca)
  (Bz:W.nsIn K mainGlobals "reason_of" = some (some (.ref f_reason_of)))
  (Bb:Fun K "reason_of" "reason_of" FD f_reason_of Cc)
  (CT:W.nsIn K mainGlobals "told_why" = some (some (.ref f_told_why)))
  (CV:Fun K "told_why" "told_why" Ee f_told_why Cz)
  (J3:W.nsIn K mainGlobals "why" = some (some (.ref f_why)))
  (J7:Fun K "why" "why" RM f_why LB)
  (CS:W.nsIn K mainGlobals "_law_cell_at" = some (some (.ref f_ucell_at)))
  (Bi:Fun K "_law_cell_at" "_law_cell_at" F3 f_ucell_at Cy)
  (Es:W.nsIn K mainGlobals "_law_name" = some (some (.ref f_uname)))
  (EG:Fun K "_law_name" "_law_name" Lh f_uname Fl)
  (C3:W.nsIn K mainGlobals "_law_stream" = some (some (.ref f_ustream)))
  (DD:Fun K "_law_stream" "_law_stream" HI f_ustream Df)
  (Et:W.nsIn K mainGlobals "_law_many" = some (some (.ref f_umany)))
  (E1:Fun K "_law_many" "_law_many" Li f_umany Fm)
  (Er:W.nsIn K mainGlobals "_law_plan" = some (some (.ref f_uplan)))
  (Ez:Fun K "_law_plan" "_law_plan" IL f_uplan Fj)
  (C5:W.nsIn K mainGlobals "_law_events" = some (some (.ref f_uevents)))
  (DF:Fun K "_law_events" "_law_events" EM f_uevents Dh)
  (Dt:W.nsIn K mainGlobals "_law_items" = some (some (.ref f_uitems)))
  (CP:Fun K "_law_items" "_law_items" Dq f_uitems EX)
  (C4:W.nsIn K mainGlobals "_law_reason" = some (some (.ref f_ureason)))
  (DE:Fun K "_law_reason" "_law_reason" FX f_ureason Dg)
  (Ds:W.nsIn K mainGlobals "_law_right" = some (some (.ref f_uright)))
  (Dz:Fun K "_law_right" "_law_right" GW f_uright EW)
  (J5:W.nsIn K mainGlobals "law" = some (some (.ref f_law)))
  (J8:Fun K "law" "law" Ko f_law Js)
  (FT:W.nsIn K mainGlobals "PAIRED" = some (some (.ref DQ)))
  (l_PAIRED:K.lookup DQ=some ⟨.type "tuple", none,.seq #[.str "both" t0_PAIRED,.str "join" t1_PAIRED] n_PAIRED,sl_PAIRED⟩)
  (ET:W.nsIn K mainGlobals "TELLERS" = some (some (.ref CY)))
  (l_TELLERS:K.lookup CY=some ⟨.type "tuple", none,.seq #[.str "each" t0_TELLERS,.str "gap" t1_TELLERS] n_TELLERS,sl_TELLERS⟩)
  (EU:W.nsIn K mainGlobals "TALLIES" = some (some (.ref BG)))
  (l_TALLIES:K.lookup BG=some ⟨.type "tuple", none,.seq #[.str "count" t0_TALLIES,.str "sum" t1_TALLIES,.str "least" t2_TALLIES,.str "greatest" t3_TALLIES] n_TALLIES,sl_TALLIES⟩)
  (IZ:W.nsIn K mainGlobals "bool" = some none)
  (Bt:W.nsIn K mainGlobals "enumerate" = some none)
  (IW:W.nsIn K mainGlobals "int" = some none)
  (BC:W.nsIn K mainGlobals "isinstance" = some none)
  (CO:W.nsIn K mainGlobals "len" = some none)
  (Cv:W.nsIn K mainGlobals "list" = some none)
  (Fp:W.nsIn K mainGlobals "max" = some none)
  (E7:W.nsIn K mainGlobals "min" = some none)
  (DK:W.nsIn K mainGlobals "range" = some none)
  (KY:W.nsIn K mainGlobals "set" = some none)
  (CN:W.nsIn K mainGlobals "sorted" = some none)
  (MV:W.nsIn K mainGlobals "sum" = some none)
  (Ec:W.nsIn K mainGlobals "tuple" = some none)
  : Tx K mg (⟨f_names_end,Cd,f_name_of,Dk,f_feeders,Dl,f_is_teller,Ce,f_tellers,Dj,f_ahead,Fo,f_taken,Fn,f_turned,EY,f_passed,Ea,f_starts,EZ,f_value,Fi,f_taken_all,Cb,f_by_keys,Dm,f_between,Dp,f_met_once,C0,f_joined_all,CG,f_streams_of,CD,f_each_windows,BY,f_gap_windows,Bo,f_windows_of,CB,f_told_value,CC,f_told_of_key,Bn,f_told_of,Di,f_told_once,Ca,f_reason_of,Cc,f_told_why,Cz,f_why,LB,f_ucell_at,Cy,f_uname,Fl,f_ustream,Df,f_umany,Fm,f_uplan,Fj,f_uevents,Dh,f_uitems,EX,f_ureason,Dg,f_uright,EW,f_law,Js,DQ,CY,BG⟩:Ad) :=
 ⟨B9,
  B9.binds fun _ _ _ _ _ _ us hl=>by obtain ⟨a0,rfl⟩:=us1 hl;rfl,
  W.mg_of X G B0,
  DH,
  DH.binds fun _ _ _ _ _ _ us hl=>by obtain ⟨a0,rfl⟩:=us1 hl;rfl,
  W.mg_of X G C8,
  DJ,
  DJ.binds fun _ _ _ _ _ _ us hl=>by obtain ⟨a0,rfl⟩:=us1 hl;rfl,
  W.mg_of X G C9,
  CA,
  CA.binds fun _ _ _ _ _ _ us hl=>by obtain ⟨a0,rfl⟩:=us1 hl;rfl,
  W.mg_of X G B6,
  DG,
  DG.binds fun _ _ _ _ _ _ us hl=>by obtain ⟨a0,rfl⟩:=us1 hl;rfl,
  W.mg_of X G C7,
  E3,
  E3.binds fun _ _ _ _ _ _ us hl=>by obtain ⟨a0,a1,rfl⟩:=us2 hl;rfl,
  W.mg_of X G Ew,
  E2,
  E2.binds fun _ _ _ _ _ _ us hl=>by obtain ⟨a0,a1,rfl⟩:=us2 hl;rfl,
  W.mg_of X G Eu,
  D1,
  D1.binds fun _ _ _ _ _ _ us hl=>by obtain ⟨a0,a1,rfl⟩:=us2 hl;rfl,
  W.mg_of X G Du,
  D4,
  D4.binds fun _ _ _ _ _ _ us hl=>by obtain ⟨a0,a1,rfl⟩:=us2 hl;rfl,
  W.mg_of X G Dx,
  D3,
  D3.binds fun _ _ _ _ _ _ us hl=>by obtain ⟨a0,a1,a2,rfl⟩:=us3 hl;rfl,
  W.mg_of X G Dw,
  Ey,
  Ey.binds fun _ _ _ _ _ _ us hl=>by obtain ⟨a0,a1,rfl⟩:=us2 hl;rfl,
  W.mg_of X G Ep,
  B8,
  B8.binds fun _ _ _ _ _ _ us hl=>by obtain ⟨a0,a1,rfl⟩:=us2 hl;rfl,
  W.mg_of X G By,
  Cf,
  Cf.binds fun _ _ _ _ _ _ us hl=>by obtain ⟨a0,rfl⟩:=us1 hl;rfl,
  W.mg_of X G DA,
  Cg,
  Cg.binds fun _ _ _ _ _ _ us hl=>by obtain ⟨a0,a1,a2,rfl⟩:=us3 hl;rfl,
  W.mg_of X G DB,
  CW,
  CW.binds fun _ _ _ _ _ _ us hl=>by obtain ⟨a0,a1,rfl⟩:=us2 hl;rfl,
  W.mg_of X G CU,
  Bl,
  Bl.binds fun _ _ _ _ _ _ us hl=>by obtain ⟨a0,a1,rfl⟩:=us2 hl;rfl,
  W.mg_of X G Bg,
  Bk,
  Bk.binds fun _ _ _ _ _ _ us hl=>by obtain ⟨a0,a1,rfl⟩:=us2 hl;rfl,
  W.mg_of X G Bf,
  BK,
  BK.binds fun _ _ _ _ _ _ us hl=>by obtain ⟨a0,a1,a2,rfl⟩:=us3 hl;rfl,
  W.mg_of X G BJ,
  BV,
  BV.binds fun _ _ _ _ _ _ us hl=>by obtain ⟨a0,a1,rfl⟩:=us2 hl;rfl,
  W.mg_of X G BS,
  Bh,
  Bh.binds fun _ _ _ _ _ _ us hl=>by obtain ⟨a0,a1,rfl⟩:=us2 hl;rfl,
  W.mg_of X G Bd,
  Bj,
  Bj.binds fun _ _ _ _ _ _ us hl=>by obtain ⟨a0,a1,rfl⟩:=us2 hl;rfl,
  W.mg_of X G Be,
  BU,
  BU.binds fun _ _ _ _ _ _ us hl=>by obtain ⟨a0,a1,a2,a3,rfl⟩:=us4 hl;rfl,
  W.mg_of X G BR,
  CH,
  CH.binds fun _ _ _ _ _ _ us hl=>by obtain ⟨a0,a1,rfl⟩:=us2 hl;rfl,
  W.mg_of X G C6,
  B7,
  B7.binds fun _ _ _ _ _ _ us hl=>by obtain ⟨a0,a1,rfl⟩:=us2 hl;rfl,
  W.mg_of X G Bx,
  Bb,
  Bb.binds fun _ _ _ _ _ _ us hl=>by obtain ⟨a0,rfl⟩:=us1 hl;rfl,
  W.mg_of X G Bz,
  CV,
  CV.binds fun _ _ _ _ _ _ us hl=>by obtain ⟨a0,a1,rfl⟩:=us2 hl;rfl,
  W.mg_of X G CT,
  J7,
  J7.binds fun _ _ _ _ _ _ us hl=>by obtain ⟨a0,a1,a2,rfl⟩:=us3 hl;rfl,
  W.mg_of X G J3,
  Bi,
  Bi.binds fun _ _ _ _ _ _ us hl=>by obtain ⟨a0,a1,rfl⟩:=us2 hl;rfl,
  W.mg_of X G CS,
  EG,
  EG.binds fun _ _ _ _ _ _ us hl=>by obtain ⟨a0,a1,rfl⟩:=us2 hl;rfl,
  W.mg_of X G Es,
  DD,
  DD.binds fun _ _ _ _ _ _ us hl=>by obtain ⟨a0,a1,a2,a3,a4,rfl⟩:=us5 hl;rfl,
  W.mg_of X G C3,
  E1,
  E1.binds fun _ _ _ _ _ _ us hl=>by obtain ⟨a0,a1,a2,rfl⟩:=us3 hl;rfl,
  W.mg_of X G Et,
  Ez,
  Ez.binds fun _ _ _ _ _ _ us hl=>by obtain ⟨a0,a1,a2,rfl⟩:=us3 hl;rfl,
  W.mg_of X G Er,
  DF,
  DF.binds fun _ _ _ _ _ _ us hl=>by obtain ⟨a0,a1,a2,a3,rfl⟩:=us4 hl;rfl,
  W.mg_of X G C5,
  CP,
  CP.binds fun _ _ _ _ _ _ us hl=>by obtain ⟨a0,a1,a2,rfl⟩:=us3 hl;rfl,
  W.mg_of X G Dt,
  DE,
  DE.binds fun _ _ _ _ _ _ us hl=>by obtain ⟨a0,a1,a2,rfl⟩:=us3 hl;rfl,
  W.mg_of X G C4,
  Dz,
  Dz.binds fun _ _ _ _ _ _ us hl=>by obtain ⟨a0,a1,rfl⟩:=us2 hl;rfl,
  W.mg_of X G Ds,
  J8,
  J8.binds fun _ _ _ _ _ _ us hl=>by obtain ⟨a0,rfl⟩:=us1 hl;rfl,
  W.mg_of X G J5,
  W.mg_of X G FT,
  fun H=>.inr ⟨_,_,_,l_PAIRED,rfl,rfl,by first|decide|exact (by decide:2≤sizeLine),by repeat (first|exact .nil|refine .cons ?_ ?_|exact ⟨_,rfl⟩|rfl)⟩,
  ⟨_,l_PAIRED,rfl,rfl⟩,
  W.mg_of X G ET,
  fun H=>.inr ⟨_,_,_,l_TELLERS,rfl,rfl,by first|decide|exact (by decide:2≤sizeLine),by repeat (first|exact .nil|refine .cons ?_ ?_|exact ⟨_,rfl⟩|rfl)⟩,
  ⟨_,l_TELLERS,rfl,rfl⟩,
  W.mg_of X G EU,
  fun H=>.inr ⟨_,_,_,l_TALLIES,rfl,rfl,by first|decide|exact (by decide:4≤sizeLine),by repeat (first|exact .nil|refine .cons ?_ ?_|exact ⟨_,rfl⟩|rfl)⟩,
  ⟨_,l_TALLIES,rfl,rfl⟩,
  W.mg_none_of X G IZ,
  W.mg_none_of X G Bt,
  W.mg_none_of X G IW,
  W.mg_none_of X G BC,
  W.mg_none_of X G CO,
  W.mg_none_of X G Cv,
  W.mg_none_of X G Fp,
  W.mg_none_of X G E7,
  W.mg_none_of X G DK,
  W.mg_none_of X G KY,
  W.mg_none_of X G CN,
  W.mg_none_of X G MV,
  W.mg_none_of X G Ec⟩
variable {P:Program}{w:World}{K:W.Frag}{mg:Str→Option Value}{base:Heap}{ad:Ad}
def Lc (K:W.Frag):Sp:=fun vs H Q _=>∃(a:Addr) (ns:List Int),vs=[.ref a]/\SqL K H a (ns.map V.int)/\ns.length≤63/\∀H',Q (.bl true) H'
theorem VN (K:W.Frag) (H:Hp) (a:Addr) (ns:List Int) (hl:ns.length≤63) (_:Sr H) (hS:SqL K H a (ns.map V.int)):Lc K [.ref a] H (fun v _=>v=.bl true) fun _ _ _=>False:=⟨a,ns,rfl,hS,hl,fun _=>rfl⟩
abbrev depth:Nat:=60
inductive Stp where
 | take (n k:Str)
 | only (n a:Str) (lo hi:Int)
 | turn (n a:Str) (f g:Int)
 | both (n a b:Str)
 | join (n a b:Str) (wi:Int)
 | gap (n a s:Str) (m:Int)
 | each (n a s:Str) (sz st:Int)
namespace Stp
def key:Stp→List Key
 | take n k=>[.inr "take", .inr n,.inr k]
 | only n a lo hi=>[.inr "only", .inr n,.inr a,.inl lo,.inl hi]
 | turn n a f g=>[.inr "turn", .inr n,.inr a,.inl f,.inl g]
 | both n a b=>[.inr "both", .inr n,.inr a,.inr b]
 | join n a b wi=>[.inr "join", .inr n,.inr a,.inr b,.inl wi]
 | gap n a s m=>[.inr "gap", .inr n,.inr a,.inr s,.inl m]
 | each n a s sz st=>[.inr "each", .inr n,.inr a,.inr s,.inl sz,.inl st]
def word:Stp→Str
 | take .. => "take"
 | only .. => "only"
 | turn .. => "turn"
 | both .. => "both"
 | join .. => "join"
 | gap .. => "gap"
 | each .. => "each"
def nm:Stp→Str
 | take n _|only n _ _ _|turn n _ _ _|both n _ _|join n _ _ _|gap n _ _ _|each n _ _ _ _=>n
def As:Stp→List Str
 | take ..=>[]
 | only _ a _ _|turn _ a _ _|gap _ a _ _|each _ a _ _ _=>[a]
 | both _ a b|join _ a b _=>[a,b]
def tell:Stp→Bool
 | gap ..|each ..=>true
 | _=>false
def ends:Stp→Int
 | both ..|join ..=>4
 | _=>3
def pair:Stp→Bool
 | both ..|join ..=>true
 | _=>false
end Stp
def StA (H:Hp) (p:Addr) (s:Stp):Prop:=H p=some (.tup (s.key.map kV))
theorem StA.tp {H H':Hp}{p:Addr}{s:Stp}(h:StA H p s) (t:Tp H H'):StA H' p s:=t _ _ h
def PAI:List V:=[.str "both", .str "join"]
theorem StA.word {H:Hp}{p:Addr}{s:Stp}(h:StA H p s):SqT K H p (s.key.map kV)/\atI (s.key.map kV) 0=some (.str s.word)/\atI (s.key.map kV) 1=some (.str s.nm):=by
 refine ⟨SqT.of h,?_⟩
 cases s <;> exact ⟨AF (j:=0) rfl,AF (j:=1) rfl⟩
theorem PK:∀st:Stp,inV (.str st.word) PAI=st.pair
 | .take ..=>(by decide +kernel:inV (.str "take") PAI=false)
 | .only ..=>(by decide +kernel:inV (.str "only") PAI=false)
 | .turn ..=>(by decide +kernel:inV (.str "turn") PAI=false)
 | .both ..=>(by decide +kernel:inV (.str "both") PAI=true)
 | .join ..=>(by decide +kernel:inV (.str "join") PAI=true)
 | .gap ..=>(by decide +kernel:inV (.str "gap") PAI=false)
 | .each ..=>(by decide +kernel:inV (.str "each") PAI=false)
def Stp.no:Stp→Nat
 | .take ..=>0
 | .only ..=>1
 | .turn ..=>2
 | .both ..=>3
 | .join ..=>4
 | .gap ..=>5
 | .each ..=>6
def wordAt:List Str:=["take", "only", "turn", "both", "join", "gap", "each"]
theorem LR (st:Stp):wordAt[st.no]?=some st.word:=by cases st <;> rfl
theorem Su {st:Stp}{i:Nat}{z:Str}(hz:wordAt[i]?=some z) (e:st.word=z):st.no=i:=by
 have nd:wordAt.Nodup:=by decide +kernel
 have h:=LR st
 rw [e] at h
 obtain ⟨h1,g1⟩:=List.getElem?_eq_some_iff.mp h
 obtain ⟨h2,g2⟩:=List.getElem?_eq_some_iff.mp hz
 have pw:=List.pairwise_iff_getElem.mp nd
 rcases Nat.lt_trichotomy st.no i with q|q|q
 ·exact absurd (g1.trans g2.symm) (pw _ _ h1 h2 q)
 ·exact q
 ·exact absurd (g2.trans g1.symm) (pw _ _ h2 h1 q)
theorem Sv {st:Stp}{i:Nat}{z:Str}(hz:wordAt[i]?=some z) (e:st.no≠i):st.word≠z:=fun q=>e (Su hz q)
theorem GG {st:Stp}{i:Nat}{z:Str}{A B:Prop}(hz:wordAt[i]?=some z) (ha:st.no=i→A) (hb:st.no≠i→B):if decide (V.str st.word=V.str z)=true then A else B:=by
 by_cases h:st.no=i
 ·have e:st.word=z:=by have:=LR st;rw [h,hz] at this;exact (Option.some.inj this).symm
  rw [if_pos (by rw [e];exact decide_eq_true rfl)]
  exact ha h
 ·rw [if_neg (by rw [decide_eq_true_eq];exact fun q=>Sv hz h (V.str.inj q))]
  exact hb h
def Vw:Sp:=fun vs H Q _=>∃(p:Addr) (s:Stp),vs=[.ref p]/\StA H p s/\Q (.int s.ends) H
theorem L3 (T:Tx K mg ad):BM P w K mg base CX0 1 ad.B0 ad.Cd ["step"] Vw:=by
 refine T.B9.ok GU (fun vs H Q E h=>?_) (fun cdv A outer s H vs Q E hr h=>?_)
 ·obtain ⟨p,s,rfl,_⟩:=h
  rfl
 ·obtain ⟨p,st,rfl,e,k⟩:=h
  have nd:=GU.nd
  refine ⟨_,(AH (AQ (Mq (AR (JW (K:=K)) (pxt K (pv 0) AB) (Lu (v:=.ref ad.DQ) (by rfl) T.FT rfl) (by with_unfolding_all rfl)) AB AB))),?_⟩
  obtain ⟨e0,e1,e2⟩:=e.word (K:=K)
  refine ⟨_,rfl,p,_,_,_,rfl,rfl,e0,e1,_,PAI,rfl,.inr (T.RT H),rfl,rfl,_,rfl,?_⟩
  have ew:=PK st
  refine OF (fun q=>?_) fun q=>?_
  ·have q:inV (.str st.word) PAI=true:=q
   rw [ew] at q
   cases st <;> first|exact k|cases q
  ·have q:inV (.str st.word) PAI=false:=q
   rw [ew] at q
   cases st <;> first|exact k|cases q
def Wk:Sp:=fun vs H Q _=>∃(p:Addr) (s:Stp),vs=[.ref p]/\StA H p s/\Q (.str s.nm) H
theorem N5 (T:Tx K mg ad):BM P w K mg base CX0 1 ad.C8 ad.Dk ["step"] Wk:=by
 refine T.DH.ok Iy (fun vs H Q E h=>?_) (fun cdv A outer s H vs Q E hr h=>?_)
 ·obtain ⟨p,s,rfl,_⟩:=h
  rfl
 ·obtain ⟨p,st,rfl,e,k⟩:=h
  have nd:=Iy.nd
  refine ⟨_,(AH (AQ (pxt K (pv 0) AB))),?_⟩
  obtain ⟨e0,e1,e2⟩:=e.word (K:=K)
  exact ⟨_,rfl,p,_,_,_,rfl,rfl,e0,e2,k⟩
def TH:Sp:=fun vs H Q _=>∃(p:Addr) (s:Stp),vs=[.ref p]/\StA H p s/\∀l H',AK H H'→H l=none→H' l=some (.lst (s.As.map V.str))→Q (.ref l) H'
theorem N7 (T:Tx K mg ad):BM P w K mg base CX0 2 ad.C9 ad.Dl ["step"] TH:=by
 have G_names_end:=BA.mk (L3 (P:=P) (w:=w) (base:=base) T) T.NC T.B9.kp T.Na
 refine T.DJ.ok Iz (fun vs H Q E h=>?_) (fun cdv A outer s H vs Q E hr h=>?_)
 ·obtain ⟨p,s,rfl,_⟩:=h
  rfl
 ·obtain ⟨p,st,rfl,e,k⟩:=h
  have nd:=Iz.nd
  refine ⟨_,(Ac (A0 (AR BE (pxt K (pv 0) AB) Ak (Ab _))
    (AH (AQ (Ao AD)))
    Al)
    (AH (AQ (Bm (EI (K:=K)) (by rfl) T.Cv PyProof.Rows.boot_list (AA (Aq (CQ (K:=K)) (pv 0) (Au AB) (Au (AI G_names_end hr (AA (pv 0) AD)))) AD))))),?_⟩
  obtain ⟨e0,e1,e2⟩:=e.word (K:=K)
  refine ⟨_,rfl,p,_,_,_,rfl,rfl,e0,e1,rfl,_,rfl,GG (i:=0) rfl (fun q1=>?_) fun q1=>?_⟩
  ·have ef:st.As=[]:=by cases st <;> first|rfl|cases q1
   exact ⟨Nat.zero_le _,fun l hl=>k l _ ((AK.refl H).upd hl) hl (by rw [ef];exact AE)⟩
  ·have ef:CK (st.key.map kV) (some 2) (some st.ends)=st.As.map V.str:=by
    cases st <;> first|rfl|exact absurd rfl q1
   refine ⟨_,rfl,_,rfl,_,rfl,p,st,rfl,e,_,rfl,p,_,rfl,e0,?_,fun p2 hp2=>⟨p2,_,rfl,.inr (SqT.of AE),fun l hl=>k l _ (((AK.refl H).upd hp2).upd hl) (by have hl':=hl;rw [AO (AM AE hl').symm] at hl;exact hl) ?_⟩⟩
   ·rintro ⟨q,_⟩
    have hl:3≤(st.key.map kV).length:=by cases st <;> exact le1 rfl
    have q2:=(HT.Ll (st.key.map kV).length 0 2).symm.trans q
    omega
   ·rw [AE,ef]
abbrev It:=Int×Str×Int
def itK (i:It):List Key:=[.inl i.1,.inr i.2.1,.inl i.2.2]
abbrev Ev:=Int×Str×Str×Int
def evK (e:Ev):List Key:=[.inl e.1,.inr e.2.1,.inr e.2.2.1,.inl e.2.2.2]
def evI (e:Ev):It:=(e.1,e.2.2.1,e.2.2.2)
def EvA (H:Hp) (p:Addr) (e:Ev):Prop:=H p=some (.tup ((evK e).map kV))
def WT (H:Hp) (c:Addr) (L:List It):Prop:=∃xs,H c=some (.lst xs)/\Rws H xs (L.map itK)
def IJ (H:Hp) (l:Addr) (evs:List Ev):Prop:=∃xs,H l=some (.lst xs)/\Rws H xs (evs.map evK)
abbrev It4:=It×List Int
def I4 (H:Hp) (x:V) (i:It4):Prop:=∃a p,x=.ref a/\H a=some (.tup [.int i.1.1,.str i.1.2.1,.int i.1.2.2,.ref p])/\H p=some (.tup (i.2.map V.int))
def Cr (H:Hp) (xs:List V) (M:List It4):Prop:=Paired (I4 H) xs M
def EF (H:Hp) (l:Addr) (M:List It4):Prop:=∃xs,H l=some (.lst xs)/\Cr H xs M
def Ho (ns:List Int):Prop:=ns.Pairwise (· < ·)/\(∀k∈ns,0≤k/\k<20)/\ns≠[]
def MOk (M:List It4):Prop:=∀i∈M,Ho i.2
theorem I4.keep {H H':Hp}{x:V}{i:It4}(h:I4 H x i) (t:Tp H H'):I4 H' x i:=let ⟨a,p,e,e1,e2⟩:=h;⟨a,p,e,t _ _ e1,t _ _ e2⟩
theorem Cr.keep {H H':Hp}{xs:List V}{M:List It4}(h:Cr H xs M) (t:Tp H H'):Cr H' xs M:=AV (fun _ _ q=>q.keep t) h
theorem Cr.len {H:Hp}{xs:List V}{M:List It4}(h:Cr H xs M):xs.length=M.length:=(AN h).1
theorem EF.same {H H':Hp}{l:Addr}{M:List It4}(h:EF H l M) (s:AK H H'):EF H' l M:=let ⟨xs,e,q⟩:=h;⟨xs,s _ _ e,q.keep s.tp⟩
theorem IJ.same {H H':Hp}{l:Addr}{M:List Ev}(h:IJ H l M) (s:AK H H'):IJ H' l M:=let ⟨xs,e,q⟩:=h;⟨xs,s _ _ e,q.keep s.tp⟩
theorem Cr.ix {H:Hp}{xs:List V}{M:List It4}(h:Cr H xs M) {i:Nat}{x:V}(e:xs[i]?=some x):∃m,M[i]?=some m/\I4 H x m:=by
 obtain ⟨l,f⟩:=AN h
 have hi:=(List.getElem?_eq_some_iff.mp e).1
 have e2:=List.getElem?_eq_getElem (show i<M.length by omega)
 exact ⟨_,e2,f i x _ e e2⟩
theorem Rb {k:Nat}(h:k<20):Ho [(k:Int)]:=⟨by simp,fun n hn=>by rw [List.mem_singleton.mp hn];omega,by simp⟩
theorem Ho.nd {ns:List Int}(h:Ho ns):ns.Nodup:=h.1.imp fun h e=>by omega
theorem Ku:∀{ks js:List Int},ks.Nodup→(∀z∈ks,z∈js)→ks.length≤js.length
 | [],_,_,_=>Nat.zero_le _
 | k::ks,js,nd,h=>by
  obtain ⟨n1,n2⟩:=List.nodup_cons.mp nd
  have hk:k∈js:=h k List.mem_cons_self
  have ih:=Ku (js:=js.erase k) n2 fun z hz=>(List.mem_erase_of_ne (fun e=>n1 (by rw [←e];exact hz))).mpr (h z (List.mem_cons_of_mem _ hz))
  rw [List.length_erase_of_mem hk] at ih
  have:=List.length_pos_of_mem hk
  rw [List.length_cons]
  omega
theorem Ho.len {ns:List Int}(h:Ho ns):ns.length≤20:=by
 have:=Ku (js:=(List.range 20).map fun n:Nat=>(n:Int)) h.nd fun z hz=>by
  obtain ⟨a,b⟩:=h.2.1 z hz
  exact List.mem_map.mpr ⟨z.toNat,List.mem_range.mpr (by omega),by omega⟩
 simpa using this
theorem Ic {H:Hp}{p l:Addr}{o:HO}(h:(upd H p o) l=none):H l=none:=by
 have hn:l≠p:=(AM AE h).symm
 rw [AO hn] at h
 exact h
def Cs (k:Str) (e:Ev):List It:=if e.2.1=k then [evI e] else []
def TB:Sp:=fun vs H Q _=>∃(p q:Addr) (n k:Str) (e:Ev),vs=[.ref p,.ref q]/\StA H p (.take n k)/\EvA H q e/\∀l H',AK H H'→H l=none→WT H' l (Cs k e)→Q (.ref l) H'
theorem Rt (T:Tx K mg ad):BM P w K mg base CX0 1 ad.Eu ad.Fn ["step", "event"] TB:=by
 refine T.E2.ok Mg (fun vs H Q E h=>?_) (fun cdv A outer s H vs Q E hr h=>?_)
 ·obtain ⟨p,q,n,k,e,rfl,_⟩:=h
  rfl
 ·obtain ⟨p,q,n,kd,⟨t,ki,z,am⟩,rfl,e,eq,k⟩:=h
  have nd:=Mg.nd
  refine ⟨_,(AH (AQ (Mq (AR BE (Aj K (pvC 1) AB) (Aj K (pvC 0) AB) (Ab _)) (Ao (AA (Am (AA (Aj K (pvC 1) AB) (AA (Aj K (pvC 1) AB) (AA (Aj K (pvC 1) AB) AD)))) AD)) (Ao AD)))),?_⟩
  have e0:SqT K H p _:=SqT.of e
  have q0:SqT K H q _:=SqT.of eq
  refine ⟨_,_,q0,AF (j:=1) rfl,_,_,e0,AF (j:=2) rfl,rfl,_,rfl,K7 (fun h=>?_) fun h=>?_⟩
  ·refine ⟨_,_,q0,AF (j:=0) rfl,_,_,q0,AF (j:=2) rfl,_,_,q0,AF (j:=3) rfl,le1 rfl,fun p1 hp1=>⟨le1 rfl,fun l hl=>k l _ (((AK.refl H).upd hp1).upd hl) (Ic hl) ⟨[.ref p1],AE,?_⟩⟩⟩
   show Rws _ [.ref p1] ((Cs kd (t,ki,z,am)).map itK)
   rw [show Cs kd (t,ki,z,am)=[(t,z,am)] from if_pos h]
   exact (D9 _).snoc (ks:=itK (t,z,am)) (by rw [AO (AM AE hl)];exact AE)
  ·refine ⟨Nat.zero_le _,fun l hl=>k l _ ((AK.refl H).upd hl) hl ⟨[],AE,?_⟩⟩
   show Rws _ [] ((Cs kd (t,ki,z,am)).map itK)
   rw [show Cs kd (t,ki,z,am)=[] from if_neg h]
   exact D9 _
def D5 (k:Str) (evs:List Ev):List It4:=evs.zipIdx.flatMap fun p=>(Cs k p.1).map fun x=>(x,[(p.2:Int)])
theorem F1 (k:Str) (evs:List Ev) (e:Ev):D5 k (evs++[e])=D5 k evs++(Cs k e).map fun x=>(x,[(evs.length:Int)]):=by
 unfold D5
 rw [List.zipIdx_append,List.flatMap_append]
 congr 1
 simp
theorem Kf (k:Str) (e:Ev):(Cs k e).length≤1:=by
 unfold Cs
 split <;> simp
def Nq:Sp:=fun vs H Q _=>∃(p l:Addr) (n k:Str) (evs:List Ev),vs=[.ref p,.ref l]/\StA H p (.take n k)/\IJ H l evs/\evs.length≤20/\∀r H',AK H H'→H r=none→EF H' r (D5 k evs)→Q (.ref r) H'
theorem L1 (T:Tx K mg ad):BM P w K mg base CX0 2 ad.By ad.Cb ["step", "events"] Nq:=by
 have G_taken:=BA.mk (Rt (P:=P) (w:=w) (base:=base) T) T.Tu T.E2.kp T.UC
 refine T.B8.ok GR (fun vs H Q E h=>?_) (fun cdv A outer s H vs Q E hr h=>?_)
 ·obtain ⟨p,l,n,k,evs,rfl,_⟩:=h
  rfl
 ·obtain ⟨p,l,n,kd,evs,rfl,st,⟨xs,el,hw⟩,le,k⟩:=h
  have nd:=GR.nd
  refine ⟨_,(AJ (psl 2 nd (Ao AD))
    (AJ (BQ PassesOwn.never rfl (Lr (K:=K) (by rfl) T.Bt (pvC 1)) (F8 rfl (A3 (pgn 3 nd) (A3 (pgn 4 nd) Eg)))
    (AH (Bw (Br (JR (K:=K) F.plainAttrs_list F.slot_list_extend F.type_list_extend HU (pvC 2) (AA (pcm (AL D8) [("place", 3)] ⟨rfl,rfl,trivial⟩ (AY (K:=K) (AI G_taken hr (AA (pvC 0) (AA (pvC 4) AD)))) (fun _ _ _ _=>Bc) (fun _ _ _ _=>(AG (JX (K:=K)) (pvC 0) (Am (AA (Am (AA (pvC 1) AD)) AD))))) AD))))))
    (AH (AQ (pvC 2))))),?_⟩
  have sz:sizeLine=16777216:=sizeLine_eq
  have lx:=hw.len
  rw [List.length_map] at lx
  refine fun _ _ _ _ z1=>⟨Nat.zero_le _,fun il hil=>z1 _ _ ?_⟩
  refine An (o:=.lst []) hil fun H0 s0 eil=>?_
  refine fun _ _ _ _ z2=>⟨l,rfl,⟨_,SqL.of (s0 _ _ el)⟩,Sa (K:=K) (xs:=xs) (fun m σ H'=>∃(o3 o4:Option V) (acc:List V),σ=[some (.ref p),some (.ref l),some (.ref il),o3,o4]/\AK H H'/\H' il=some (.lst acc)/\Cr H' acc (D5 kd (evs.take m))/\acc.length≤m)
   ⟨none,none,[],rfl,s0,eil,.nil,Nat.le_refl _⟩ (fun m σ H' _ ⟨_,_,_,_,s',_⟩=>SqL.of (s' _ _ el)) ?_ ?_⟩
  ·rintro m x σ H1 pp hx ⟨o3,o4,acc,rfl,s1,ei1,st1,la1⟩ hpp
   obtain ⟨b,ks,rfl,ek,eb⟩:=hw.at hx
   rw [List.getElem?_map] at ek
   obtain ⟨e,ee,rfl⟩:=Option.map_eq_some_iff.mp ek
   have hm:m<evs.length:=(List.getElem?_eq_some_iff.mp ee).1
   have t1:=AK.Ay (o:=.tup [.int (m:Int),.ref b]) hpp
   refine ⟨pp,_,rfl,SqT.of AE,rfl,_,_,rfl,_,_,rfl,rfl,?_⟩
   generalize upd H1 pp (.tup [.int (m:Int),.ref b])=H2 at t1 ⊢
   have s2:=s1.trans t1
   refine fun _ _ _ _ z3=>⟨.inl ⟨rfl,_,SqL.of (t1 _ _ ei1)⟩,p,b,n,kd,e,rfl,s2 _ _ st,s2 _ _ eb,fun l2 H3 t2 hl2 ⟨zs,ez,rz⟩=>⟨l2,rfl,⟨_,SqL.of ez⟩,?_⟩⟩
   have s3:=s2.trans t2
   have lz:zs.length≤1:=by
    rw [rz.len,List.length_map]
    exact Kf _ _
   have hil3:H3 il=some (.lst acc):=t2 _ _ (t1 _ _ ei1)
   refine A5 (K:=K) (xs:=zs) (fun j τ acc' H'=>(∃o,τ=[o,some (.int (m:Int))])/\AK H3 H'/\Cr H' acc' (((Cs kd e).take j).map fun i=>(i,[(m:Int)]))) (by omega) ⟨⟨none,rfl⟩,AK.refl _,.nil⟩ (fun j τ acc' H' ⟨_,s',_⟩=>SqL.of (s' _ _ ez)) ?_ ?_
   ·rintro j y τ acc' H4 R1 hy _ ⟨⟨o,rfl⟩,t3,sm⟩ k1
    obtain ⟨c,ks,rfl,ek,ec⟩:=rz.at hy
    rw [List.getElem?_map] at ek
    obtain ⟨i,ei,rfl⟩:=Option.map_eq_some_iff.mp ek
    refine ⟨le1 rfl,fun q1 hq1=>⟨le1 rfl,fun q2 hq2=>?_⟩⟩
    have u1:=AK.Ay (o:=.tup [.int (m:Int)]) hq1
    have f1:(upd H4 q1 (.tup [.int (m:Int)])) q1=some (.tup [.int (m:Int)]):=AE
    generalize upd H4 q1 (.tup [.int (m:Int)])=H5 at u1 f1 hq2 ⊢
    refine An (o:=.tup [.ref q1]) hq2 fun H6 u2 f2=>?_
    have u3:=t3.trans (u1.trans u2)
    refine ⟨c,q2,_,_,rfl,rfl,SqT.of (u3 _ _ ec),SqT.of f2,(by intro h;cases h),le1 rfl,(fun h=>by cases h),fun _ p3 hp3=>?_⟩
    have u4:=AK.Ay (o:=.tup ((itK i).map kV++[.ref q1])) hp3
    have f4:(upd H6 p3 (.tup ((itK i).map kV++[.ref q1]))) p3=some (.tup ((itK i).map kV++[.ref q1])):=AE
    refine k1 _ _ _ ⟨⟨_,rfl⟩,u3.trans u4,?_⟩
    have tk:(Cs kd e).take (j+1)=(Cs kd e).take j++[i]:=by rw [List.take_add_one,ei];rfl
    rw [tk,List.map_append]
    exact AW (sm.keep ((u1.trans u2).trans u4).tp) (.cons ⟨p3,q1,rfl,f4,(u2.trans u4) _ _ f1⟩ .nil)
   ·rintro τ acc' H4 la' ⟨_,t3,sm⟩ D hD
    have hz:zs.length=(Cs kd e).length:=by rw [rz.len,List.length_map]
    rw [hz,List.take_of_length_le (Nat.le_refl _)] at sm
    refine An (o:=.lst acc') hD fun H5 t4 eD=>?_
    have t35:=t3.trans t4
    have e5:=t35 _ _ hil3
    have tp:Tp H5 (upd H5 il (.lst (acc++acc'))):=(Tp.refl H5).upd e5 fun xs=>by intro z;cases z
    have l1:(evs.take m).length=m:=by rw [List.length_take];omega
    refine ⟨il,D,_,_,rfl,rfl,e5,eD,by omega,z3 _ _ ⟨_,_,acc++acc',rfl,(s3.trans t35).F0 hil,AE,?_,by rw [List.length_append];omega⟩⟩
    rw [List.take_add_one,ee]
    show Cr _ _ (D5 kd (evs.take m++[e]))
    rw [F1,l1]
    exact AW ((st1.keep (t1.trans (t2.trans t35)).tp).keep tp) ((sm.keep t4.tp).keep tp)
  ·rintro σ H1 ⟨o3,o4,acc,rfl,s1,ei1,st1,la1⟩
   rw [lx,List.take_of_length_le (Nat.le_refl _)] at st1
   exact z2 _ _ (k il _ s1 hil ⟨acc,ei1,st1⟩)
theorem Sj (xs:List V) (n m:Nat) (h:n≤xs.length) (h2:m≤xs.length):CK xs (some (n:Int)) (some (m:Int))=(xs.drop n).take (m-n):=by
 unfold CK
 have e1:∀d,HT.sIx xs.length d (some (m:Int))=m:=fun d=>by
  show (if (m:Int)<0 then ((m:Int)+(xs.length:Int)).toNat else min (m:Int).toNat xs.length)=m
  rw [if_neg (by omega)]
  omega
 have e2:∀d,HT.sIx xs.length d (some (n:Int))=n:=fun d=>by
  show (if (n:Int)<0 then ((n:Int)+(xs.length:Int)).toNat else min (n:Int).toNat xs.length)=n
  rw [if_neg (by omega)]
  omega
 rw [e1,e2]
def HdT (H:Hp) (x:V) (t:Int):Prop:=∃a r,x=.ref a/\H a=some (.tup (.int t::r))
def TL:Sp:=fun vs H Q _=>∃(r mk:Addr) (xs:List V) (ts:List Int) (m:Int),vs=[.ref r,.ref mk]/\H r=some (.lst xs)/\Paired (HdT H) xs ts/\ts.Pairwise (·≤·)/\H mk=some (.tup [.int m]) /\
 ∀k:Nat,k≤ts.length→(∀(i:Nat) t,i<k→ts[i]?=some t→t<m)→(∀(i:Nat) t,k≤i→ts[i]?=some t→m≤t)→Q (.int (k:Int)) H
theorem VM (t b:Int):A4 [.inl t] [.inl b]=decide (t<b):=by
 show (if (Sum.inl t:Key)=Sum.inl b then false else decide (t<b))=_
 split
 ·rename_i e
  have e:=Sum.inl.inj e
  rw [e]
  exact (decide_eq_false (Int.lt_irrefl b)).symm
 ·rfl
theorem UJ {ts:List Int}(h:ts.Pairwise (·≤·)) {i j:Nat}{a b:Int}(hij:i≤j) (ea:ts[i]?=some a) (eb:ts[j]?=some b):a≤b:=by
 by_cases e:i=j
 ·subst e
  rw [ea] at eb
  cases eb
  exact Int.le_refl _
 ·obtain ⟨hi,e1⟩:=List.getElem?_eq_some_iff.mp ea
  obtain ⟨hj,e2⟩:=List.getElem?_eq_some_iff.mp eb
  have:=List.pairwise_iff_getElem.mp h i j hi hj (by omega)
  rw [e1,e2] at this
  exact this
theorem Rx (T:Tx K mg ad):BM P w K mg base CX0 1 ad.Ew ad.Fo ["rows", "mark"] TL:=by
 refine T.E3.ok Mh (fun vs H Q E h=>?_) (fun cdv A outer s H vs Q E hr h=>?_)
 ·obtain ⟨r,mk,xs,ts,m,rfl,_⟩:=h
  rfl
 ·obtain ⟨r,mk,xs,ts,sv,rfl,er,hw,up,em,k⟩:=h
  have nd:=Mh.nd
  refine ⟨_,(Ac (psl 2 nd AB)
    (Ac (psl 3 nd (AU (A7 (K:=K)) (by rfl) T.CO PySem.boot_len (AA (pv 0) AD)))
    (Ac (RV PassesOwn.never (AR Ro (pv 2) (pv 3) (Ab _))
    (Ac (psl 4 nd (AG Fd (AG Eh (pv 2) (pv 3)) AB))
    (AH (A0 (AR (U9 (K:=K) hr.Ih) (pxl K (pv 0) (pv 4)) (pv 1) (Ab _))
    (AH (psl 2 nd (AG Eh (pv 4) AB)))
    (AH (psl 3 nd (pv 4)))))))
    (AH (AQ (pv 2)))))),?_⟩
  obtain ⟨len,at'⟩:=AN hw
  refine ⟨_,rfl,r,_,rfl,.inl (SqL.of er),?_⟩
  refine Qr (fun σ H'=>H'=H/\∃(lo hi:Nat) (o4:Option V),σ=[some (.ref r),some (.ref mk),some (.int (lo:Int)),some (.int (hi:Int)),o4]/\lo≤hi/\hi≤ts.length/\(∀(i:Nat) p,i<lo→ts[i]?=some p→p<sv)/\(∀(i:Nat) p,hi≤i→ts[i]?=some p→sv≤p))
   (fun σ _=>match σ with|[_,_,some (.int lo),some (.int hi),_]=>(hi-lo).toNat|_=>0) ⟨rfl,0,ts.length,none,by rw [len];rfl,Nat.zero_le _,Nat.le_refl _,fun i ks h=>by omega,fun i ks h e=>by have:=(List.getElem?_eq_some_iff.mp e).1;omega⟩ ?_ ?_
  ·rintro σ H' ⟨rfl,lo,hi,o4,rfl,h1,h2,h3,h4⟩
   refine ⟨_,rfl,_,rfl,_,_,rfl,rfl,_,rfl,He (fun e=>?_) fun e=>?_⟩
   ·have e:lo<hi:=by omega
    have em2:((lo:Int)+(hi:Int)) / 2=(((lo+hi) / 2:Nat):Int):=by omega
    have hm:(lo+hi) / 2<ts.length:=by omega
    have ek:ts[(lo+hi) / 2]?=some ts[(lo+hi) / 2]:=List.getElem?_eq_getElem hm
    have ex:=List.getElem?_eq_getElem (show (lo+hi) / 2<xs.length by omega)
    obtain ⟨a,rr,ea,eq⟩:=at' _ _ _ ex ek
    rw [ea] at ex
    generalize ts[(lo+hi) / 2]=tm at ek eq
    refine ⟨_,rfl,_,rfl,_,_,rfl,rfl,_,_,rfl,rfl,⟨by decide,by decide⟩,?_⟩
    have ea2:atI xs (((lo:Int)+(hi:Int)) / 2)=some (.ref a):=by rw [em2];exact AF ex
    refine ⟨_,rfl,_,rfl,r,_,_,_,rfl,rfl,SqL.of er,ea2,_,rfl,a,mk,[.inl tm],rr,[.inl sv],rfl,rfl,SqT.of eq,SqT.of em,.inr (Nat.le_refl _),(fun i k m e1 e2=>?_),_,rfl,?_⟩
    ·have hi0:i=0:=by have:=(List.getElem?_eq_some_iff.mp e2).1;simp at this;omega
     subst hi0
     cases e1
     cases e2
     rfl
    rw [VM]
    refine He (fun b=>?_) fun b=>?_
    ·refine ⟨_,rfl,_,_,rfl,rfl,⟨rfl,(lo+hi) / 2+1,hi,_,by show _=[_,_,some (V.int _),_,_];rw [show ((((lo+hi) / 2+1:Nat)):Int)=((lo:Int)+(hi:Int)) / 2+1 by omega];rfl,by omega,h2,fun i ks hi' e'=>?_,h4⟩,?_⟩
     ·have:=UJ up (by omega) e' ek
      omega
     ·show ((hi:Int)-(((lo:Int)+(hi:Int)) / 2+1)).toNat<((hi:Int)-(lo:Int)).toNat
      omega
    ·refine ⟨_,rfl,⟨rfl,lo,(lo+hi) / 2,_,by show _=[_,_,_,some (V.int _),_];rw [←em2];rfl,by omega,by omega,h3,fun i ks hi' e'=>?_⟩,?_⟩
     ·have:=UJ up hi' ek e'
      omega
     ·show ((((lo:Int)+(hi:Int)) / 2)-(lo:Int)).toNat<((hi:Int)-(lo:Int)).toNat
      omega
   ·have e:lo=hi:=by omega
    subst e
    exact ⟨_,rfl,k lo h2 h3 h4⟩
  ·rintro σ H1 R R' hR ⟨v,e1,u,e2,i,j,e3,e4,b,e5,q⟩
   exact ⟨v,e1,u,e2,i,j,e3,e4,b,e5,hR _ _ q⟩
def R3 (H:Hp) (x:V) (i:It4):Prop:=∃a p,x=.ref a/\H a=some (.tup [.int i.1.1,.int i.1.2.2,.ref p])/\H p=some (.tup (i.2.map V.int))
def BZ (H:Hp) (xs:List V) (N:List It4):Prop:=Paired (R3 H) xs N
theorem R3.keep {H H':Hp}{x:V}{i:It4}(h:R3 H x i) (t:Tp H H'):R3 H' x i:=let ⟨a,p,e,e1,e2⟩:=h;⟨a,p,e,t _ _ e1,t _ _ e2⟩
theorem BZ.keep {H H':Hp}{xs:List V}{M:List It4}(h:BZ H xs M) (t:Tp H H'):BZ H' xs M:=AV (fun _ _ q=>q.keep t) h
theorem BZ.times {H:Hp}:∀{xs:List V}{N:List It4},BZ H xs N→Paired (HdT H) xs (N.map fun i=>i.1.1)
 | _,_,.nil=>.nil
 | _,_,.cons ⟨a,p,e,e1,_⟩ r=>.cons ⟨a,_,e,e1⟩ (BZ.times r)
def Tup (N:List It4):Prop:=(N.map fun i=>i.1.1).Pairwise (·≤·)
def inT (lo hi:Int) (i:It4):Bool:=decide (lo≤i.1.1/\i.1.1<hi)
def Pf:Sp:=fun vs H Q _=>∃(r:Addr) (xs:List V) (N:List It4) (lo hi:Int),vs=[.ref r,.int lo,.int hi]/\H r=some (.lst xs)/\BZ H xs N/\Tup N/\lo≤hi/\∀l H' ys,AK H H'→H l=none→H' l=some (.lst ys)→BZ H' ys (N.filter (inT lo hi))→Q (.ref l) H'
theorem Jb (T:Tx K mg ad):BM P w K mg base CX0 2 ad.DB ad.Dp ["row", "low", "high"] Pf:=by
 have G_ahead:=BA.mk (Rx (P:=P) (w:=w) (base:=base) T) T.Tv T.E3.kp T.UD
 refine T.Cg.ok JB (fun vs H Q E h=>?_) (fun cdv A outer s H vs Q E hr h=>?_)
 ·obtain ⟨r,xs,N,lo,hi,rfl,_⟩:=h
  rfl
 ·obtain ⟨r,xs,N,lo,hi,rfl,er,hw,up,lh,k⟩:=h
  have nd:=JB.nd
  refine ⟨_,(AH (AQ (Aq (Ci (K:=K)) (pv 0) (Au (AI G_ahead hr (AA (pv 0) (AA (Am (AA (pv 1) AD)) AD)))) (Au (AI G_ahead hr (AA (pv 0) (AA (Am (AA (pv 2) AD)) AD))))))),?_⟩
  have len:=(AN hw).1
  refine ⟨_,rfl,_,rfl,_,rfl,le1 rfl,fun p1 hp1=>?_⟩
  refine An (o:=.tup [.int lo]) hp1 fun H1 s1 ep1=>?_
  refine ⟨r,p1,xs,_,lo,rfl,s1 _ _ er,(hw.keep s1.tp).times,up,ep1,fun n hn a1 a2=>⟨_,rfl,?_⟩⟩
  refine ⟨_,rfl,_,rfl,le1 rfl,fun p2 hp2=>?_⟩
  refine An (o:=.tup [.int hi]) hp2 fun H2 s2 ep2=>?_
  have s12:=s1.trans s2
  refine ⟨r,p2,xs,_,hi,rfl,s12 _ _ er,(hw.keep s12.tp).times,up,ep2,fun m hm b1 b2=>⟨_,rfl,?_⟩⟩
  rw [List.length_map] at hn hm
  refine ⟨r,xs,rfl,SqL.of (s12 _ _ er),fun l hl=>?_⟩
  rw [Sj xs n m (by omega) (by omega)]
  have tat:∀(i:Nat) x,N[i]?=some x→(N.map fun i=>i.1.1)[i]?=some x.1.1:=fun i x e=>by rw [List.getElem?_map,e];rfl
  have cf:(N.drop n).take (m-n)=N.filter (inT lo hi):=Em fun i x e=>by
   unfold inT
   rw [decide_eq_true_iff]
   have t:=tat i x e
   constructor
   ·rintro ⟨q1,q2⟩
    refine ⟨Nat.le_of_not_lt fun z=>?_,Nat.lt_of_not_le fun z=>?_⟩
    ·have:=a1 i _ z t;omega
    ·have:=b2 i _ z t;omega
   ·rintro ⟨q1,q2⟩
    exact ⟨a2 i _ q1 t,b1 i _ q2 t⟩
  refine k l _ _ (s12.upd hl) (s12.free hl) AE ?_
  rw [←cf]
  exact Hw _ (DP _ (hw.keep (s12.upd hl).tp))
theorem Kb {kvs:List (Key×V)}{k:Key}{v:V}(nd:(kvs.map (·.1)).Nodup) (h:(k,v)∈kvs):BL kvs k=some v:=by
 obtain ⟨v2,hv2⟩:=LV (List.mem_map.mpr ⟨_,h,rfl⟩:k∈kvs.map (·.1))
 have hm2:=EK hv2
 obtain ⟨i,hi,ei⟩:=List.mem_iff_getElem.mp h
 obtain ⟨j,hj,ej⟩:=List.mem_iff_getElem.mp hm2
 have:=(List.getElem_inj (xs:=kvs.map (·.1)) (i:=i) (j:=j) (h₀:=by simpa using hi) (h₁:=by simpa using hj) nd).mp (by simp [ei,ej])
 subst this
 rw [ei] at ej
 rw [hv2]
 exact congrArg some (congrArg Prod.snd ej).symm
def fk (i:It4):List Key:=itK i.1++i.2.map Sum.inl
theorem Nl {H:Hp}{xs:List V}{M:List It4}(h:Cr H xs M):∃ds:List Dn,ds.map Cu=M.map fk/\HC K H xs ds [true,false,true]:=by
 have key:∀{xs:List V} {M:List It4},Cr H xs M→∃ds:List Dn,ds.map Cu=M.map fk/\Paired (fun x (d:Dn)=>(∃a,x=.ref a/\SqT K H a (d.1.map kV++d.2.1.map V.ref))/\d.1.map isI=[true,false,true]) xs ds/\∀d∈ds,∃(p:Addr) (ns:List Int),d.2.1=[p]/\d.2.2=ns.map Sum.inl/\SqT K H p (ns.map V.int):=by
  intro xs M h
  induction h with
  | nil=>exact ⟨[],rfl,.nil,fun d hd=>by cases hd⟩
  | cons h1 _ ih =>
   obtain ⟨ds,e,p,q⟩:=ih
   rename_i x i _ _ _
   obtain ⟨a,p1,ea,e1,e2⟩:=h1
   refine ⟨(itK i.1,[p1],i.2.map Sum.inl)::ds,by rw [List.map_cons,List.map_cons,e];rfl,.cons ⟨⟨a,ea,SqT.of e1⟩,rfl⟩ p,fun d hd=>?_⟩
   rcases List.mem_cons.mp hd with rfl|hd
   ·exact ⟨p1,i.2,rfl,rfl,SqT.of e2⟩
   ·exact q d hd
 obtain ⟨ds,e,p,q⟩:=key h
 refine ⟨ds,e,by decide,p,fun i j d e' e1 e2 _=>.inr ?_⟩
 obtain ⟨p1,ns,a1,a2,a3⟩:=q d (List.mem_of_getElem? e1)
 obtain ⟨p2,ms,b1,b2,b3⟩:=q e' (List.mem_of_getElem? e2)
 exact ⟨p1,p2,ns,ms,a1,b1,a2,b2,a3,b3⟩
theorem Fv {β:Type}{F:V→β→Prop}{f:β→List Key}{xs:List V}{M:List β}(h:Paired F xs M) {qs:List (V×List Key)}(p:qs.Perm (xs.zip (M.map f))):∃M':List β,M'.Perm M/\Paired F (qs.map (·.1)) M'/\M'.map f=qs.map (·.2):=by
 have hz:Paired (fun (q:V×β) (b:V×List Key)=>q.1=b.1/\b.2=f q.2/\F q.1 q.2) (xs.zip M) (xs.zip (M.map f)):=by
  clear p
  induction h with
  | nil=>exact .nil
  | cons h1 _ ih=>exact .cons ⟨rfl,rfl,h1⟩ ih
 obtain ⟨as,q1,q2⟩:=FK p hz
 refine ⟨as.map (·.2),?_,?_,?_⟩
 ·have:=q1.map (·.2)
  rwa [List.map_snd_zip (by have:=(AN h).1;omega)] at this
 ·clear q1 p hz
  induction q2 with
  | nil=>exact .nil
  | cons h1 _ ih=>exact .cons (by have q:=h1.2.2;rw [h1.1] at q;exact q) ih
 ·clear q1 p hz
  induction q2 with
  | nil=>rfl
  | cons h1 _ ih=>rw [List.map_cons,List.map_cons,List.map_cons,ih,h1.2.1]
theorem Sb {M:List It4}(h:(M.map fk).Pairwise fun a b=>A4 b a=false):Tup M:=by
 unfold Tup
 rw [List.pairwise_map] at h ⊢
 refine h.imp fun {a b} q=>?_
 have q:(if (Sum.inl b.1.1:Key)=Sum.inl a.1.1 then _ else decide (b.1.1<a.1.1))=false:=q
 by_cases e:b.1.1=a.1.1
 ·omega
 ·rw [if_neg (fun z=>e (Sum.inl.inj z))] at q
  have:=of_decide_eq_false q
  omega
def Wz (H:Hp) (M:List It4) (q:Key×V):Prop:=∃(z:Str) (r:Addr) (xs:List V),q=(.inr z,.ref r)/\H r=some (.lst xs)/\BZ H xs (M.filter fun i=>decide (i.1.2.1=z))
structure Eb (H0 H:Hp) (d:Addr) (M:List It4) (kvs:List (Key×V)):Prop where
 dict:H d=some (.dK kvs)
 nd:(kvs.map (·.1)).Nodup
 len:kvs.length≤M.length
 row:∀q∈kvs,Wz H M q
 new:∀z r,(Sum.inr z,V.ref r)∈kvs→H0 r=none
 apart:∀z z' r,(Sum.inr z,V.ref r)∈kvs→(Sum.inr z',V.ref r)∈kvs→z=z'
 all:∀i∈M,(Sum.inr i.1.2.1:Key)∈kvs.map (·.1)
theorem Eb.at {H0 H:Hp}{d:Addr}{M:List It4}{kvs:List (Key×V)}(h:Eb H0 H d M kvs) (z:Str):(BL kvs (.inr z)=none/\(M.filter fun i=>decide (i.1.2.1=z))=[])\/∃r xs,BL kvs (.inr z)=some (.ref r)/\H r=some (.lst xs)/\BZ H xs (M.filter fun i=>decide (i.1.2.1=z)):=by
 cases hv:BL kvs (.inr z) with
 | none =>
  refine .inl ⟨rfl,List.filter_eq_nil_iff.mpr fun i hi q=>?_⟩
  have q:=of_decide_eq_true q
  obtain ⟨v,hv'⟩:=LV (h.all i hi)
  rw [q,hv] at hv'
  cases hv'
 | some v =>
  obtain ⟨z',r,xs,e,er,w⟩:=h.row _ (EK hv)
  cases e
  exact .inr ⟨r,xs,rfl,er,w⟩
theorem Eb.same {H0 H H':Hp}{d:Addr}{M:List It4}{kvs:List (Key×V)}(h:Eb H0 H d M kvs) (s:AK H H'):Eb H0 H' d M kvs :=
 { h with dict:=s _ _ h.dict,row:=fun q hq=>let ⟨z,r,xs,e,er,w⟩:=h.row q hq;⟨z,r,xs,e,s _ _ er,w.keep s.tp⟩ }
theorem Gu {M:List It4}{i:It4}(z:Str):((M++[i]).filter fun i=>decide (i.1.2.1=z))=(M.filter fun i=>decide (i.1.2.1=z))++if i.1.2.1=z then [i] else []:=by
 rw [List.filter_append,List.filter_cons]
 by_cases h:i.1.2.1=z
 ·rw [if_pos (decide_eq_true h),if_pos h];rfl
 ·rw [if_neg (fun q=>h (of_decide_eq_true q)),if_neg h];rfl
theorem Eb.longer {H0 H H':Hp}{d r t:Addr}{M:List It4}{kvs:List (Key×V)}{i:It4}{xs:List V}(h:Eb H0 H d M kvs) (hv:BL kvs (.inr i.1.2.1)=some (.ref r)) (er:H r=some (.lst xs)) (hd:H' d=some (.dK kvs)) (er':H' r=some (.lst (xs++[.ref t])))
  (kl:∀b ys,b≠r→H b=some (.lst ys)→H' b=some (.lst ys)) (tp:Tp H H') (ht:R3 H' (.ref t) i):Eb H0 H' d (M++[i]) kvs:=by
 have hm:=EK hv
 refine ⟨hd,h.nd,by rw [List.length_append];have:=h.len;omega,fun q hq=>?_,h.new,h.apart,fun j hj=>?_⟩
 ·obtain ⟨z,r',ys,rfl,e2,w⟩:=h.row q hq
  by_cases ez:i.1.2.1=z
  ·subst ez
   have:V.ref r'=V.ref r:=by
    have e3:=Kb h.nd hq
    rw [hv] at e3
    exact (Option.some.inj e3).symm
   cases this
   rw [er] at e2
   cases e2
   refine ⟨_,r,xs++[.ref t],rfl,er',?_⟩
   rw [Gu,if_pos rfl]
   exact AW (w.keep tp) (.cons ht .nil)
  ·have nr:r'≠r:=fun e=>by
    subst e
    exact ez (h.apart _ _ _ hm hq)
   refine ⟨z,r',ys,rfl,kl _ _ nr e2,?_⟩
   rw [Gu,if_neg ez,List.append_nil]
   exact w.keep tp
 ·rcases List.mem_append.mp hj with hj|hj
  ·exact h.all j hj
  ·rw [List.mem_singleton.mp hj]
   exact List.mem_map.mpr ⟨_,hm,rfl⟩
theorem Eb.fresh {H0 H H':Hp}{d r t:Addr}{M:List It4}{kvs:List (Key×V)}{i:It4}(h:Eb H0 H d M kvs) (hv:BL kvs (.inr i.1.2.1)=none) (hr0:H0 r=none) (hr:H r=none) (hd:H' d=some (.dK (putK kvs (.inr i.1.2.1) (.ref r)))) (er':H' r=some (.lst [.ref t]))
  (kl:∀b ys,H b=some (.lst ys)→H' b=some (.lst ys)) (tp:Tp H H') (ht:R3 H' (.ref t) i):Eb H0 H' d (M++[i]) (putK kvs (.inr i.1.2.1) (.ref r)):=by
 have none0:(M.filter fun j=>decide (j.1.2.1=i.1.2.1))=[]:=by
  rcases h.at i.1.2.1 with ⟨_,e⟩|⟨r',xs,e,_⟩
  ·exact e
  ·rw [hv] at e;cases e
 refine ⟨hd,Jc h.nd,?_,fun q hq=>?_,fun z r' hq=>?_,fun z z' r' hq hq'=>?_,fun j hj=>?_⟩
 ·rw [List.length_append]
  have:=h.len
  have:=Gp kvs (.inr i.1.2.1) (.ref r)
  simp only [List.length_cons,List.length_nil]
  omega
 ·rcases FO hq with rfl|⟨hm,hne⟩
  ·refine ⟨_,r,[.ref t],rfl,er',?_⟩
   rw [Gu,if_pos rfl,none0]
   exact .cons ht .nil
  ·obtain ⟨z,r',ys,rfl,e2,w⟩:=h.row q hm
   have ez:i.1.2.1≠z:=fun e=>hne (by rw [e])
   refine ⟨z,r',ys,rfl,kl _ _ e2,?_⟩
   rw [Gu,if_neg ez,List.append_nil]
   exact w.keep tp
 ·rcases FO hq with e|⟨hm,_⟩
  ·cases e;exact hr0
  ·exact h.new z r' hm
 ·have old:∀{z r'},(Sum.inr z,V.ref r')∈kvs→r'≠r:=fun {z r'} hm e=>by
   obtain ⟨_,_,_,e1,e2,_⟩:=h.row _ hm
   cases e1
   rw [e,hr] at e2
   cases e2
  rcases FO hq with e|⟨hm,_⟩
  ·rcases FO hq' with e'|⟨hm',_⟩
   ·cases e;cases e';rfl
   ·cases e;exact absurd rfl (old hm')
  ·rcases FO hq' with e'|⟨hm',_⟩
   ·cases e';exact absurd rfl (old hm)
   ·exact h.apart _ _ _ hm hm'
 ·have:∀k,k∈kvs.map (·.1)\/k=.inr i.1.2.1→k∈(putK kvs (.inr i.1.2.1) (.ref r)).map (·.1):=fun k hk=>by
   obtain ⟨v,hv⟩:∃v,BL (putK kvs (.inr i.1.2.1) (.ref r)) k=some v:=by
    rw [Ib]
    split
    ·exact ⟨_,rfl⟩
    ·rename_i ne
     rcases hk with hk|hk
     ·exact LV hk
     ·exact absurd hk ne
   exact List.mem_map.mpr ⟨_,EK hv,rfl⟩
  rcases List.mem_append.mp hj with hj|hj
  ·exact this _ (.inl (h.all j hj))
  ·rw [List.mem_singleton.mp hj]
   exact this _ (.inr rfl)
def RG:Sp:=fun vs H Q _=>∃(l:Addr) (M:List It4),vs=[.ref l]/\EF H l M/\M.length≤1000/\∀d H' M' kvs,AK H H'→H d=none→M'.Perm M→Tup M'→Eb H H' d M' kvs→Q (.ref d) H'
theorem Ja (T:Tx K mg ad):BM P w K mg base CX0 1 ad.DA ad.Dm ["items"] RG:=by
 refine T.Cf.ok JA (fun vs H Q E h=>?_) (fun cdv A outer s H vs Q E hr h=>?_)
 ·obtain ⟨l,M,rfl,_⟩:=h
  rfl
 ·obtain ⟨l,M,rfl,⟨xs,el,hw⟩,lM,k⟩:=h
  have nd:=JA.nd
  refine ⟨_,(Ac (psl 1 nd Gb)
    (Ac (BQ PassesOwn.never rfl (AY (K:=K) (AU (Gz (K:=K) hr) (by rfl) T.CN PyProof.Rows.boot_sorted (AA (pv 0) AD))) (F8 rfl (A3 (pgn 2 nd) (A3 (pgn 3 nd) (A3 (pgn 4 nd) (A3 (pgn 5 nd) Eg)))))
    (AH (Br (pap K (Ri (pv 1) (pv 3) (Ao AD) ⟨rfl,rfl,rfl,rfl⟩) (AA (Am (AA (pv 2) (AA (pv 4) (AA (pv 5) AD)))) AD)))))
    (AH (AQ (pv 1))))),?_⟩
  have sz:sizeLine=16777216:=sizeLine_eq
  have lx:=hw.len
  refine fun d hd=>?_
  refine An (o:=.dK []) hd fun H0 s0 ed=>?_
  obtain ⟨ds,eds,so⟩:=Nl (K:=K) (hw.keep s0.tp)
  refine ⟨_,rfl,l,xs,ds,_,rfl,SqL.of (s0 _ _ el),so,fun sl qs hsl pq sq=>?_⟩
  rw [eds] at pq
  obtain ⟨M',pM,hw',ek⟩:=Fv (hw.keep s0.tp) pq
  rw [←ek] at sq
  have tM:=Sb sq
  have s1:=AK.Ay (o:=.lst (qs.map (·.1))) hsl
  have esl:(upd H0 sl (.lst (qs.map (·.1)))) sl=some (.lst (qs.map (·.1))):=AE
  have s01:=s0.trans s1
  generalize upd H0 sl (.lst (qs.map (·.1)))=H1 at s1 esl s01 ⊢
  have hw1:=Cr.keep hw' s1.tp
  generalize qs.map (·.1)=ys at esl hw1
  have ly:ys.length=M'.length:=Cr.len hw1
  have lM':M'.length≤1000:=by rw [pM.length_eq];exact lM
  refine ⟨sl,rfl,⟨_,SqL.of esl⟩,BO (K:=K) (xs:=ys) (fun m σ H'=>∃(o2 o3 o4 o5:Option V) (kvs:List (Key×V)),σ=[some (.ref l),some (.ref d),o2,o3,o4,o5]/\AK H H'/\H' sl=some (.lst ys)/\Fz d H1 H'/\Cr H' ys M'/\Eb H1 H' d (M'.take m) kvs)
   ⟨none,none,none,none,[],rfl,s01,esl,(AK.refl _).x _,hw1,s1 _ _ ed,.nil,Nat.le_refl _,(fun q hq=>by cases hq),(fun z r hq=>by cases hq),(fun z z' r hq=>by cases hq),fun i hi=>by cases hi⟩ (fun m σ H' _ ⟨_,_,_,_,_,_,_,e,_⟩=>SqL.of e) ?_ ?_⟩
  ·rintro m y σ H2 hy ⟨o2,o3,o4,o5,kvs,rfl,s2,es2,g2,st2,rb⟩
   obtain ⟨i,ei,a,p,rfl,ea,ep⟩:=Cr.ix st2 hy
   have hm:m<M'.length:=(List.getElem?_eq_some_iff.mp ei).1
   refine ⟨a,_,rfl,SqT.of ea,rfl,_,_,rfl,_,_,rfl,_,_,rfl,_,_,rfl,rfl,?_⟩
   have ed2:=rb.dict
   have isd:IsD H2 d:=.inl ⟨kvs,.inl ed2⟩
   have lkv:=rb.len
   rw [List.length_take] at lkv
   have tk:M'.take (m+1)=M'.take m++[i]:=by rw [List.take_add_one,ei];rfl
   have nsd:sl≠d:=fun z=>by rw [z,ed2] at es2;cases es2
   refine ⟨_,rfl,d,rfl,isd,_,rfl,Nat.zero_le _,fun l0 hl0=>?_⟩
   have t3:=AK.Ay (o:=.lst []) hl0
   have el3:(upd H2 l0 (.lst [])) l0=some (.lst []):=AE
   have ndl:d≠l0:=AM ed2 hl0
   have hl00:H1 l0=none:=by
    cases hq:H1 l0 with
    | none=>rfl
    | some o =>
     by_cases e:l0=d
     ·rw [e,ed2] at hl0;cases hl0
     ·have:=g2 _ _ e hq
      rw [hl0] at this
      cases this
   have rb3:=rb.same t3
   generalize upd H2 l0 (.lst [])=H3 at t3 el3 rb3 ⊢
   have s3:=s2.trans t3
   refine ⟨kvs,.inr i.1.2.1,rb3.dict,rfl,by omega,fun v hv=>?_,fun hv=>?_⟩
   ·obtain ⟨r,zs,hv2,er,w⟩:∃r zs,BL kvs (.inr i.1.2.1)=some (.ref r)/\H3 r=some (.lst zs)/\BZ H3 zs ((M'.take m).filter fun j=>decide (j.1.2.1=i.1.2.1)):=by
     rcases rb3.at i.1.2.1 with ⟨e,_⟩|h
     ·rw [hv] at e;cases e
     ·exact h
    rw [hv] at hv2
    cases hv2
    refine ⟨.inl ⟨rfl,_,SqL.of er⟩,_,rfl,_,rfl,_,rfl,le1 rfl,fun t ht=>?_⟩
    refine An (o:=.tup [.int i.1.1,.int i.1.2.2,.ref p]) ht fun H4 t4 et=>?_
    have er4:=t4 _ _ er
    have lz:zs.length≤1000:=by
     rw [(AN w).1]
     refine Nat.le_trans (List.length_filter_le _ _) ?_
     rw [List.length_take];omega
    have tp5:Tp H4 (upd H4 r (.lst (zs++[.ref t]))):=(Tp.refl H4).upd er4 fun xs=>by intro z;cases z
    have hr0:H1 r=none:=rb.new _ _ (EK hv)
    have nrd:d≠r:=fun z=>by rw [←z,rb3.dict] at er;cases er
    have nrs:sl≠r:=AM esl hr0
    refine ⟨r,_,_,rfl,rfl,er4,by omega,_,_,_,_,kvs,rfl,(s3.trans t4).F0 (s01.free hr0),?_,(fun b o nb e=>by rw [AO (AM e hr0)];exact (t3.trans t4) _ _ (g2 b o nb e)),?_,?_⟩
    ·rw [AO nrs];exact (t3.trans t4) _ _ es2
    ·exact (st2.keep (t3.trans t4).tp).keep tp5
    ·rw [tk]
     exact rb3.longer hv er (by rw [AO nrd];exact t4 _ _ rb3.dict) AE (fun b ys nb e=>by rw [AO nb];exact t4 _ _ e) (t4.tp.trans tp5) ⟨t,p,rfl,tp5 _ _ et,tp5 _ _ ((t3.trans t4) _ _ ep)⟩
   ·have ed4:(upd H3 d (.dK (putK kvs (.inr i.1.2.1) (.ref l0)))) d=some (.dK (putK kvs (.inr i.1.2.1) (.ref l0))):=AE
    have kl4:∀{b:Addr} {zs:List V},H3 b=some (.lst zs)→(upd H3 d (.dK (putK kvs (.inr i.1.2.1) (.ref l0)))) b=some (.lst zs):=fun {b zs} e=>by rw [AO (fun z=>by rw [z,rb3.dict] at e;cases e)];exact e
    have tp4:Tp H3 (upd H3 d (.dK (putK kvs (.inr i.1.2.1) (.ref l0)))):=(Tp.refl H3).upd rb3.dict fun xs=>by intro z;cases z
    have s4:AK H (upd H3 d (.dK (putK kvs (.inr i.1.2.1) (.ref l0)))):=s3.F0 hd
    have x4:∀b o,b≠d→H3 b=some o→(upd H3 d (.dK (putK kvs (.inr i.1.2.1) (.ref l0)))) b=some o:=fun b o nb e=>by rw [AO nb];exact e
    generalize upd H3 d (.dK (putK kvs (.inr i.1.2.1) (.ref l0)))=H4 at ed4 kl4 tp4 s4 x4 ⊢
    refine ⟨.inl ⟨rfl,_,SqL.of (kl4 el3)⟩,_,rfl,_,rfl,_,rfl,le1 rfl,fun t ht=>?_⟩
    refine An (o:=.tup [.int i.1.1,.int i.1.2.2,.ref p]) ht fun H5 t5 et=>?_
    have el5:=t5 _ _ (kl4 el3)
    have tp6:Tp H5 (upd H5 l0 (.lst [.ref t])):=(Tp.refl H5).upd el5 fun xs=>by intro z;cases z
    have nsl:sl≠l0:=AM esl hl00
    refine ⟨l0,_,_,rfl,rfl,el5,by simp;omega,_,_,_,_,putK kvs (.inr i.1.2.1) (.ref l0),rfl,(s4.trans t5).F0 (s01.free hl00),?_,?_,?_,?_⟩
    ·rw [List.nil_append,AO nsl];exact t5 _ _ (kl4 (t3 _ _ es2))
    ·exact fun b o nb e=>by rw [AO (AM e hl00)];exact t5 _ _ (x4 b o nb (t3 _ _ (g2 b o nb e)))
    ·exact (st2.keep (t3.tp.trans (tp4.trans t5.tp))).keep tp6
    ·rw [tk]
     exact rb.fresh hv hl00 hl0 (by rw [AO ndl];exact t5 _ _ ed4) AE (fun b ys e=>by rw [AO (AM e hl0)];exact t5 _ _ (kl4 (t3 _ _ e))) ((t3.tp.trans (tp4.trans t5.tp)).trans tp6) ⟨t,p,rfl,tp6 _ _ et,tp6 _ _ (t5.tp _ _ (tp4 _ _ (t3 _ _ ep)))⟩
  ·rintro σ H2 ⟨o2,o3,o4,o5,kvs,rfl,s2,es2,g2,st2,rb⟩
   rw [ly,List.take_of_length_le (Nat.le_refl _)] at rb
   exact ⟨_,rfl,k d _ M' kvs s2 hd pM tM { rb with new:=fun z r hq=>s01.free (rb.new z r hq) }⟩
def mx (i j:Int):Int:=if i<j then j else i
def mtI (i j:It):It:=(mx i.1 j.1,i.2.1,i.2.2-j.2.2)
def CI (wi:Int) (i j:It):Bool:=decide (j.2.1=i.2.1/\i.1-wi≤j.1/\j.1≤i.1+wi)
def KG:List Int:=(List.range 20).map fun n:Nat=>(n:Int)
def uni (p q:List Int):List Int:=KG.filter fun k=>decide (k∈p\/k∈q)
theorem IQ:KG.Pairwise (· < ·):=by
 unfold KG
 rw [List.pairwise_map]
 exact List.pairwise_lt_range.imp fun h=>by omega
theorem Gm {k:Int}:k∈KG↔0≤k/\k<20:=by
 unfold KG
 constructor
 ·intro h
  obtain ⟨n,hn,rfl⟩:=List.mem_map.mp h
  have:=List.mem_range.mp hn
  omega
 ·intro h
  exact List.mem_map.mpr ⟨k.toNat,List.mem_range.mpr (by omega),by omega⟩
theorem Ie:∀{a b:List Int},a.Pairwise (· < ·)→b.Pairwise (· < ·)→(∀k,k∈a↔k∈b)→a=b
 | [],[],_,_,_=>rfl
 | [],y::b,_,_,h=>absurd ((h y).mpr List.mem_cons_self) (by simp)
 | x::a,[],_,_,h=>absurd ((h x).mp List.mem_cons_self) (by simp)
 | x::a,y::b,pa,pb,h=>by
  obtain ⟨a1,a2⟩:=List.pairwise_cons.mp pa
  obtain ⟨b1,b2⟩:=List.pairwise_cons.mp pb
  have e:x=y:=by
   rcases List.mem_cons.mp ((h x).mp List.mem_cons_self) with q|q
   ·exact q
   ·rcases List.mem_cons.mp ((h y).mpr List.mem_cons_self) with r|r
    ·exact r.symm
    ·have:=b1 x q
     have:=a1 y r
     omega
  subst e
  rw [Ie a2 b2 fun k=>?_]
  constructor
  ·intro hk
   rcases List.mem_cons.mp ((h k).mp (List.mem_cons_of_mem _ hk)) with q|q
   ·have:=a1 k hk;omega
   ·exact q
  ·intro hk
   rcases List.mem_cons.mp ((h k).mpr (List.mem_cons_of_mem _ hk)) with q|q
   ·have:=b1 k hk;omega
   ·exact q
theorem L5 {p q:List Int}{k:Int}:k∈uni p q↔(0≤k/\k<20)/\(k∈p\/k∈q):=by
 unfold uni
 rw [List.mem_filter,Gm,decide_eq_true_eq]
theorem Ra {p q:List Int}(hp:Ho p) (hq:Ho q):Ho (uni p q):=by
 refine ⟨IQ.sublist List.filter_sublist,fun k hk=>(L5.mp hk).1,fun e=>?_⟩
 obtain ⟨k,hk⟩:=List.exists_mem_of_ne_nil _ hp.2.2
 have:k∈uni p q:=L5.mpr ⟨hp.2.1 k hk,.inl hk⟩
 rw [e] at this
 cases this
def N9 (i j:It4):It4:=(mtI i.1 j.1,uni i.2 j.2)
def Bq (wi:Int) (A B:List It4):List It4:=A.flatMap fun i=>(B.filter fun j=>CI wi i.1 j.1).map (N9 i)
theorem Kt {ns:List Int}{rs:List Key}(p:rs.Perm (Stk.once [] (ns.map Sum.inl))) (so:rs.Pairwise fun a b=>kLt b a=false):∃ps:List Int,rs=ps.map Sum.inl/\ps.Pairwise (· < ·)/\∀k,k∈ps↔k∈ns:=by
 have mem:∀k,k∈rs↔∃n∈ns,k=Sum.inl n:=fun k=>by
  rw [p.mem_iff,Stk.Jh]
  constructor
  ·rintro (h|h)
   ·cases h
   ·obtain ⟨n,hn,rfl⟩:=List.mem_map.mp h
    exact ⟨n,hn,rfl⟩
  ·rintro ⟨n,hn,rfl⟩
   exact .inr (List.mem_map.mpr ⟨n,hn,rfl⟩)
 have nd:rs.Nodup:=p.nodup_iff.mpr (Stk.Jd _ [] .nil)
 obtain ⟨ps,rfl⟩:∃ps:List Int,rs=ps.map Sum.inl:=by
  refine ⟨rs.map fun q=>match q with|.inl x=>x|.inr _=>0,?_⟩
  rw [List.map_map]
  refine ((List.map_congr_left (g:=id) fun q hq=>?_).trans (List.map_id _)).symm
  obtain ⟨i,_,rfl⟩:=(mem q).mp hq
  rfl
 refine ⟨ps,rfl,?_,fun k=>?_⟩
 ·have n2:=List.pairwise_map.mp nd
  have s2:=List.pairwise_map.mp so
  refine (n2.and s2).imp fun {a b} h=>?_
  have h2:¬ b<a:=fun q=>by
   have:=h.2
   have t:kLt (Sum.inl b) (Sum.inl a)=decide (b<a):=rfl
   rw [t,decide_eq_true q] at this
   cases this
  have h1:a≠b:=fun e=>h.1 (by rw [e])
  omega
 ·have h1:k∈ps↔(Sum.inl k:Key)∈ps.map Sum.inl:=⟨fun h=>List.mem_map.mpr ⟨k,h,rfl⟩,fun h=>by obtain ⟨y,hy,e⟩:=List.mem_map.mp h;rw [←Sum.inl.inj e];exact hy⟩
  rw [h1,mem]
  constructor
  ·rintro ⟨n,hn,e⟩
   rw [Sum.inl.inj e];exact hn
  ·intro h
   exact ⟨k,h,rfl⟩
def Vv:Sp:=fun vs H Q _=>∃(a b:Addr) (i j:It4),vs=[.ref a,.ref b]/\I4 H (.ref a) i/\R3 H (.ref b) j/\Ho i.2/\Ho j.2/\∀r H',AK H H'→I4 H' (.ref r) (N9 i j)→Q (.ref r) H'
theorem Mx (T:Tx K mg ad):BM P w K mg base CX0 1 ad.CU ad.C0 ["item", "other"] Vv:=by
 refine T.CW.ok Hv (fun vs H Q E h=>?_) (fun cdv A outer s H vs Q E hr h=>?_)
 ·obtain ⟨a,b,i,j,rfl,_⟩:=h
  rfl
 ·obtain ⟨a,b,i,j,rfl,⟨a',p,e0,ea,ep⟩,⟨b',q,e1,eb,eq⟩,ok1,ok2,k⟩:=h
  injection e0 with e0
  injection e1 with e1
  subst e0 e1
  have nd:=Hv.nd
  refine ⟨_,(Ac (psl 2 nd (Bm Fy (by rfl) T.Ec PyProof.Rows.boot_tuple (AA (JO (K:=K) rfl (by rfl) T.CN (by rfl) T.KY (AG Co (pxt K (pv 0) AB) (pxt K (pv 1) AB))) AD)))
    (AH (AQ (Am (AA (AU (LI rfl) (by rfl) T.Fp PyProof.Rows.boot_max (AA (pxt K (pv 0) AB) (AA (pxt K (pv 1) AB) AD))) (AA (pxt K (pv 0) AB) (AA (AG Lw (pxt K (pv 0) AB) (pxt K (pv 1) AB)) (AA (pv 2) AD)))))))),?_⟩
  have sz:sizeLine=16777216:=sizeLine_eq
  have l1:=ok1.len
  have l2:=ok2.len
  have sb:scanBound=4096:=by rfl
  refine ⟨_,rfl,a,_,_,_,rfl,rfl,SqT.of ea,AF (j:=3) rfl,_,rfl,b,_,_,_,rfl,rfl,SqT.of eb,AF (j:=2) rfl,p,q,_,_,rfl,rfl,ep,eq,by rw [List.length_map,List.length_map];omega,fun c H1 s1 ec=>?_⟩
  have ek:i.2.map V.int++j.2.map V.int=((i.2++j.2).map (Sum.inl:Int→Key)).map kV:=by rw [List.map_map,←List.map_append];rfl
  rw [ek] at ec
  refine ⟨c,(i.2++j.2).map Sum.inl,rfl,.inr (SqT.of ec),.inl fun k hk=>(by obtain ⟨n,_,rfl⟩:=List.mem_map.mp hk;exact ⟨n,rfl⟩),by rw [List.length_map,List.length_append];omega,fun l rs hl pr so=>?_⟩
  obtain ⟨ps,er,up,mem⟩:=Kt pr so
  have eu:ps=uni i.2 j.2:=Ie up (IQ.sublist List.filter_sublist) fun k=>by
   rw [mem,L5,List.mem_append]
   constructor
   ·intro h
    refine ⟨?_,h⟩
    rcases h with h|h
    ·exact ok1.2.1 k h
    ·exact ok2.2.1 k h
   ·exact fun h=>h.2
  have er2:rs.map kV=ps.map V.int:=by rw [er,List.map_map];rfl
  rw [er2]
  refine An (o:=.lst (ps.map V.int)) hl fun H2 s2 el=>?_
  refine ⟨l,ps.map V.int,rfl,.inl ⟨SqL.of el,fun t ht=>?_⟩⟩
  refine An (o:=.tup (ps.map V.int)) ht fun H3 s3 et=>?_
  have g:=s1.trans (s2.trans s3)
  have ea3:=g _ _ ea
  have eb3:=g _ _ eb
  refine ⟨_,rfl,a,_,_,_,rfl,rfl,SqT.of ea3,AF (j:=0) rfl,_,rfl,b,_,_,_,rfl,rfl,SqT.of eb3,AF (j:=0) rfl,_,_,rfl,_,rfl,a,_,_,_,rfl,rfl,SqT.of ea3,AF (j:=1) rfl,_,rfl,a,_,_,_,rfl,rfl,SqT.of ea3,AF (j:=2) rfl,_,rfl,b,_,_,_,rfl,rfl,SqT.of eb3,AF (j:=1) rfl,_,_,rfl,rfl,_,rfl,le1 rfl,fun r hr'=>?_⟩
  refine k r _ (g.upd hr') ⟨r,t,rfl,AE,?_⟩
  show _=some (HO.tup ((uni i.2 j.2).map V.int))
  rw [←eu]
  exact (AK.Ay hr') _ _ et
def Pe:Sp:=fun vs H Q _=>∃(wi:Int) (ls l0 l1:Addr) (A B:List It4),vs=[.int wi,.ref ls]/\0≤wi/\H ls=some (.lst [.ref l0,.ref l1])/\EF H l0 A/\EF H l1 B/\MOk A/\MOk B/\A.length≤1000/\B.length≤1000 /\
 ∀r H' C,AK H H'→H r=none→EF H' r C→C.Perm (Bq wi A B)→Q (.ref r) H'
theorem R5 (wi:Int) (i:It) (M:List It4):((M.filter fun j=>decide (j.1.2.1=i.2.1)).filter (inT (i.1-wi) (i.1+wi+1)))=M.filter fun j=>CI wi i j.1:=by
 rw [List.filter_filter]
 refine List.filter_congr fun j _=>?_
 unfold inT CI
 rw [Bool.eq_iff_iff]
 simp only [Bool.and_eq_true,decide_eq_true_eq]
 constructor
 ·rintro ⟨⟨a,b⟩,c⟩
  exact ⟨c,a,by omega⟩
 ·rintro ⟨c,a,b⟩
  exact ⟨⟨a,by omega⟩,c⟩
theorem Tup.filter {M:List It4}(h:Tup M) (p:It4→Bool):Tup (M.filter p):=by
 unfold Tup at h ⊢
 exact h.sublist (List.filter_sublist.map _)
theorem K9 {α β:Type}(f:α→List β) (l:List α) (x:α):(l++[x]).flatMap f=l.flatMap f++f x:=by
 rw [List.flatMap_append];simp
theorem KJ (T:Tx K mg ad):BM P w K mg base CX0 3 ad.Bg ad.CG ["within", "streams"] Pe:=by
 have G_by_keys:=BA.mk (Ja (P:=P) (w:=w) (base:=base) T) T.Kw T.Cf.kp T.LN
 have G_between:=BA.mk (Jb (P:=P) (w:=w) (base:=base) T) T.Kx T.Cg.kp T.LO
 have G_met_once:=BA.mk (Mx (P:=P) (w:=w) (base:=base) T) T.OB T.CW.kp T.OS
 refine T.Bl.ok Fu (fun vs H Q E h=>?_) (fun cdv A outer s H vs Q E hr h=>?_)
 ·obtain ⟨wi,ls,l0,l1,A,B,rfl,_⟩:=h
  rfl
 ·obtain ⟨wi,ls,l0,l1,MA,MB,rfl,w0,els,⟨xa,ea,sa⟩,sB,okA,okB,lA,lB,k⟩:=h
  have nd:=Fu.nd
  refine ⟨_,(AJ (psl 2 nd (AI G_by_keys hr (AA (BX K (pvC 1) AB) AD)))
    (AJ (psl 3 nd (Ao AD))
    (AJ (BQ PassesOwn.never rfl (AY (K:=K) (BX K (pvC 1) AB)) (pgn 4 nd)
    (AJ (psl 5 nd (AI G_between hr (AA (Rj hr.u1 (pvC 2) (Aj K (pvC 4) AB) (Ao AD) ⟨rfl,rfl,rfl,rfl⟩) (AA (AG Cn (Aj K (pvC 4) AB) (pvC 0)) (AA (AG Az (AG Az (Aj K (pvC 4) AB) (pvC 0)) AB) AD)))))
    (AH (Bw (Br (JR (K:=K) F.plainAttrs_list F.slot_list_extend F.type_list_extend HU (pvC 3) (AA (pcm (AL DZ) [("item", 4)] ⟨rfl,rfl,trivial⟩ (AY (K:=K) (pvC 5)) (fun _ _ _ _=>Bc) (fun _ _ _ _=>(AI G_met_once hr (AA (pvC 1) (AA (pvC 0) AD))))) AD)))))))
    (AH (AQ (pvC 3)))))),?_⟩
  have sz:sizeLine=16777216:=sizeLine_eq
  have lx:=sa.len
  refine fun _ _ _ _ z1=>⟨_,_,SqL.of els,AF (j:=1) rfl,l1,MB,rfl,sB,lB,fun d H1 M' kvs s1 hd pM tM rb=>z1 _ _ ?_⟩
  refine fun _ _ _ _ z2=>⟨Nat.zero_le _,fun u hu=>z2 _ _ ?_⟩
  have s2:=AK.Ay (o:=.lst []) hu
  have eu:(upd H1 u (.lst [])) u=some (.lst []):=AE
  have rb2:=rb.same s2
  generalize upd H1 u (.lst [])=H2 at s2 eu rb2 ⊢
  have s02:=s1.trans s2
  have hu0:H u=none:=s1.free hu
  have lM:M'.length≤1000:=by rw [pM.length_eq];exact lB
  have okM:MOk M':=fun i hi=>okB i (pM.mem_iff.mp hi)
  have nud:u≠d:=(AM rb.dict hu).symm
  have nur:∀z r,BL kvs (.inr z)=some (.ref r)→r≠u:=fun z r hv e=>by
   obtain ⟨_,_,_,e1,e2,_⟩:=rb.row _ (EK hv)
   cases e1
   rw [e,hu] at e2
   cases e2
  refine fun _ _ _ _ z3=>⟨_,_,SqL.of (s02 _ _ els),AF (j:=0) rfl,l0,rfl,⟨_,SqL.of (s02 _ _ ea)⟩,BO (K:=K) (xs:=xa) (fun m σ H'=>∃(o4 o5:Option V) (acc:List V) (C:List It4),σ=[some (.int wi),some (.ref ls),some (.ref d),some (.ref u),o4,o5]/\Fz u H2 H'/\H' u=some (.lst acc)/\Cr H' acc C/\C.Perm (Bq wi (MA.take m) MB)/\acc.length≤m * 1000)
   ⟨none,none,[],[],rfl,(AK.refl _).x _,eu,.nil,.nil,Nat.zero_le _⟩ (fun m σ H' _ ⟨_,_,_,_,_,s',_⟩=>SqL.of (s' _ _ (AM ea hu0) (s02 _ _ ea))) ?_ ?_⟩
  ·rintro m y σ H3 hy ⟨o4,o5,acc,C,rfl,s3,eu3,sC,pC,lC⟩
   have t23:Tp H2 H3:=fun b ys e=>s3 _ _ (fun z=>by rw [z,eu] at e;cases e) e
   obtain ⟨i,ei,a,p,rfl,ea1,ep1⟩:=Cr.ix sa hy
   have hm:m<MA.length:=(List.getElem?_eq_some_iff.mp ei).1
   have t03:=s02.tp.trans t23
   have ea3:=t03 _ _ ea1
   have ep3:=t03 _ _ ep1
   have ed3:=s3 _ _ nud.symm rb2.dict
   have isd:IsD H3 d:=.inl ⟨kvs,.inl ed3⟩
   refine fun _ _ _ _ z4=>⟨d,rfl,isd,_,_,SqT.of ea3,AF (j:=1) rfl,Nat.zero_le _,fun el hel=>?_⟩
   refine An (o:=.lst []) hel fun H4 t4 eel=>?_
   obtain ⟨r,xs,erw,er,hw⟩:∃(r:Addr) (xs:List V),(BL kvs (.inr i.1.2.1)).getD (.ref el)=.ref r/\H4 r=some (.lst xs)/\BZ H4 xs (M'.filter fun j=>decide (j.1.2.1=i.1.2.1)):=by
    rcases rb2.at i.1.2.1 with ⟨e1,e2⟩|⟨r,xs,e1,er,hw⟩
    ·exact ⟨el,[],by rw [e1];rfl,eel,by rw [e2];exact .nil⟩
    ·exact ⟨r,xs,by rw [e1];rfl,t4 _ _ (s3 _ _ (nur _ _ e1) er),hw.keep (t23.trans t4.tp)⟩
   refine ⟨_,IK.k (k:=Sum.inr i.1.2.1) (t4 _ _ ed3),?_⟩
   rw [erw]
   have ea4:=t4 _ _ ea3
   refine ⟨_,_,SqT.of ea4,AF (j:=0) rfl,_,_,SqT.of ea4,AF (j:=0) rfl,r,xs,_,i.1.1-wi,i.1.1+wi+1,rfl,er,hw,tM.filter _,by omega,fun nl H5 ys t5 hnl enl hwn=>?_⟩
   rw [R5] at hwn
   refine z4 _ _ ?_
   have t35:=t4.trans t5
   have eu5:=t35 _ _ eu3
   have ly:=(AN hwn).1
   have ln:(M'.filter fun j=>CI wi i.1 j.1).length≤1000:=Nat.le_trans (List.length_filter_le _ _) lM
   have i5:I4 H5 (.ref a) i:=⟨a,p,rfl,t35 _ _ ea3,t35 _ _ ep3⟩
   have oki:Ho i.2:=okA i (List.mem_of_getElem? ei)
   refine fun _ _ _ _ z5=>⟨.inl ⟨rfl,_,SqL.of eu5⟩,nl,rfl,⟨_,SqL.of enl⟩,?_⟩
   refine A5 (K:=K) (xs:=ys) (fun j τ acc' H'=>(∃o,τ=[o,some (.ref a)])/\AK H5 H'/\Cr H' acc' (((M'.filter fun j=>CI wi i.1 j.1).take j).map (N9 i))) (by omega) ⟨⟨none,rfl⟩,AK.refl _,.nil⟩ (fun j τ acc' H' ⟨_,s',_⟩=>SqL.of (s' _ _ enl)) ?_ ?_
   ·rintro j y τ acc' H6 R1 hy' _ ⟨⟨o,rfl⟩,t6,sD⟩ k1
    obtain ⟨lq,fq⟩:=AN hwn
    have hj:=(List.getElem?_eq_some_iff.mp hy').1
    have ej:=List.getElem?_eq_getElem (show j<(M'.filter fun j=>CI wi i.1 j.1).length by omega)
    have r3:=fq j _ _ hy' ej
    obtain ⟨b,pb,rfl,eb,epb⟩:=r3
    have okj:Ho ((M'.filter fun j=>CI wi i.1 j.1)[j]).2:=okM _ (List.mem_filter.mp (List.getElem_mem _)).1
    refine ⟨a,b,i,_,rfl,i5.keep t6.tp,⟨b,pb,rfl,t6 _ _ eb,t6 _ _ epb⟩,oki,okj,fun r' H7 t7 i7=>?_⟩
    refine k1 _ _ _ ⟨⟨_,rfl⟩,t6.trans t7,?_⟩
    rw [List.take_add_one,ej,List.map_append]
    exact AW (sD.keep t7.tp) (.cons i7 .nil)
   ·rintro τ acc' H6 la' ⟨_,t6,sD⟩ q hq
    rw [ly,List.take_of_length_le (Nat.le_refl _)] at sD
    refine An (o:=.lst acc') hq fun H7 t7 e7=>?_
    have t57:=t6.trans t7
    have eu7:=t57 _ _ eu5
    have tp8:Tp H7 (upd H7 u (.lst (acc++acc'))):=(Tp.refl H7).upd eu7 fun xs=>by intro z;cases z
    refine ⟨u,q,_,_,rfl,rfl,eu7,e7,by omega,z5 _ _ ⟨_,_,acc++acc',C++(M'.filter fun j=>CI wi i.1 j.1).map (N9 i),rfl,fun b o nb e=>by rw [AO nb];exact (t35.trans t57) _ _ (s3 _ _ nb e),AE,AW ((sC.keep (t35.trans t57).tp).keep tp8) ((sD.keep t7.tp).keep tp8),?_,?_⟩⟩
    ·rw [List.take_add_one,ei]
     show List.Perm _ (Bq wi (MA.take m++[i]) _)
     unfold Bq
     rw [K9]
     exact .append pC ((pM.filter _).map _)
    ·rw [List.length_append]
     have:acc'.length≤1000:=by rw [(AN sD).1,List.length_map];exact ln
     omega
  ·rintro σ H3 ⟨o4,o5,acc,C,rfl,s3,eu3,sC,pC,lC⟩
   rw [lx,List.take_of_length_le (Nat.le_refl _)] at pC
   have sf:AK H H3:=fun b o e=>s3 _ _ (AM e hu0) (s02 _ _ e)
   exact z3 _ _ (k u _ C sf hu0 ⟨acc,eu3,sC⟩ pC)
def WV (f g:Int) (i:It):It:=(i.1,i.2.1,i.2.2 * f+g)
def Qx (f g:Int) (i:It4):It4:=(WV f g i.1,i.2)
def Q8:Sp:=fun vs H Q _=>∃(p q:Addr) (n a:Str) (f g:Int) (i:It4),vs=[.ref p,.ref q]/\StA H p (.turn n a f g)/\(-100≤f/\f≤100)/\I4 H (.ref q) i/\∀r H',AK H H'→I4 H' (.ref r) (Qx f g i)→Q (.ref r) H'
theorem Py (T:Tx K mg ad):BM P w K mg base CX0 1 ad.Du ad.EY ["step", "item"] Q8:=by
 refine T.D1.ok Kl (fun vs H Q E h=>?_) (fun cdv A outer s H vs Q E hr h=>?_)
 ·obtain ⟨p,q,n,a,f,g,i,rfl,_⟩:=h
  rfl
 ·obtain ⟨p,q,n,a,f,g,⟨⟨t,z,am⟩,ns⟩,rfl,e,⟨f0,f1⟩,⟨q',pl,eqq,eq,epl⟩,k⟩:=h
  injection eqq with eqq
  subst eqq
  have nd:=Kl.nd
  refine ⟨_,(AH (AQ (AG (JX (K:=K)) (AG (JX (K:=K)) (Aq (CQ (K:=K)) (pvC 1) A6 (Au AB)) (Am (AA (AG Az (AG BD (Aj K (pvC 1) AB) (Aj K (pvC 0) AB)) (Aj K (pvC 0) AB)) AD))) (Aq (CQ (K:=K)) (pvC 1) (Au AB) A6)))),?_⟩
  have e0:SqT K H p _:=SqT.of e
  have q0:SqT K H q _:=SqT.of eq
  refine ⟨_,rfl,q,_,rfl,q0,(by show ¬ (HT.sIx 4 0 none=0/\HT.sIx 4 4 (some 2)=4);decide),fun p1 hp1=>?_⟩
  have s1:AK H (upd H p1 (.tup [V.int t,V.str z])):=(AK.refl H).upd hp1
  refine ⟨_,_,SqT.of (s1 _ _ eq),AF (j:=2) rfl,_,_,SqT.of (s1 _ _ e),AF (j:=3) rfl,.inr ⟨by omega,by omega⟩,_,_,SqT.of (s1 _ _ e),AF (j:=4) rfl,le1 rfl,fun p2 hp2=>?_⟩
  have s2:=s1.upd (o:=.tup [V.int (am * f+g)]) hp2
  have n12:p1≠p2:=AM AE hp2
  refine ⟨p1,p2,[V.int t,V.str z],[V.int (am * f+g)],rfl,rfl,SqT.of (by rw [AO n12];exact AE),SqT.of AE,(by intro h;cases h),le1 rfl,(fun h=>by cases h),fun _ p3 hp3=>?_⟩
  have s3:=s2.upd (o:=.tup [V.int t,V.str z,V.int (am * f+g)]) hp3
  refine ⟨_,rfl,q,_,rfl,SqT.of (s3 _ _ eq),(by show ¬ (HT.sIx 4 0 (some 3)=0/\HT.sIx 4 4 none=4);decide),fun p4 hp4=>?_⟩
  have s4:=s3.upd (o:=.tup [.ref pl]) hp4
  have n34:p3≠p4:=AM AE hp4
  have e3:(upd (upd (upd (upd H p1 (.tup [V.int t,V.str z])) p2 (.tup [V.int (am * f+g)])) p3 (.tup [V.int t,V.str z,V.int (am * f+g)])) p4 (.tup [.ref pl])) p3=some (.tup [V.int t,V.str z,V.int (am * f+g)]):=by
   rw [AO n34];exact AE
  refine ⟨p3,p4,[V.int t,V.str z,V.int (am * f+g)],[.ref pl],rfl,rfl,SqT.of e3,SqT.of AE,(by intro h;cases h),le1 rfl,(fun h=>by cases h),fun _ p5 hp5=>?_⟩
  exact k p5 _ (s4.upd hp5) ⟨p5,pl,rfl,AE,(s4.upd hp5) _ _ epl⟩
def Oj:Stp→List (List It4)→List It4
 | .only _ _ lo hi,[A]=>A.filter fun i=>decide (lo≤i.1.2.2/\i.1.2.2≤hi)
 | .turn _ _ f g,[A]=>A.map (Qx f g)
 | .both ..,[A,B]=>A++B
 | .gap ..,[A]=>A
 | .each ..,[A]=>A
 | _,_=>[]
def KC:Stp→Prop
 | .turn _ _ f _=>-100≤f/\f≤100
 | .join _ _ _ wi=>0≤wi
 | _=>True
def J9 (H:Hp) (rs:List V) (Ls:List (List It4)):Prop:=Paired (fun x L=>∃r,x=.ref r/\EF H r L) rs Ls
theorem GH {α:Type}{p:α→Bool}{l:List α}{n:Nat}{x:α}(e:l[n]?=some x):(l.take (n+1)).filter p=(l.take n).filter p++(if p x=true then [x] else []):=by
 rw [List.take_add_one,e,List.filter_append]
 congr 1
 show [x].filter p=_
 rw [List.filter_cons]
 cases p x <;> rfl
theorem N2 {α:Type}{l:List α}(h:l.length=1):∃x,l=[x]:=List.length_eq_one_iff.mp h
theorem Hi {H:Hp}{rs:List V}{L:List It4}(h:J9 H rs [L]):∃r xs,rs=[.ref r]/\H r=some (.lst xs)/\Cr H xs L:=by
 cases h with
 | cons a b =>
  cases b
  obtain ⟨r,rfl,xs,e,w⟩:=a
  exact ⟨r,xs,rfl,e,w⟩
theorem UZ {α:Type}{l:List α}(h:l.length=2):∃x y,l=[x,y]:=by
 match l,h with
 | [x,y],_=>exact ⟨x,y,rfl⟩
theorem QY {H:Hp}{rs:List V}{L M:List It4}(h:J9 H rs [L,M]):∃r r' xs xs',rs=[.ref r,.ref r']/\H r=some (.lst xs)/\H r'=some (.lst xs')/\Cr H xs L/\Cr H xs' M:=by
 cases h with
 | cons a b =>
  cases b with
  | cons b c =>
   cases c
   obtain ⟨r,rfl,xs,e,w⟩:=a
   obtain ⟨r',rfl,xs',e',w'⟩:=b
   exact ⟨r,r',xs,xs',rfl,e,e',w,w'⟩
def RC:Sp:=fun vs H Q _=>∃(p ls:Addr) (s:Stp) (rs:List V) (Ls:List (List It4)),vs=[.ref p,.ref ls]/\StA H p s/\KC s/\s.no≠0/\s.no≠4/\H ls=some (.lst rs)/\J9 H rs Ls/\Ls.length=s.As.length/\(∀L∈Ls,L.length≤1000) /\
 ∀r H',AK H H'→EF H' r (Oj s Ls)→Q (.ref r) H'
theorem P1 (T:Tx K mg ad):BM P w K mg base CX0 2 ad.Dx ad.Ea ["step", "streams"] RC:=by
 have G_turned:=BA.mk (Py (P:=P) (w:=w) (base:=base) T) T.SE T.D1.kp T.Sn
 refine T.D4.ok Kn (fun vs H Q E h=>?_) (fun cdv A outer s H vs Q E hr h=>?_)
 ·obtain ⟨p,ls,s,rs,Ls,rfl,_⟩:=h
  rfl
 ·obtain ⟨p,ls,st,rs,Ls,rfl,e,ok,n0,n4,els,cs,cl,cz,k⟩:=h
  have nd:=Kn.nd
  refine ⟨_,(Ac (A0 (AR BE (Aj K (pvC 0) AB) Ak (Ab _))
    (AH (AQ (pcm (AL FE) [("step", 0)] ⟨rfl,rfl,trivial⟩ (AY (K:=K) (BX K (pvC 1) AB)) (fun _ _ _ _=>Dd (JL HS HS (Aj K (pvC 1) AB) (Aj K (pvC 0) AB) (Aj K (pvC 1) AB))) (fun _ _ _ _=>(pvC 0)))))
    Al)
    (Ac (A0 (AR BE (Aj K (pvC 0) AB) Ak (Ab _))
    (AH (AQ (pcm (AL FE) [("step", 0)] ⟨rfl,rfl,trivial⟩ (AY (K:=K) (BX K (pvC 1) AB)) (fun _ _ _ _=>Bc) (fun _ _ _ _=>(AI G_turned hr (AA (pvC 1) (AA (pvC 0) AD)))))))
    Al)
    (Ac (A0 (AR BE (Aj K (pvC 0) AB) Ak (Ab _))
    (AH (AQ (AG FL (BX K (pvC 1) AB) (BX K (pvC 1) AB))))
    Al)
    (AH (AQ (BX K (pvC 1) AB)))))),?_⟩
  have sz:sizeLine=16777216:=sizeLine_eq
  obtain ⟨e0,e1,e2⟩:=e.word (K:=K)
  refine ⟨_,_,e0,e1,rfl,_,rfl,GG (i:=1) rfl (fun q1=>?_) fun q1=>?_⟩
  ·obtain ⟨n,a,lo,hi,rfl⟩:∃n a lo hi,st=.only n a lo hi:=by cases st <;> first|exact ⟨_,_,_,_,rfl⟩|cases q1
   obtain ⟨L,rfl⟩:=N2 cl
   obtain ⟨r,xs,rfl,er,hw⟩:=Hi cs
   have hL:=cz L (.head _)
   have hx:=hw.len
   refine ⟨_,_,SqL.of els,AF (j:=0) rfl,r,rfl,⟨_,SqL.of er⟩,?_⟩
   refine C1 (K:=K) (xs:=xs) (fun m τ acc H'=>(∃o,τ=[o,some (.ref p)])/\H'=H/\Cr H acc ((L.take m).filter fun i=>decide (lo≤i.1.2.2/\i.1.2.2≤hi))) (by omega) ⟨⟨none,rfl⟩,rfl,.nil⟩ (fun m τ acc H' ⟨_,e,_⟩=>by rw [e];exact SqL.of er) ?_ ?_
   ·rintro m y τ acc H' R1 R0 hy _ ⟨⟨o,rfl⟩,rfl,hp⟩ k1 k0
    obtain ⟨⟨⟨t,z,am⟩,ns⟩,ei,b,pl,rfl,eb,epl⟩:=hw.ix hy
    have fs:=GH (p:=fun i:It4=>decide (lo≤i.1.2.2/\i.1.2.2≤hi)) ei
    refine ⟨_,_,e0,AF (j:=3) rfl,_,_,SqT.of eb,AF (j:=2) rfl,_,rfl,?_⟩
    have no:¬ (lo≤am/\am≤hi)→Cr H' acc ((L.take (m+1)).filter fun i=>decide (lo≤i.1.2.2/\i.1.2.2≤hi)):=fun q=>by
     rw [fs,if_neg (by rw [decide_eq_true_eq];exact q),List.append_nil]
     exact hp
    refine He (fun h1=>?_) fun h1=>⟨_,rfl,ES (k0 _ _ ⟨⟨_,rfl⟩,rfl,no fun q=>h1 q.1⟩)⟩
    refine ⟨_,_,e0,AF (j:=4) rfl,_,rfl,He (fun h2=>?_) fun h2=>k0 _ _ ⟨⟨_,rfl⟩,rfl,no fun q=>h2 q.2⟩⟩
    refine (k1 _ _ _ ⟨⟨_,rfl⟩,rfl,?_⟩)
    rw [fs,if_pos (by rw [decide_eq_true_eq];exact ⟨h1,h2⟩)]
    exact AW hp (.cons ⟨b,pl,rfl,eb,epl⟩ .nil)
   ·rintro τ acc H' la ⟨_,rfl,hp⟩ D hD
    rw [List.take_of_length_le (by omega)] at hp
    exact k D _ ((AK.refl _).upd hD) ⟨_,AE,hp.keep ((AK.refl _).upd hD).tp⟩
  ·refine ⟨_,_,e0,e1,rfl,_,rfl,GG (i:=2) rfl (fun q2=>?_) fun q2=>?_⟩
   ·obtain ⟨n,a,f,g,rfl⟩:∃n a f g,st=.turn n a f g:=by cases st <;> first|exact ⟨_,_,_,_,rfl⟩|cases q2
    obtain ⟨L,rfl⟩:=N2 cl
    obtain ⟨r,xs,rfl,er,hw⟩:=Hi cs
    have hL:=cz L (.head _)
    have hx:=hw.len
    refine ⟨_,_,SqL.of els,AF (j:=0) rfl,r,rfl,⟨_,SqL.of er⟩,?_⟩
    refine A5 (K:=K) (xs:=xs) (fun m τ acc H'=>(∃o,τ=[o,some (.ref p)])/\AK H H'/\Cr H' acc ((L.take m).map (Qx f g))) (by omega) ⟨⟨none,rfl⟩,AK.refl _,.nil⟩ (fun m τ acc H' ⟨_,s,_⟩=>SqL.of (s _ _ er)) ?_ ?_
    ·rintro m y τ acc H' R1 hy _ ⟨⟨o,rfl⟩,s,hp⟩ k1
     obtain ⟨i,ei,b,pl,rfl,eb,epl⟩:=hw.ix hy
     refine ⟨p,b,n,a,f,g,i,rfl,s _ _ e,ok,⟨b,pl,rfl,s _ _ eb,s _ _ epl⟩,fun r2 H2 s2 e2=>k1 _ _ _ ⟨⟨_,rfl⟩,s.trans s2,?_⟩⟩
     rw [List.take_add_one,ei,List.map_append]
     exact AW (hp.keep s2.tp) (.cons e2 .nil)
    ·rintro τ acc H' la ⟨_,s,hp⟩ D hD
     rw [List.take_of_length_le (by omega)] at hp
     exact k D _ (s.upd hD) ⟨_,AE,hp.keep ((AK.refl _).upd hD).tp⟩
   ·refine ⟨_,_,e0,e1,rfl,_,rfl,GG (i:=3) rfl (fun q3=>?_) fun q3=>?_⟩
    ·obtain ⟨n,a,b,rfl⟩:∃n a b,st=.both n a b:=by cases st <;> first|exact ⟨_,_,_,rfl⟩|cases q3
     obtain ⟨L,M,rfl⟩:=UZ cl
     obtain ⟨r,r',xs,xs',rfl,er,er',hw,hw'⟩:=QY cs
     have hL:=cz L (.head _)
     have hM:=cz M (.tail _ (.head _))
     have hx:=hw.len
     have hx':=hw'.len
     refine ⟨_,_,SqL.of els,AF (j:=0) rfl,_,_,SqL.of els,AF (j:=1) rfl,r,r',xs,xs',rfl,rfl,er,er',by omega,fun D hD=>k D _ ((AK.refl _).upd hD) ⟨_,AE,?_⟩⟩
     show Cr _ _ (L++M)
     exact Cr.keep (AW hw hw') ((AK.refl _).upd hD).tp
    ·have n1:st.As.length=1/\∀L,Oj st [L]=L:=by
      cases st <;> first|exact ⟨rfl,fun _=>rfl⟩|exact absurd rfl n0|exact absurd rfl q1|exact absurd rfl q2|exact absurd rfl q3|exact absurd rfl n4
     obtain ⟨L,rfl⟩:=N2 (cl.trans n1.1)
     obtain ⟨r,xs,rfl,er,hw⟩:=Hi cs
     exact ⟨_,_,SqL.of els,AF (j:=0) rfl,k r _ (AK.refl _) (by rw [n1.2];exact ⟨_,er,hw⟩)⟩
def Cw (s:Stp) (L:Str→List It4) (evs:List Ev):List It4:=match s with
 | .take _ k=>D5 k evs
 | .only _ a lo hi=>(L a).filter fun i=>decide (lo≤i.1.2.2/\i.1.2.2≤hi)
 | .turn _ a f g=>(L a).map (Qx f g)
 | .both _ a b=>L a++L b
 | .join _ a b wi=>Bq wi (L a) (L b)
 | .gap _ a _ _=>L a
 | .each _ a _ _ _=>L a
theorem LA {α β:Type}(f g:α→List β) (h:∀x,(f x).Perm (g x)):∀l:List α,(l.flatMap f).Perm (l.flatMap g)
 | []=>.nil
 | x::r=>by
  rw [List.flatMap_cons,List.flatMap_cons]
  exact (h x).append (LA f g h r)
theorem NU {wi:Int}{A A' B B':List It4}(p:A.Perm A') (q:B.Perm B'):(Bq wi A B).Perm (Bq wi A' B') :=
 (p.flatMap_right _).trans (LA _ _ (fun i=>(q.filter _).map _) A')
theorem Hy {s:Stp}{L L':Str→List It4}{evs:List Ev}(h:∀a∈s.As,L a=L' a):Cw s L evs=Cw s L' evs:=by
 cases s with
 | take n k=>rfl
 | only n a lo hi=>show (L a).filter _=(L' a).filter _;rw [h a (.head _)]
 | turn n a f g=>show (L a).map _=(L' a).map _;rw [h a (.head _)]
 | both n a b=>show L a++L b=L' a++L' b;rw [h a (.head _),h b (.tail _ (.head _))]
 | join n a b wi=>show Bq wi (L a) (L b)=Bq wi (L' a) (L' b);rw [h a (.head _),h b (.tail _ (.head _))]
 | gap n a s m=>exact h a (.head _)
 | each n a s z d=>exact h a (.head _)
structure FV (ss:List Stp):Prop where
 apart:∀(i i':Nat) s s',ss[i]?=some s→ss[i']?=some s'→s.nm=s'.nm→i=i'
 fed:∀(i:Nat) s a,ss[i]?=some s→a∈s.As→∃(i':Nat) (s':Stp),i'<i/\ss[i']?=some s'/\s'.nm=a/\s'.tell=false
 ok:∀s∈ss,KC s
def putN (bt:Str→List It4) (n:Str) (L:List It4):Str→List It4:=fun a=>if a=n then L else bt a
theorem Lp {ss:List Stp}(h:FV ss) (evs:List Ev):∃L:Str→List It4,∀s∈ss,L s.nm=Cw s L evs:=by
 have key:∀n≤ss.length,∃L:Str→List It4,∀(i:Nat) s,i<n→ss[i]?=some s→L s.nm=Cw s L evs:=by
  intro n
  induction n with
  | zero=>exact fun _=>⟨fun _=>[],fun i s hi=>absurd hi (Nat.not_lt_zero _)⟩
  | succ n ih =>
   intro hn
   obtain ⟨L,hL⟩:=ih (by omega)
   have en:=List.getElem?_eq_getElem (show n<ss.length by omega)
   generalize ss[n]=t at en
   have old:∀(i:Nat) s,i<n→ss[i]?=some s→putN L t.nm (Cw t L evs) s.nm=L s.nm:=fun i s hi ei=>if_neg fun e=>by
    have:=h.apart i n s t ei en e
    omega
   have fe:∀(i:Nat) s,i≤n→ss[i]?=some s→∀a∈s.As,L a=putN L t.nm (Cw t L evs) a:=fun i s hi ei a ha=>by
    obtain ⟨i',s',li,ei',rfl,_⟩:=h.fed i s a ei ha
    exact (old i' s' (by omega) ei').symm
   refine ⟨putN L t.nm (Cw t L evs),fun i s hi ei=>?_⟩
   by_cases e:i=n
   ·subst e
    rw [en] at ei
    cases ei
    rw [←Hy (fe i t (Nat.le_refl _) en)]
    exact if_pos rfl
   ·rw [old i s (by omega) ei,hL i s (by omega) ei]
    exact Hy (fe i s (by omega) ei)
 obtain ⟨L,hL⟩:=key ss.length (Nat.le_refl _)
 refine ⟨L,fun s hs=>?_⟩
 obtain ⟨i,hi⟩:=List.mem_iff_getElem?.mp hs
 exact hL i s (List.getElem?_eq_some_iff.mp hi).1 hi
def Ba (H:Hp) (ps:List V) (ss:List Stp):Prop:=Paired (fun x s=>∃a,x=.ref a/\StA H a s) ps ss
theorem Ba.keep {H H':Hp}{ps:List V}{ss:List Stp}(h:Ba H ps ss) (t:Tp H H'):Ba H' ps ss:=AV (fun x s ⟨a,e,q⟩=>⟨a,e,q.tp t⟩) h
theorem Ba.len {H:Hp}{ps:List V}{ss:List Stp}(h:Ba H ps ss):ps.length=ss.length:=(AN h).1
theorem Ba.at {H:Hp}{ps:List V}{ss:List Stp}(h:Ba H ps ss) {i:Nat}{x:V}(e:ps[i]?=some x):∃a s,x=.ref a/\ss[i]?=some s/\StA H a s:=by
 obtain ⟨l,f⟩:=AN h
 have hi:=(List.getElem?_eq_some_iff.mp e).1
 have e2:=List.getElem?_eq_getElem (show i<ss.length by omega)
 obtain ⟨a,r1,r2⟩:=f i x _ e e2
 exact ⟨a,_,r1,e2,r2⟩
def FW (H:Hp) (kvs:List (Key×V)) (L:List It4) (n:Str):Prop:=∃r M,BL kvs (.inr n)=some (.ref r)/\EF H r M/\M.Perm L
theorem FW.same {H H':Hp}{kvs:List (Key×V)}{L:List It4}{n:Str}(h:FW H kvs L n) (s:AK H H'):FW H' kvs L n:=let ⟨r,M,v,m,p⟩:=h;⟨r,M,v,m.same s,p⟩
theorem Nx {s:Stp}{Ms:List (List It4)}{L:Str→List It4}{evs:List Ev}(h0:s.no≠0) (h4:s.no≠4) (hl:Paired (fun (M:List It4) a=>M.Perm (L a)) Ms s.As):(Oj s Ms).Perm (Cw s L evs):=by
 cases s with
 | take n k=>exact absurd rfl h0
 | join n a b wi=>exact absurd rfl h4
 | only n a lo hi=>cases hl with|cons q r=>cases r;exact q.filter _
 | turn n a f g=>cases hl with|cons q r=>cases r;exact q.map _
 | both n a b =>
  cases hl with|cons q r =>
  cases r with|cons q2 r =>
  cases r
  exact q.append q2
 | gap n a s m=>cases hl with|cons q r=>cases r;exact q
 | each n a s z d=>cases hl with|cons q r=>cases r;exact q
theorem GC {wi:Int}{A B:List It4}{x:It4}:x∈Bq wi A B↔∃i∈A,∃j∈B,CI wi i.1 j.1=true/\x=N9 i j:=by
 unfold Bq
 constructor
 ·intro h
  obtain ⟨i,hi,h⟩:=List.mem_flatMap.mp h
  obtain ⟨j,hj,rfl⟩:=List.mem_map.mp h
  exact ⟨i,hi,j,(List.mem_filter.mp hj).1,(List.mem_filter.mp hj).2,rfl⟩
 ·rintro ⟨i,hi,j,hj,n,rfl⟩
  exact List.mem_flatMap.mpr ⟨i,hi,List.mem_map.mpr ⟨j,List.mem_filter.mpr ⟨hj,n⟩,rfl⟩⟩
theorem Qy {k:Str}{evs:List Ev}(h:evs.length≤20):MOk (D5 k evs):=fun x hx=>by
 obtain ⟨⟨e,n⟩,hp,hx⟩:=List.mem_flatMap.mp hx
 obtain ⟨y,_,rfl⟩:=List.mem_map.mp hx
 have:=(List.mem_zipIdx hp).2.1
 exact Rb (by omega)
theorem R9 {s:Stp}{L:Str→List It4}{evs:List Ev}(le:evs.length≤20) (h:∀a∈s.As,MOk (L a)):MOk (Cw s L evs):=by
 cases s with
 | take n k=>exact Qy le
 | only n a lo hi=>exact fun i hi=>h a (.head _) i (List.mem_filter.mp hi).1
 | turn n a f g =>
  intro i hi
  obtain ⟨j,hj,rfl⟩:=List.mem_map.mp hi
  exact h a (.head _) j hj
 | both n a b =>
  intro i hi
  rcases List.mem_append.mp hi with hi|hi
  ·exact h a (.head _) i hi
  ·exact h b (.tail _ (.head _)) i hi
 | join n a b wi =>
  intro i hi
  obtain ⟨x,hx,y,hy,_,rfl⟩:=GC.mp hi
  exact Ra (h a (.head _) x hx) (h b (.tail _ (.head _)) y hy)
 | gap n a s m=>exact h a (.head _)
 | each n a s z d=>exact h a (.head _)
theorem JM {ss:List Stp}(h:FV ss) {R:Str→Prop}(st:∀s∈ss,(∀a∈s.As,R a)→R s.nm):∀s∈ss,R s.nm:=by
 have key:∀(n:Nat) s,ss[n]?=some s→R s.nm:=by
  intro n
  induction n using Nat.strongRecOn with
  | ind n ih =>
   intro s e
   refine st s (List.mem_of_getElem? e) fun a ha=>?_
   obtain ⟨i',s',li,ei',rfl,_⟩:=h.fed n s a e ha
   exact ih i' li s' ei'
 intro s hs
 obtain ⟨n,hn⟩:=List.mem_iff_getElem?.mp hs
 exact key n s hn
theorem Lq {ss:List Stp}{L:Str→List It4}{evs:List Ev}(h:FV ss) (le:evs.length≤20) (hL:∀s∈ss,L s.nm=Cw s L evs):∀s∈ss,MOk (L s.nm) :=
 JM (R:=fun a=>MOk (L a)) h fun s hs q=>by
  show MOk (L s.nm)
  rw [hL s hs]
  exact R9 le q
def Pd:Sp:=fun vs H Q _=>∃(lp le:Addr) (ps:List V) (ss:List Stp) (evs:List Ev) (L:Str→List It4),vs=[.ref lp,.ref le]/\H lp=some (.lst ps)/\Ba H ps ss/\FV ss/\ss.length≤100/\IJ H le evs/\evs.length≤20/\(∀s∈ss,L s.nm=Cw s L evs/\(L s.nm).length≤1000) /\
 ∀d H' kvs,AK H H'→H d=none→H' d=some (.dK kvs)→(∀s∈ss,FW H' kvs (L s.nm) s.nm)→Q (.ref d) H'
theorem N4 (T:Tx K mg ad):BM P w K mg base CX0 4 ad.Bf ad.CD ["plan", "events"] Pd:=by
 have G_feeders:=BA.mk (N7 (P:=P) (w:=w) (base:=base) T) T.QF T.DJ.kp T.Qk
 have G_name_of:=BA.mk (N5 (P:=P) (w:=w) (base:=base) T) T.QE T.DH.kp T.Qj
 have G_taken_all:=BA.mk (L1 (P:=P) (w:=w) (base:=base) T) T.NB T.B8.kp T.NZ
 have G_joined_all:=BA.mk (KJ (P:=P) (w:=w) (base:=base) T) T.L9 T.Bl.kp T.MQ
 have G_passed:=BA.mk (P1 (P:=P) (w:=w) (base:=base) T) T.SG T.D4.kp T.Sq
 refine T.Bk.ok Ft (fun vs H Q E h=>?_) (fun cdv A outer s H vs Q E hr h=>?_)
 ·obtain ⟨lp,le,ps,ss,evs,L,rfl,_⟩:=h
  rfl
 ·obtain ⟨lp,le,ps,ss,evs,L,rfl,elp,pr,pok,lss,ev,lev,hL,k⟩:=h
  have nd:=Ft.nd
  refine ⟨_,(AJ (psl 2 nd Gb)
    (AJ (BQ PassesOwn.never rfl (AY (K:=K) (pvC 0)) (pgn 3 nd)
    (AJ (IP (i:=4) (osc:=AL DY) [("told", 2)] nd rfl (Or.inl rfl) rfl (AY (K:=K) (AI G_feeders hr (AA (pvC 3) AD))) rfl rfl (by decide +kernel) (by decide +kernel) (by decide +kernel) ⟨rfl,rfl,trivial⟩ rfl (by decide +kernel) (fun _ _ _ _=>Bc) (fun _ _ _ _=>(EB hr.u1 (pvC 1) (pvC 0) (fun _ _=>rfl))))
    (AH (Bw (HQ (A0 (AR BE (Aj K (pvC 3) AB) Ak (Ab _))
    (AH (Fb hr.u1 (pvC 2) (AI G_name_of hr (AA (pvC 3) AD)) (AI G_taken_all hr (AA (pvC 3) (AA (pvC 1) AD))) rfl))
    (AH (A0 (AR BE (Aj K (pvC 3) AB) Ak (Ab _))
    (AH (Fb hr.u1 (pvC 2) (AI G_name_of hr (AA (pvC 3) AD)) (AI G_joined_all hr (AA (Aj K (pvC 3) AB) (AA (pvC 4) AD))) rfl))
    (AH (Fb hr.u1 (pvC 2) (AI G_name_of hr (AA (pvC 3) AD)) (AI G_passed hr (AA (pvC 3) (AA (pvC 4) AD))) rfl))))))))))
    (AH (AQ (pvC 2))))),?_⟩
  have sz:sizeLine=16777216:=sizeLine_eq
  have lp':=pr.len
  have okL:=Lq pok lev fun s hs=>(hL s hs).1
  refine fun _ _ _ _ z1 d hd=>z1 _ _ ?_
  refine An (o:=.dK []) hd fun H0 s0 ed=>?_
  refine fun _ _ _ _ z2=>⟨lp,rfl,⟨_,SqL.of (s0 _ _ elp)⟩,BO (K:=K) (xs:=ps) (fun n σ H'=>∃(o3 o4:Option V) (kvs:List (Key×V)),σ=[some (.ref lp),some (.ref le),some (.ref d),o3,o4]/\AK H H'/\H' d=some (.dK kvs)/\kvs.length≤n/\∀(i:Nat) s,i<n→ss[i]?=some s→FW H' kvs (L s.nm) s.nm)
   ⟨none,none,[],rfl,s0,ed,Nat.le_refl _,fun i s hi=>absurd hi (Nat.not_lt_zero _)⟩ (fun n σ H' _ ⟨_,_,_,_,s',_⟩=>SqL.of (s' _ _ elp)) ?_ ?_⟩
  ·rintro n x σ H1 hx ⟨o3,o4,kvs,rfl,s1,ed1,lk,hh⟩
   obtain ⟨a,st,rfl,es,ea⟩:=pr.at hx
   have hn:n<ss.length:=(List.getElem?_eq_some_iff.mp es).1
   have ea1:StA H1 a st:=s1 _ _ ea
   refine fun _ _ _ _ z3=>⟨a,st,rfl,ea1,fun lf Hf sf hlf elf=>⟨lf,rfl,⟨_,SqL.of elf⟩,?_⟩⟩
   have hf:∀(i:Nat) s,i<n→ss[i]?=some s→FW Hf kvs (L s.nm) s.nm:=fun i s hi ei=>(hh i s hi ei).same sf
   have lf5:st.As.length≤2:=by cases st <;> exact le1 rfl
   have ed2:=sf _ _ ed1
   refine A5 (K:=K) (xs:=st.As.map V.str) (fun m τ acc H'=>(∃o,τ=[o,some (.ref d)])/\H'=Hf/\∃Ms,J9 Hf acc Ms/\Paired (fun (M:List It4) a=>M.Perm (L a)) Ms (st.As.take m)) (by rw [List.length_map];omega) ⟨⟨none,rfl⟩,rfl,[],.nil,.nil⟩ (fun m τ acc H' ⟨_,ee,_⟩=>by rw [ee];exact SqL.of elf) ?_ ?_
   ·rintro m y τ acc H' R1 hy _ ⟨⟨o,rfl⟩,rfl,Ms,hc,hp⟩ k1
    rw [List.getElem?_map] at hy
    obtain ⟨f,ef,rfl⟩:=Option.map_eq_some_iff.mp hy
    obtain ⟨i',s',li,ei',rfl,_⟩:=pok.fed n st f es (List.mem_of_getElem? ef)
    obtain ⟨r,M,v1,v2,v3⟩:=hf i' s' li ei'
    refine ⟨d,.ref r,rfl,?_,k1 _ _ _ ⟨⟨_,rfl⟩,rfl,Ms++[M],AW hc (.cons ⟨r,rfl,v2⟩ .nil),?_⟩⟩
    ·rw [←v1]
     exact IK.k (k:=.inr s'.nm) ed2
    ·rw [List.take_add_one,ef]
     exact AW hp (.cons v3 .nil)
   ·rintro τ acc2 H' la ⟨_,rfl,Ms,hc,hp⟩ ls hls
    rw [List.length_map,List.take_of_length_le (Nat.le_refl _)] at hp
    have s4:=sf.upd (o:=.lst acc2) hls
    have sl4:=AK.Ay (o:=.lst acc2) hls
    have els:(upd H' ls (.lst acc2)) ls=some (.lst acc2):=AE
    have hc4:J9 (upd H' ls (.lst acc2)) acc2 Ms:=AV (fun x L ⟨r,e1,e2⟩=>⟨r,e1,e2.same sl4⟩) hc
    generalize upd H' ls (.lst acc2)=H4 at s4 sl4 els hc4 ⊢
    have S4:=s1.trans s4
    have ea4:StA H4 a st:=ea1.tp s4.tp
    have ed4:=s4 _ _ ed1
    have len4:∀M∈Ms,M.length≤1000:=fun M hM=>by
     obtain ⟨j,hj⟩:=List.mem_iff_getElem?.mp hM
     obtain ⟨lq,fq⟩:=AN hp
     have hj2:=(List.getElem?_eq_some_iff.mp hj).1
     have ej:=List.getElem?_eq_getElem (show j<st.As.length by omega)
     have pp:=fq j _ _ hj ej
     obtain ⟨i',s',li,ei',e',_⟩:=pok.fed n st _ es (List.getElem_mem _)
     have l1:=(hL s' (List.mem_of_getElem? ei')).2
     have l2:=pp.length_eq
     rw [l2,←e']
     exact l1
    have fin:∀{r:Addr} {M:List It4} {H5:Hp},AK H4 H5→EF H5 r M→M.Perm (L st.nm)→(H5 d=some (.dK kvs)/\kvs.length+1≤sizeLine)/\(∃(o3 o4:Option V) (kvs':List (Key×V)),[some (V.ref lp),some (.ref le),some (.ref d),some (.ref a),some (.ref ls)]=[some (V.ref lp),some (.ref le),some (.ref d),o3,o4]/\AK H (upd H5 d (.dK (putK kvs (.inr st.nm) (.ref r))))/\(upd H5 d (.dK (putK kvs (.inr st.nm) (.ref r)))) d=some (.dK kvs')/\kvs'.length≤n+1/\∀(i:Nat) s,i<n+1→ss[i]?=some s→FW (upd H5 d (.dK (putK kvs (.inr st.nm) (.ref r)))) kvs' (L s.nm) s.nm):=fun {r M H5} s5 sr pm=>by
     refine ⟨⟨s5 _ _ ed4,by omega⟩,_,_,putK kvs (.inr st.nm) (.ref r),rfl,(S4.trans s5).F0 hd,AE,?_,fun i s hi ei=>?_⟩
     ·have:=Gp kvs (.inr st.nm) (.ref r);omega
     ·have tp:Tp H5 (upd H5 d (.dK (putK kvs (.inr st.nm) (.ref r)))):=(Tp.refl H5).upd (s5 _ _ ed4) fun xs=>by intro z;cases z
      have keep:∀{q:Addr} {N:List It4},EF H5 q N→EF (upd H5 d (.dK (putK kvs (.inr st.nm) (.ref r)))) q N:=fun {q N} ⟨xs,e,w⟩=>⟨xs,by rw [AO (fun z=>by rw [z,s5 _ _ ed4] at e;cases e)];exact e,w.keep tp⟩
      by_cases e:i=n
      ·subst e
       rw [es] at ei
       cases ei
       exact ⟨r,M,by rw [Ib,if_pos rfl],keep sr,pm⟩
      ·obtain ⟨r',M',v1,v2,v3⟩:=hh i s (by omega) ei
       refine ⟨r',M',?_,keep (v2.same (s4.trans s5)),v3⟩
       rw [Ib,if_neg (fun z=>e (pok.apart i n s st ei es (Sum.inr.inj z)))]
       exact v1
    have okF:∀a∈st.As,MOk (L a):=fun f hf'=>by
     obtain ⟨i',s',li,ei',rfl,_⟩:=pok.fed n st f es hf'
     exact okL s' (List.mem_of_getElem? ei')
    have memS:=List.mem_of_getElem? es
    obtain ⟨mS,lS⟩:=hL st memS
    refine z3 _ _ fun _ _ _ _ z4=>LC (fun σ' H'=>∃(o3 o4:Option V) (kvs:List (Key×V)),σ'=[some (.ref lp),some (.ref le),some (.ref d),o3,o4]/\AK H H'/\H' d=some (.dK kvs)/\kvs.length≤n+1/\∀(i:Nat) s,i<n+1→ss[i]?=some s→FW H' kvs (L s.nm) s.nm) ?_ (fun σ' H' h=>z4 _ _ h)
    obtain ⟨e0,e1,e2⟩:=ea4.word (K:=K)
    refine ⟨_,_,e0,e1,rfl,_,rfl,GG (i:=0) rfl (fun q0=>?_) fun q0=>?_⟩
    ·obtain ⟨nn,kd,rfl⟩:∃nn kd,st=.take nn kd:=by cases st <;> first|exact ⟨_,_,rfl⟩|cases q0
     refine ⟨a,le,nn,kd,evs,rfl,ea4,ev.same S4,lev,fun r H5 s5 hr5 sr=>?_⟩
     have mS:L nn=D5 kd evs:=mS
     obtain ⟨⟨f1,f2⟩,f3⟩:=fin s5 sr (by show List.Perm _ (L nn);rw [mS])
     exact ⟨a,_,rfl,ea4.tp s5.tp,d,_,rfl,KW.k (k:=.inr nn) f1 f2,f3⟩
    ·refine ⟨_,_,e0,e1,rfl,_,rfl,GG (i:=4) rfl (fun q4=>?_) fun q4=>?_⟩
     ·obtain ⟨nn,f,g,wi,rfl⟩:∃nn f g wi,st=.join nn f g wi:=by cases st <;> first|exact ⟨_,_,_,_,rfl⟩|cases q4
      cases hp with|cons pA hp =>
      cases hp with|cons pB hp =>
      cases hp
      cases hc4 with|cons hA hc4 =>
      cases hc4 with|cons hB hc4 =>
      cases hc4
      obtain ⟨r0,rfl,sA⟩:=hA
      obtain ⟨r1,rfl,sB⟩:=hB
      have okw:0≤wi:=pok.ok _ memS
      refine ⟨_,_,e0,AF (j:=4) rfl,wi,ls,r0,r1,_,_,rfl,okw,els,sA,sB,(fun i hi=>okF f (.head _) i (pA.mem_iff.mp hi)),(fun i hi=>okF g (.tail _ (.head _)) i (pB.mem_iff.mp hi)),len4 _ (.head _),len4 _ (.tail _ (.head _)),fun r H5 C s5 hr5 sr pC=>?_⟩
      have pM:C.Perm (L nn):=by
       have mS:L nn=Bq wi (L f) (L g):=mS
       rw [mS]
       exact pC.trans (NU pA pB)
      obtain ⟨⟨f1,f2⟩,f3⟩:=fin s5 sr pM
      exact ⟨a,_,rfl,ea4.tp s5.tp,d,_,rfl,KW.k (k:=.inr nn) f1 f2,f3⟩
     ·refine ⟨a,ls,st,acc2,Ms,rfl,ea4,pok.ok _ memS,q0,q4,els,hc4,(AN hp).1,len4,fun r H5 s5 sr=>?_⟩
      have pM:(Oj st Ms).Perm (L st.nm):=by
       rw [mS]
       exact Nx q0 q4 hp
      obtain ⟨⟨f1,f2⟩,f3⟩:=fin s5 sr pM
      exact ⟨a,_,rfl,ea4.tp s5.tp,d,_,rfl,KW.k (k:=.inr st.nm) f1 f2,f3⟩
  ·rintro σ H1 ⟨o3,o4,kvs,rfl,s1,ed1,lk,hh⟩
   refine z2 _ _ (k d _ kvs s1 hd ed1 fun s hs=>?_)
   obtain ⟨i,hi⟩:=List.mem_iff_getElem?.mp hs
   exact hh i s (by rw [lp'];exact (List.getElem?_eq_some_iff.mp hi).1) hi
def TEL:List V:=[.str "each", .str "gap"]
theorem PJ:∀st:Stp,inV (.str st.word) TEL=st.tell
 | .take ..=>(by decide +kernel:inV (.str "take") TEL=false)
 | .only ..=>(by decide +kernel:inV (.str "only") TEL=false)
 | .turn ..=>(by decide +kernel:inV (.str "turn") TEL=false)
 | .both ..=>(by decide +kernel:inV (.str "both") TEL=false)
 | .join ..=>(by decide +kernel:inV (.str "join") TEL=false)
 | .gap ..=>(by decide +kernel:inV (.str "gap") TEL=true)
 | .each ..=>(by decide +kernel:inV (.str "each") TEL=true)
def Uk:Sp:=fun vs H Q _=>∃(p:Addr) (s:Stp),vs=[.ref p]/\StA H p s/\Q (.bl s.tell) H
theorem L4 (T:Tx K mg ad):BM P w K mg base CX0 1 ad.B6 ad.Ce ["step"] Uk:=by
 refine T.CA.ok GV (fun vs H Q E h=>?_) (fun cdv A outer s H vs Q E hr h=>?_)
 ·obtain ⟨p,s,rfl,_⟩:=h
  rfl
 ·obtain ⟨p,st,rfl,e,k⟩:=h
  have nd:=GV.nd
  refine ⟨_,(AH (AQ (Gd (JW (K:=K)) (pxt K (pv 0) AB) (Lu (v:=.ref ad.CY) (by rfl) T.ET rfl) (by with_unfolding_all rfl)))),?_⟩
  obtain ⟨e0,e1,e2⟩:=e.word (K:=K)
  have ew:=PJ st
  refine ⟨_,rfl,p,_,_,_,rfl,rfl,e0,e1,_,TEL,rfl,.inr (T.Pp H),rfl,rfl,?_⟩
  show Q (.bl (inV (.str st.word) TEL)) H
  rw [ew]
  exact k
def Ij (ss:List Stp) (i:Nat):Bool:=match ss[i]? with|some s=>s.tell|none=>false
def Ii (ss:List Stp):List Nat:=(List.range ss.length).filter (Ij ss)
def Uj:Sp:=fun vs H Q _=>∃(lp:Addr) (ps:List V) (ss:List Stp),vs=[.ref lp]/\H lp=some (.lst ps)/\Ba H ps ss/\ss.length≤100/\∀H' r,AK H H'→H r=none→H' r=some (.lst ((Ii ss).map fun i:Nat=>V.int (i:Int)))→Q (.ref r) H'
theorem N3 (T:Tx K mg ad):BM P w K mg base CX0 2 ad.C7 ad.Dj ["plan"] Uj:=by
 have G_is_teller:=BA.mk (L4 (P:=P) (w:=w) (base:=base) T) T.ND T.CA.kp T.Nb
 refine T.DG.ok Iw (fun vs H Q E h=>?_) (fun cdv A outer s H vs Q E hr h=>?_)
 ·obtain ⟨lp,ps,ss,rfl,_⟩:=h
  rfl
 ·obtain ⟨lp,ps,ss,rfl,el,hp,hl,k⟩:=h
  have nd:=Iw.nd
  refine ⟨_,(AH (AQ (JQ (osc:=AL FY) [] rfl (Lr (K:=K) (by rfl) T.Bt (pv 0)) rfl rfl (by decide +kernel) (by decide +kernel) (by decide +kernel) trivial rfl rfl (by decide +kernel) (fun _ _ _ _=>Dd (FH (AI G_is_teller hr (AA (pv 1) AD)))) (fun _ _ _ _=>(pv 0))))),?_⟩
  have sz:sizeLine=16777216:=sizeLine_eq
  have lps:=hp.len
  refine ⟨_,rfl,lp,rfl,⟨_,SqL.of el⟩,QW (K:=K) (xs:=ps) (fun i _=>Ij ss i) (fun i _=>.int (i:Int)) (by omega) (fun H1 s1=>SqL.of (s1 _ _ el)) (fun i x p o1 o2 H1 R _ _ e q=>⟨p,_,rfl,SqT.of e,rfl,_,_,rfl,_,_,rfl,rfl,q⟩) (fun i x H1 R hx s1 q=>?_) (fun i x H1 R hx _ s1 q=>⟨_,rfl,q _ (AK.refl _)⟩) fun H1 s1 D hD=>?_⟩
  ·obtain ⟨a,st,rfl,es,ea⟩:=hp.at hx
   have ek:Ij ss i=st.tell:=by unfold Ij;rw [es]
   rw [ek] at q
   exact ⟨_,rfl,a,st,rfl,s1 _ _ ea,_,rfl,q H1 (AK.refl _)⟩
  ·refine k _ D (s1.upd hD) (s1.free hD) ?_
   rw [AE]
   congr 2
   unfold Ii
   rw [←lps]
   have:∀(n:Nat) (qs:List V),qs.length=n→((List.zip (List.range n) qs).filter fun q=>Ij ss q.1).map (fun q:Nat×V=>V.int (q.1:Int))=((List.range n).filter (Ij ss)).map fun i:Nat=>V.int (i:Int):=fun n qs e=>by
    have h1:(List.range n)=(List.zip (List.range n) qs).map Prod.fst:=(List.map_fst_zip (by rw [List.length_range];omega)).symm
    conv=>rhs;rw [h1]
    rw [List.filter_map,List.map_map]
    rfl
   exact this _ ps rfl
def Ap (t z d:Int):Int:=((t-z) / d+1) * d
def BW (t z d:Int):List Int:=Nu (Ap t z d) (t+1) d
def Win (t z d:Int):Prop:=1≤d/\d≤1000000/\d≤z/\z≤1000000/\0≤t/\t≤2000000000
def RA:Sp:=fun vs H Q _=>∃t z d:Int,vs=[.int t,.int z,.int d]/\Win t z d/\∀l,H l=none→Q (.ref l) (upd H l (.lst ((BW t z d).map V.int)))
section
variable {t z d:Int}(hW:Win t z d)
include hW
theorem FU:Ap t z d≤t:=by
 obtain ⟨h1,h2,h3,h4,h5,h6⟩:=hW
 have h:=Int.ediv_mul_le (t-z) (b:=d) (by omega)
 unfold Ap
 rw [Int.add_mul,Int.one_mul]
 omega
theorem Gs:t<Ap t z d+z:=by
 obtain ⟨h1,h2,h3,h4,h5,h6⟩:=hW
 have h:=Int.lt_ediv_add_one_mul_self (t-z) (b:=d) (by omega)
 unfold Ap
 omega
theorem OI:Ap t z d-d+z≤t:=by
 obtain ⟨h1,h2,h3,h4,h5,h6⟩:=hW
 have h:=Int.ediv_mul_le (t-z) (b:=d) (by omega)
 unfold Ap
 rw [Int.add_mul,Int.one_mul]
 omega
theorem GL:BH (Ap t z d) (t+1) d=((t-Ap t z d) / d).toNat+1:=by
 have h:=FU hW
 obtain ⟨h1,h2,h3,h4,h5,h6⟩:=hW
 have h7:0≤(t-Ap t z d) / d:=Int.ediv_nonneg (by omega) (by omega)
 unfold BH
 rw [if_pos (by omega),show t+1-Ap t z d-1=t-Ap t z d by omega]
 omega
theorem Q7 {k:Nat}(hk:k<BH (Ap t z d) (t+1) d):Ap t z d+(k:Int) * d≤t:=by
 have h:=FU hW
 rw [GL hW] at hk
 obtain ⟨h1,h2,h3,h4,h5,h6⟩:=hW
 have h7:0≤(t-Ap t z d) / d:=Int.ediv_nonneg (by omega) (by omega)
 have h8:=Int.ediv_mul_le (t-Ap t z d) (b:=d) (by omega)
 have h9:(k:Int) * d≤(t-Ap t z d) / d * d:=Int.mul_le_mul_of_nonneg_right (by omega) (by omega)
 omega
theorem Q6 (k:Nat):t<Ap t z d+(k:Int) * d+z:=by
 have h:=Gs hW
 obtain ⟨h1,h2,h3,h4,h5,h6⟩:=hW
 have h9:0≤(k:Int) * d:=Int.mul_nonneg (by omega) (by omega)
 omega
theorem Qw:BH (Ap t z d) (t+1) d≤1000001:=by
 have h:=Gs hW
 have h0:=FU hW
 rw [GL hW]
 obtain ⟨h1,h2,h3,h4,h5,h6⟩:=hW
 have h7:0≤(t-Ap t z d) / d:=Int.ediv_nonneg (by omega) (by omega)
 have h8:(t-Ap t z d) / d≤t-Ap t z d:=Int.ediv_le_self _ (by omega)
 omega
end
theorem Pc (t z d:Int) (k:Nat):(Ap t z d+(k:Int) * d) % d=0:=by
 unfold Ap
 rw [←Int.add_mul]
 exact Int.mul_emod_left _ _
theorem P0 (T:Tx K mg ad):BM P w K mg base CX0 1 ad.Dw ad.EZ ["time", "size", "step"] RA:=by
 refine T.D3.ok Km (fun vs H Q E h=>?_) (fun cdv A outer s H vs Q E hr h=>?_)
 ·obtain ⟨t,z,d,rfl,_⟩:=h
  rfl
 ·obtain ⟨t,z,d,rfl,hW,k⟩:=h
  have nd:=Km.nd
  refine ⟨_,(Ac (psl 3 nd (AG N0 (AG Eh (AG Fd (AG Lw (pv 0) (pv 1)) (pv 2)) AB) (pv 2)))
    (AH (AQ (Mp rfl (by rfl) T.Cv (by rfl) T.DK (AA (pv 3) (AA (AG Eh (pv 0) AB) (AA (pv 2) AD))))))),?_⟩
  have a1:=FU hW
  have a2:=Gs hW
  have a3:=Qw hW
  obtain ⟨h1,h2,h3,h4,h5,h6⟩:=id hW
  refine ⟨_,rfl,_,rfl,_,_,rfl,rfl,_,rfl,_,_,rfl,rfl,⟨by omega,by omega⟩,_,_,rfl,rfl,_,rfl,_,_,rfl,rfl,.inr ⟨by omega,by omega⟩,?_⟩
  refine ⟨_,rfl,_,rfl,_,_,rfl,rfl,_,rfl,_,_,_,rfl,⟨by omega,by omega,?_,?_,by omega,by omega,?_⟩,k⟩
  ·show -(2 ^ 40)≤Ap t z d
   omega
  ·show Ap t z d<2 ^ 40
   omega
  ·exact Nat.le_trans a3 (by decide)
def Tal (ns:List Int) (xs:List V):Prop:=∃l g:Int,xs=[.int (ns.length:Int),.int ns.sum,.int l,.int g]/\l∈ns/\(∀a∈ns,l≤a)/\g∈ns/\∀a∈ns,a≤g
theorem Rg {ns ms:List Int}(h:ns.Perm ms):ns.sum=ms.sum:=by
 induction h with
 | nil=>rfl
 | cons x _ ih=>rw [List.sum_cons,List.sum_cons,ih]
 | swap x y l=>simp only [List.sum_cons];omega
 | trans _ _ a b=>exact a.trans b
theorem Pa {t z d:Int}{n:Nat}{s:Int}(h:(BW t z d)[n]?=some s):s=Ap t z d+(n:Int) * d/\n<BH (Ap t z d) (t+1) d:=by
 have hn:=(List.getElem?_eq_some_iff.mp h).1
 have hn':n<BH (Ap t z d) (t+1) d:=by unfold BW at hn;rw [DO] at hn;exact hn
 have:=JE hn'
 unfold BW at h
 rw [h] at this
 exact ⟨Option.some.inj this,hn'⟩
theorem Np {t z d x:Int}(hW:Win t z d):x∈BW t z d↔x % d=0/\x≤t/\t-z<x:=by
 constructor
 ·intro h
  obtain ⟨n,hn,e⟩:=List.mem_iff_getElem.mp h
  obtain ⟨e1,e2⟩:=Pa (show (BW t z d)[n]?=some x by rw [←e];exact List.getElem?_eq_getElem _)
  rw [e1]
  have a:=Q7 hW e2
  have b:=Q6 hW n
  exact ⟨Pc t z d n,a,by omega⟩
 ·rintro ⟨h1,h2,h3⟩
  have hb:=OI hW
  have hl:=FU hW
  have hd:1≤d:=hW.1
  obtain ⟨q,hq⟩:=Int.dvd_of_emod_eq_zero h1
  have f0:Ap t z d=((t-z) / d+1) * d:=rfl
  have hx:x=q * d:=by rw [hq,Int.mul_comm]
  have ge:(t-z) / d+1≤q:=by
   have:=Int.ediv_lt_of_lt_mul (a:=t-z) (b:=q) (c:=d) (by omega) (by omega)
   omega
  have hk:x=Ap t z d+(((q-((t-z) / d+1)).toNat:Nat):Int) * d:=by
   rw [Int.toNat_of_nonneg (by omega),f0,←Int.add_mul,hx]
   congr 1
   omega
  have hlt:(q-((t-z) / d+1)).toNat<BH (Ap t z d) (t+1) d:=by
   rw [GL hW]
   have h7:0≤(t-Ap t z d) / d:=Int.ediv_nonneg (by omega) (by omega)
   have:(((q-((t-z) / d+1)).toNat:Nat):Int)≤(t-Ap t z d) / d:=Int.le_ediv_of_mul_le (by omega) (by omega)
   omega
  have:=JE hlt
  rw [←hk] at this
  exact List.mem_of_getElem? this
theorem Nn {t z d:Int}(hW:Win t z d) (hz:z≤20 * d):(BW t z d).length≤21:=by
 unfold BW
 rw [DO,GL hW]
 have h:=Gs hW
 have hd:1≤d:=hW.1
 have:(t-Ap t z d) / d≤20:=by
  have:=Int.ediv_lt_of_lt_mul (a:=t-Ap t z d) (b:=21) (c:=d) (by omega) (by omega)
  omega
 omega
abbrev SRT:List Str:=["count", "sum", "least", "greatest"]
def LQ (so:Str) (ns:List Int) (v:Int):Prop:=(so = "count" /\ v=(ns.length:Int))\/(so = "sum" /\ v=ns.sum)\/(so = "least" /\ v∈ns/\∀a∈ns,v≤a)\/(so = "greatest" /\ v∈ns/\∀a∈ns,a≤v)
theorem LP {so:Str}{ns ms:List Int}{v u:Int}(h:LQ so ns v) (h':LQ so ms u) (p:ns.Perm ms):v=u:=by
 have d1:("count" : Str) ≠ "sum" := by decide
 have d2:("count" : Str) ≠ "least" := by decide
 have d3:("count" : Str) ≠ "greatest" := by decide
 have d4:("sum" : Str) ≠ "least" := by decide
 have d5:("sum" : Str) ≠ "greatest" := by decide
 have d6:("least" : Str) ≠ "greatest" := by decide
 rcases h with ⟨e,h⟩|⟨e,h⟩|⟨e,h,h2⟩|⟨e,h,h2⟩ <;> rcases h' with ⟨e',g⟩|⟨e',g⟩|⟨e',g,g2⟩|⟨e',g,g2⟩
 ·rw [h,g,p.length_eq]
 ·exact absurd (e.symm.trans e') d1
 ·exact absurd (e.symm.trans e') d2
 ·exact absurd (e.symm.trans e') d3
 ·exact absurd (e'.symm.trans e) d1
 ·rw [h,g,Rg p]
 ·exact absurd (e.symm.trans e') d4
 ·exact absurd (e.symm.trans e') d5
 ·exact absurd (e'.symm.trans e) d2
 ·exact absurd (e'.symm.trans e) d4
 ·exact Int.le_antisymm (h2 _ (p.mem_iff.mpr g)) (g2 _ (p.mem_iff.mp h))
 ·exact absurd (e.symm.trans e') d6
 ·exact absurd (e'.symm.trans e) d3
 ·exact absurd (e'.symm.trans e) d5
 ·exact absurd (e'.symm.trans e) d6
 ·exact Int.le_antisymm (g2 _ (p.mem_iff.mp h)) (h2 _ (p.mem_iff.mpr g))
def S1:Sp:=fun vs H Q _=>∃(so:Str) (q:Addr) (ns:List Int) (ts:List V),vs=[.str so,.ref q]/\so∈SRT/\H q=some (.tup ts)/\Tal ns ts/\∀v:Int,LQ so ns v→Q (.int v) H
theorem Rr (T:Tx K mg ad):BM P w K mg base CX0 1 ad.Ep ad.Fi ["sort", "tally"] S1:=by
 refine T.Ey.ok Mc (fun vs H Q E h=>?_) (fun cdv A outer s H vs Q E hr h=>?_)
 ·obtain ⟨so,q,ns,ts,rfl,_⟩:=h
  rfl
 ·obtain ⟨so,q,ns,ts,rfl,hso,eq,tal,k⟩:=h
  have nd:=Mc.nd
  refine ⟨_,(AH (AQ (pxt K (pv 1) (JR (K:=K) F.plainAttrs_tuple F.slot_tuple_index F.type_tuple_index (P7 (K:=K)) (Lu (v:=.ref ad.BG) (by rfl) T.EU rfl) (AA (pv 0) AD))))),?_⟩
  obtain ⟨l,g,rfl,a1,a2,a3,a4⟩:=tal
  have q0:SqT K H q _:=SqT.of eq
  have qt:SqT K H ad.BG (SRT.map V.str):=T.Pq H
  obtain ⟨j,hj,ej⟩:=List.mem_iff_getElem.mp hso
  have ej:SRT[j]?=some so:=by rw [←ej];exact List.getElem?_eq_getElem hj
  have nd:SRT.Nodup:=by decide +kernel
  have hno:∀m,m<j→SRT[m]?≠some so:=fun m hm e=>by
   obtain ⟨h1,g1⟩:=List.getElem?_eq_some_iff.mp ej
   obtain ⟨h2,g2⟩:=List.getElem?_eq_some_iff.mp e
   exact (List.pairwise_iff_getElem.mp nd) m j h2 h1 hm (g2.trans g1.symm)
  match j,ej,hno with
  | 0,ej,hno =>
   have e:=(Option.some.inj ej).symm
   exact ⟨_,rfl,.inr (.inl ⟨rfl,T.Fg⟩),_,rfl,ad.BG,SRT,so,0,rfl,rfl,qt,ej,hno,q,_,_,_,rfl,rfl,q0,AF (j:=0) rfl,k _ (.inl ⟨e,rfl⟩)⟩
  | 1,ej,hno =>
   have e:=(Option.some.inj ej).symm
   exact ⟨_,rfl,.inr (.inl ⟨rfl,T.Fg⟩),_,rfl,ad.BG,SRT,so,1,rfl,rfl,qt,ej,hno,q,_,_,_,rfl,rfl,q0,AF (j:=1) rfl,k _ (.inr (.inl ⟨e,rfl⟩))⟩
  | 2,ej,hno =>
   have e:=(Option.some.inj ej).symm
   exact ⟨_,rfl,.inr (.inl ⟨rfl,T.Fg⟩),_,rfl,ad.BG,SRT,so,2,rfl,rfl,qt,ej,hno,q,_,_,_,rfl,rfl,q0,AF (j:=2) rfl,k _ (.inr (.inr (.inl ⟨e,a1,a2⟩)))⟩
  | 3,ej,hno =>
   have e:=(Option.some.inj ej).symm
   exact ⟨_,rfl,.inr (.inl ⟨rfl,T.Fg⟩),_,rfl,ad.BG,SRT,so,3,rfl,rfl,qt,ej,hno,q,_,_,_,rfl,rfl,q0,AF (j:=3) rfl,k _ (.inr (.inr (.inr ⟨e,a3,a4⟩)))⟩
structure DI (kvs:List (Key×V)) (S:Int→Prop):Prop where
 nd:(kvs.map (·.1)).Nodup
 sub:∀k∈kvs.map (·.1),∃b,k=.inl b/\S b
 all:∀b,S b→(Sum.inl b:Key)∈kvs.map (·.1)
theorem DI.nil:DI [] (fun _=>False):=⟨.nil,fun k hk=>(by cases hk),fun b h=>h.elim⟩
theorem DI.imp {kvs:List (Key×V)}{S S':Int→Prop}(h:DI kvs S) (e:∀b,S b↔S' b):DI kvs S' :=
 ⟨h.nd,fun k hk=>let ⟨b,q,r⟩:=h.sub k hk;⟨b,q,(e b).mp r⟩,fun b q=>h.all b ((e b).mpr q)⟩
theorem DI.put {kvs:List (Key×V)}{S:Int→Prop}(h:DI kvs S) (b:Int) (v:V):DI (putK kvs (.inl b) v) (fun x=>S x\/x=b):=by
 have hk:=HZ kvs (.inl b:Key) v
 have key:∀k,k∈(putK kvs (.inl b:Key) v).map (·.1)↔k∈kvs.map (·.1)\/k=.inl b:=fun k=>by
  rw [hk]
  split
  ·rename_i hm
   exact ⟨.inl,fun q=>q.elim id fun e=>by rw [e];exact hm⟩
  ·rw [List.mem_append,List.mem_singleton]
 refine ⟨Jc h.nd,fun k hk=>?_,fun x hx=>?_⟩
 ·rcases (key k).mp hk with q|q
  ·obtain ⟨c,e,r⟩:=h.sub k q
   exact ⟨c,e,.inl r⟩
  ·exact ⟨b,q,.inr rfl⟩
 ·refine (key _).mpr ?_
  rcases hx with q|q
  ·exact .inl (h.all x q)
  ·exact .inr (by rw [q])
theorem DI.sorted {kvs:List (Key×V)}{S:Int→Prop}(h:DI kvs S) {ks:List Key}(p:ks.Perm (kvs.map (·.1))) (so:ks.Pairwise fun a b=>kLt b a=false):∃bs:List Int,ks=bs.map Sum.inl/\bs.Pairwise (· < ·)/\∀b,b∈bs↔S b:=by
 obtain ⟨bs,rfl⟩:∃bs:List Int,ks=bs.map Sum.inl:=by
  refine ⟨ks.map fun q=>match q with|.inl x=>x|.inr _=>0,?_⟩
  rw [List.map_map]
  refine ((List.map_congr_left (g:=id) fun q hq=>?_).trans (List.map_id _)).symm
  obtain ⟨i,rfl,_⟩:=h.sub q (p.mem_iff.mp hq)
  rfl
 refine ⟨bs,rfl,?_,fun b=>?_⟩
 ·have n2:=List.pairwise_map.mp (p.nodup_iff.mpr h.nd)
  have s2:=List.pairwise_map.mp so
  refine (n2.and s2).imp fun {a b} h=>?_
  have h2:¬ b<a:=fun q=>by
   have:=h.2
   have t:kLt (Sum.inl b) (Sum.inl a)=decide (b<a):=rfl
   rw [t,decide_eq_true q] at this
   cases this
  have h1:a≠b:=fun e=>h.1 (by rw [e])
  omega
 ·constructor
  ·intro hb
   obtain ⟨c,e,r⟩:=h.sub _ (p.mem_iff.mp (List.mem_map.mpr ⟨b,hb,rfl⟩:(Sum.inl b:Key)∈bs.map Sum.inl))
   rw [Sum.inl.inj e];exact r
  ·intro hb
   obtain ⟨c,hc,e⟩:=List.mem_map.mp (p.mem_iff.mpr (h.all b hb))
   rw [←Sum.inl.inj e];exact hc
theorem DI.ints {kvs:List (Key×V)}{S:Int→Prop}(h:DI kvs S):∀p∈kvs,∃i,p.1=.inl i:=fun p hp=>let ⟨b,e,_⟩:=h.sub _ (List.mem_map.mpr ⟨p,hp,rfl⟩);⟨b,e⟩
def wK (q:Int×Int):List Key:=[.inl q.1,.inl q.2]
theorem A8 {α:Type}{l:List α}{n:Nat}{x:α}(e:l[n]?=some x) (y:α):y∈l.take (n+1)↔y∈l.take n\/y=x:=by
 rw [List.take_add_one,e]
 simp
def TJ:Sp:=fun vs H Q _=>∃(l:Addr) (ts:List Int) (z d:Int),vs=[.ref l,.int z,.int d]/\H l=some (.lst (ts.map V.int))/\ts.length≤1000/\(∀t∈ts,Win t z d)/\z≤20 * d /\
 ∀H' r xs (ws:List (Int×Int)),AK H H'→H r=none→H' r=some (.lst xs)→Rws H' xs (ws.map wK)→(ws.map (·.1)).Pairwise (· < ·)→(∀b e,(b,e)∈ws↔e=b+z/\∃t∈ts,b∈BW t z d)→ws.length≤21 * ts.length→Q (.ref r) H'
theorem IE (T:Tx K mg ad):BM P w K mg base CX0 2 ad.BJ ad.BY ["times", "size", "step"] TJ:=by
 have G_starts:=BA.mk (P0 (P:=P) (w:=w) (base:=base) T) T.SF T.D3.kp T.So
 refine T.BK.ok E4 (fun vs H Q E h=>?_) (fun cdv A outer s H vs Q E hr h=>?_)
 ·obtain ⟨l,ts,z,d,rfl,_⟩:=h
  rfl
 ·obtain ⟨l,ts,z,d,rfl,el,lts,hW,hz,k⟩:=h
  have nd:=E4.nd
  refine ⟨_,(AJ (psl 3 nd Gb)
    (AJ (BQ PassesOwn.never rfl (AY (K:=K) (pvC 0)) (pgn 4 nd)
    (AH (Bw (BQ PassesOwn.never rfl (AY (K:=K) (AI G_starts hr (AA (pvC 4) (AA (pvC 1) (AA (pvC 2) AD))))) (pgn 5 nd)
    (AH (Fb hr.u1 (pvC 3) (pvC 5) FJ rfl))))))
    (AH (AQ (pcm (AL Cj) [("size", 1)] ⟨rfl,rfl,trivial⟩ (AY (K:=K) (AU (G0 rfl) (by rfl) T.CN PyProof.Rows.boot_sorted (AA (pvC 3) AD))) (fun _ _ _ _=>Bc) (fun _ _ _ _=>(Am (AA (pvC 0) (AA (AG Az (pvC 0) (pvC 1)) AD))))))))),?_⟩
  have sz:sizeLine=16777216:=sizeLine_eq
  refine fun _ _ _ _ z1 dd hdd=>z1 _ _ ?_
  refine An (o:=.dK []) hdd fun H0 s0 ed0=>?_
  refine fun _ _ _ _ z2=>⟨l,rfl,⟨_,SqL.of (s0 _ _ el)⟩,BO (K:=K) (xs:=ts.map V.int) (fun n σ H'=>∃(o4 o5:Option V) (kvs:List (Key×V)),σ=[some (.ref l),some (.int z),some (.int d),some (.ref dd),o4,o5]/\AK H H'/\H' dd=some (.dK kvs)/\DI kvs (fun b=>∃t∈ts.take n,b∈BW t z d)/\kvs.length≤21 * n)
   ⟨none,none,[],rfl,s0,ed0,DI.nil.imp fun b=>by simp,Nat.zero_le _⟩ (fun n σ H' _ ⟨_,_,_,_,s',_⟩=>SqL.of (s' _ _ el)) ?_ ?_⟩
  ·rintro n y σ H1 hy ⟨o4,o5,kvs,rfl,s1,ed1,di,lk⟩
   rw [List.getElem?_map] at hy
   obtain ⟨t,ht,rfl⟩:=Option.map_eq_some_iff.mp hy
   have hn:n<ts.length:=(List.getElem?_eq_some_iff.mp ht).1
   have W:=hW t (List.mem_of_getElem? ht)
   have lst:=Nn W hz
   refine fun _ _ _ _ z3=>⟨t,z,d,rfl,W,fun st hst=>?_⟩
   refine An (o:=.lst ((BW t z d).map V.int)) hst fun H2 s2 est=>?_
   have nsd:st≠dd:=(AM ed1 hst).symm
   refine ⟨st,rfl,⟨_,SqL.of est⟩,BO (K:=K) (xs:=(BW t z d).map V.int) (fun m σ H'=>∃(o5:Option V) (kvs:List (Key×V)),σ=[some (.ref l),some (.int z),some (.int d),some (.ref dd),some (.int t),o5]/\Fz dd H2 H'/\H' dd=some (.dK kvs)/\DI kvs (fun b=>(∃t∈ts.take n,b∈BW t z d)\/b∈(BW t z d).take m)/\kvs.length≤21 * n+m)
    ⟨_,kvs,rfl,(AK.refl _).x _,s2 _ _ ed1,di.imp fun b=>by simp,lk⟩ (fun m σ H' _ ⟨_,_,_,x',_⟩=>SqL.of (x' _ _ nsd est)) ?_ ?_⟩
   ·rintro m y σ H3 hy ⟨o5,kvs,rfl,x3,ed3,di3,lk3⟩
    rw [List.getElem?_map] at hy
    obtain ⟨b,hb,rfl⟩:=Option.map_eq_some_iff.mp hy
    have hm:m<(BW t z d).length:=(List.getElem?_eq_some_iff.mp hb).1
    refine ⟨dd,_,rfl,KW.k (k:=.inl b) ed3 (by omega),?_⟩
    refine ⟨_,putK kvs (.inl b) (.bl true),rfl,fun c o nc e=>?_,AE,(di3.put b _).imp fun x=>?_,?_⟩
    ·rw [AO nc];exact x3 c o nc e
    ·rw [A8 hb,or_assoc]
    ·have:=Gp kvs (Sum.inl b:Key) (.bl true);omega
   ·rintro σ H3 ⟨o5,kvs,rfl,x3,ed3,di3,lk3⟩
    rw [List.length_map,List.take_of_length_le (Nat.le_refl _)] at di3
    refine z3 _ _ ⟨_,_,kvs,rfl,fun c o e=>?_,ed3,di3.imp fun b=>?_,by rw [List.length_map] at lk3;omega⟩
    ·exact x3 c o (fun q=>by rw [q,hdd] at e;cases e) (s2 _ _ (s1 _ _ e))
    ·constructor
     ·rintro (⟨t',ht',hb⟩|hb)
      ·exact ⟨t',(A8 ht t').mpr (.inl ht'),hb⟩
      ·exact ⟨t,(A8 ht t).mpr (.inr rfl),hb⟩
     ·rintro ⟨t',ht',hb⟩
      rcases (A8 ht t').mp ht' with q|q
      ·exact .inl ⟨t',q,hb⟩
      ·exact .inr (by rw [←q];exact hb)
  ·rintro σ H1 ⟨o4,o5,kvs,rfl,s1,ed1,di,lk⟩
   rw [List.length_map] at di lk
   rw [List.take_of_length_le (Nat.le_refl _)] at di
   refine z2 _ _ ⟨dd,kvs,rfl,ed1,.inl di.ints,fun sl ks hsl pk sk=>?_⟩
   obtain ⟨bs,rfl,up,mem⟩:=di.sorted pk sk
   have lbs:bs.length≤21 * ts.length:=by have:=pk.length_eq;simp only [List.length_map] at this;omega
   rw [show (bs.map (Sum.inl:Int→Key)).map kV=bs.map V.int by rw [List.map_map];rfl]
   refine An (o:=.lst (bs.map V.int)) hsl fun H2 s2 esl=>?_
   refine ⟨sl,rfl,⟨_,SqL.of esl⟩,?_⟩
   refine A5 (K:=K) (xs:=bs.map V.int) (fun j τ acc H'=>(∃o,τ=[o,some (.int z)])/\AK H2 H'/\Rws H' acc (((bs.take j).map fun b=>(b,b+z)).map wK)) (by rw [List.length_map];omega) ⟨⟨none,rfl⟩,AK.refl _,D9 _⟩ (fun j τ acc H' ⟨_,s',_⟩=>SqL.of (s' _ _ esl)) ?_ ?_
   ·rintro j y τ acc H3 R1 hy _ ⟨⟨o,rfl⟩,s3,hw⟩ k1
    rw [List.getElem?_map] at hy
    obtain ⟨b,hb,rfl⟩:=Option.map_eq_some_iff.mp hy
    refine ⟨le1 rfl,fun r hr'=>k1 _ _ _ ⟨⟨_,rfl⟩,s3.upd hr',?_⟩⟩
    rw [List.take_add_one,hb,List.map_append,List.map_append]
    exact (hw.keep (AK.Ay hr').tp).snoc AE
   ·rintro τ acc H3 la ⟨_,s3,hw⟩ D hD
    rw [List.length_map,List.take_of_length_le (Nat.le_refl _)] at hw
    have S3:=(s1.trans s2).trans s3
    refine k _ D acc (bs.map fun b=>(b,b+z)) (S3.upd hD) (S3.free hD) AE (hw.keep (AK.Ay hD).tp) ?_ (fun b e=>?_) (by rw [List.length_map];exact lbs)
    ·have e:(bs.map fun b=>(b,b+z)).map (·.1)=bs:=by rw [List.map_map];exact List.map_id _
     rw [e];exact up
    ·rw [←mem b]
     constructor
     ·intro h
      obtain ⟨c,hc,e⟩:=List.mem_map.mp h
      cases e
      exact ⟨rfl,hc⟩
     ·rintro ⟨rfl,hb⟩
      exact List.mem_map.mpr ⟨b,hb,rfl⟩
section
open PySem.Spec PyProof.Rows
variable {X:Cx}{o i value:Expr}{pos pos':Pos}{td ty tv:TE}
def Ut (td ty tv:TE):TS:=fun D σ H=>tv σ H fun v H1=>td σ H1 fun x H2=>ty σ H2 fun y H3=>∃(l:Addr) (xs:List V) (x0:V),x=.ref l/\y=.int (-1)/\H3 l=some (.lst (xs++[x0]))/\D.nx σ (upd H3 l (.lst (xs++[v])))
theorem Od {α:Type}(v:α):∀(xs:List α) (x0:α),(xs++[x0]).set xs.length v=xs++[v]
 | [],_=>rfl
 | x::xs,x0=>by rw [List.cons_append,List.length_cons,List.set_cons_succ,Od v xs x0];rfl
unseal PE PS in
theorem RX (ho:PE X o td) (hi:PE X i ty) (hv:PE X value tv) (hs:swapsWith value (some (.Subscript o i pos')) pos.line X.env=pure false) :
  PS X (.Assign [.Subscript o i pos'] value pos) (Ut td ty tv):=by
 intro pins s σ H D I h
 refine wpAny_Assign_Subscript (thn (hv pins s σ H _ I h) fun r s1 ⟨v,H1,I1,rv,q1⟩=>thn (ho pins s1 σ H1 _ I1 q1) fun u s2 ⟨x,H2,I2,rx,q2⟩=>thn (hi pins s2 σ H2 _ I2 q2) fun iv s3 ⟨y,H3,I3,ry,l,xs,x0,ex,ey,e,q3⟩=>?_) hs
 subst ex ey
 obtain rfl:u=Value.ref l:=rx
 obtain ⟨t,rfl⟩:=ry
 obtain ⟨z,its,n,rs,hl,e'⟩:=I3.OC e
 have len:=rs.length
 rw [List.length_append,List.length_singleton] at len
 have sz:sizeLine=16777216:=sizeLine_eq
 have hk:((-1:Int)+(its.toArray.size:Int)).toNat=xs.length:=by rw [List.size_toArray];omega
 refine W.ki_setBack e' (by decide) (by rw [List.size_toArray];omega) (by decide) ?_
 rw [hk]
 have rs':=MW rv rs xs.length
 rw [Od] at rs'
 exact ⟨σ,_,I3.Tz (its':=its.set xs.length r) (t':=s3.toks) e e' (by simp) rs' (by rw [List.length_append] at *;simp at *;omega),q3⟩
end
theorem Gf {α β:Type}{F:α→β→Prop}{y:β}:∀{ys:List β}{xs:List α},Paired F xs (ys++[y])→∃zs x,xs=zs++[x]/\Paired F zs ys/\F x y
 | [],xs,h=>by
  cases h with
  | cons a b=>cases b;exact ⟨[],_,rfl,.nil,a⟩
 | b::ys,xs,h=>by
  cases h with
  | cons a h =>
   obtain ⟨zs,x,rfl,p,q⟩:=Gf h
   exact ⟨_::zs,x,rfl,.cons a p,q⟩
structure GD (m:Int) (ts:List Int) (ps:List (Int×Int)):Prop where
 ap:ps.Pairwise fun a b=>a.2+m<b.1
 le:∀p∈ps,p.1≤p.2
 cov:∀t∈ts,∃p∈ps,p.1≤t/\t≤p.2
 lo:∀p∈ps,p.1∈ts
 hi:∀p∈ps,p.2∈ts
 co:∀p∈ps,∀t∈ts,p.1≤t→t<p.2→∃t'∈ts,t<t'/\t'≤t+m
def Qo (m:Int) (ts:List Int) (b l:Int):Prop:=b∈ts/\l∈ts/\b≤l/\(∀t∈ts,t<b→t+m<b)/\(∀t∈ts,l<t→l+m<t)/\∀t∈ts,b≤t→t<l→∃t'∈ts,t<t'/\t'≤t+m
theorem SA:∀{l:List Int},l≠[]→∃x∈l,∀y∈l,y≤x
 | [],h=>absurd rfl h
 | [a],_=>⟨a,.head _,fun y hy=>by rw [List.mem_singleton.mp hy];exact Int.le_refl _⟩
 | a::b::l,_=>by
  obtain ⟨x,hx,q⟩:=SA (l:=b::l) (by simp)
  by_cases h:a≤x
  ·refine ⟨x,List.mem_cons_of_mem _ hx,fun y hy=>?_⟩
   rcases List.mem_cons.mp hy with rfl|hy
   ·exact h
   ·exact q y hy
  ·refine ⟨a,.head _,fun y hy=>?_⟩
   rcases List.mem_cons.mp hy with rfl|hy
   ·exact Int.le_refl _
   ·have:=q y hy;omega
section
variable {m:Int}{ts:List Int}{ps:List (Int×Int)}
theorem GD.two (h:GD m ts ps) {p q:Int×Int}(hp:p∈ps) (hq:q∈ps):p=q\/p.2+m<q.1\/q.2+m<p.1:=by
 obtain ⟨i,hi,e⟩:=List.mem_iff_getElem.mp hp
 obtain ⟨j,hj,e'⟩:=List.mem_iff_getElem.mp hq
 have g:=List.pairwise_iff_getElem.mp h.ap
 rcases Nat.lt_trichotomy i j with q|q|q
 ·have:=g i j hi hj q
  rw [e,e'] at this
  exact .inr (.inl this)
 ·subst q
  exact .inl (e.symm.trans e')
 ·have:=g j i hj hi q
  rw [e,e'] at this
  exact .inr (.inr this)
theorem GD.iff (h:GD m ts ps) (hm:0≤m) (b l:Int):(b,l)∈ps↔Qo m ts b l:=by
 constructor
 ·intro hp
  have hle:b≤l:=h.le _ hp
  refine ⟨h.lo _ hp,h.hi _ hp,hle,fun t ht q=>?_,fun t ht q=>?_,fun t ht q r=>h.co _ hp t ht q r⟩
  ·obtain ⟨p,hp',c1,c2⟩:=h.cov t ht
   rcases h.two hp hp' with e|e|e
   ·rw [←e] at c1
    have:b≤t:=c1
    omega
   ·have:l+m<p.1:=e
    omega
   ·have:p.2+m<b:=e
    omega
  ·obtain ⟨p,hp',c1,c2⟩:=h.cov t ht
   rcases h.two hp hp' with e|e|e
   ·rw [←e] at c2
    have:t≤l:=c2
    omega
   ·have:l+m<p.1:=e
    omega
   ·have:p.2+m<b:=e
    omega
 ·rintro ⟨hb,hl,hbl,i1,i2,con⟩
  obtain ⟨p,hp,c1,c2⟩:=h.cov b hb
  have e1:p.1=b:=by
   by_cases e:p.1=b
   ·exact e
   ·exfalso
    obtain ⟨x,hx,mx⟩:=SA (l:=ts.filter fun t=>decide (t<b)) (List.ne_nil_of_mem (List.mem_filter.mpr ⟨h.lo p hp,decide_eq_true (by omega)⟩))
    obtain ⟨x1,x2⟩:=List.mem_filter.mp hx
    have x2:=of_decide_eq_true x2
    have xp:=mx p.1 (List.mem_filter.mpr ⟨h.lo p hp,decide_eq_true (by omega)⟩)
    obtain ⟨t',ht',a1,a2⟩:=h.co p hp x x1 xp (by omega)
    have i:=i1 x x1 x2
    have:=mx t' (List.mem_filter.mpr ⟨ht',decide_eq_true (by omega)⟩)
    omega
  have e2:p.2=l:=by
   rcases Int.lt_trichotomy p.2 l with q|q|q
   ·obtain ⟨t',ht',a1,a2⟩:=con p.2 (h.hi p hp) c2 q
    obtain ⟨p',hp',d1,d2⟩:=h.cov t' ht'
    have:=h.le p hp
    rcases h.two hp hp' with e|e|e
    ·rw [←e] at d2;omega
    ·omega
    ·omega
   ·exact q
   ·obtain ⟨t',ht',a1,a2⟩:=h.co p hp l hl (by omega) q
    have:=i2 t' ht' a1
    omega
  rw [←e1,←e2]
  exact hp
theorem GD.new {t:Int}(h:GD m ts ps) (far:∀p∈ps,p.2+m<t) (hm:0≤m):GD m (ts++[t]) (ps++[(t,t)]):=by
 have sp:∀{R:Int×Int→Prop},(∀p∈ps,R p)→R (t,t)→∀p∈ps++[(t,t)],R p:=fun a b p hp=>by
  rcases List.mem_append.mp hp with hp|hp
  ·exact a p hp
  ·rw [List.mem_singleton.mp hp];exact b
 refine ⟨?_,sp h.le (Int.le_refl _),fun x hx=>?_,sp (fun p hp=>List.mem_append_left _ (h.lo p hp)) (List.mem_append_right _ (.head _)),sp (fun p hp=>List.mem_append_left _ (h.hi p hp)) (List.mem_append_right _ (.head _)),sp (fun p hp x hx a b=>?_) fun x hx a b=>?_⟩
 ·refine List.pairwise_append.mpr ⟨h.ap,List.pairwise_singleton _ _,fun p hp q hq=>?_⟩
  rw [List.mem_singleton.mp hq]
  exact far p hp
 ·rcases List.mem_append.mp hx with hx|hx
  ·obtain ⟨p,hp,c⟩:=h.cov x hx
   exact ⟨p,List.mem_append_left _ hp,c⟩
  ·rw [List.mem_singleton.mp hx]
   exact ⟨(t,t),List.mem_append_right _ (.head _),Int.le_refl _,Int.le_refl _⟩
 ·rcases List.mem_append.mp hx with hx|hx
  ·obtain ⟨t',ht',c⟩:=h.co p hp x hx a b
   exact ⟨t',List.mem_append_left _ ht',c⟩
  ·have:=far p hp
   have:=List.mem_singleton.mp hx
   omega
 ·have a:t≤x:=a
  have b:x<t:=b
  omega
theorem GD.ext {t a l:Int}(h:GD m ts (ps++[(a,l)])) (up:∀x∈ts,x≤t) (near:t-l≤m) (hm:0≤m):GD m (ts++[t]) (ps++[(a,t)]):=by
 have hl:(a,l)∈ps++[(a,l)]:=List.mem_append_right _ (.head _)
 have old:∀p∈ps,p∈ps++[(a,l)]:=fun p hp=>List.mem_append_left _ hp
 have lt:l≤t:=up l (h.hi _ hl)
 have al:a≤l:=h.le _ hl
 obtain ⟨a1,_,a3⟩:=List.pairwise_append.mp h.ap
 have a3:∀p∈ps,p.2+m<a:=fun p hp=>a3 p hp _ (.head _)
 have sp:∀{R:Int×Int→Prop},(∀p∈ps,R p)→R (a,t)→∀p∈ps++[(a,t)],R p:=fun a b p hp=>by
  rcases List.mem_append.mp hp with hp|hp
  ·exact a p hp
  ·rw [List.mem_singleton.mp hp];exact b
 refine ⟨?_,sp (fun p hp=>h.le p (old p hp)) (by show a≤t;omega),fun x hx=>?_,sp (fun p hp=>List.mem_append_left _ (h.lo p (old p hp))) (List.mem_append_left _ (show a∈ts from h.lo _ hl)),sp (fun p hp=>List.mem_append_left _ (h.hi p (old p hp))) (List.mem_append_right _ (.head _)),sp (fun p hp x hx b c=>?_) fun x hx b c=>?_⟩
 ·refine List.pairwise_append.mpr ⟨a1,List.pairwise_singleton _ _,fun p hp q hq=>?_⟩
  rw [List.mem_singleton.mp hq]
  exact a3 p hp
 ·rcases List.mem_append.mp hx with hx|hx
  ·obtain ⟨p,hp,c1,c2⟩:=h.cov x hx
   rcases List.mem_append.mp hp with hp|hp
   ·exact ⟨p,List.mem_append_left _ hp,c1,c2⟩
   ·rw [List.mem_singleton.mp hp] at c1
    exact ⟨(a,t),List.mem_append_right _ (.head _),c1,up x hx⟩
  ·rw [List.mem_singleton.mp hx]
   exact ⟨(a,t),List.mem_append_right _ (.head _),by show a≤t;omega,Int.le_refl _⟩
 ·rcases List.mem_append.mp hx with hx|hx
  ·obtain ⟨t',ht',c⟩:=h.co p (old p hp) x hx b c
   exact ⟨t',List.mem_append_left _ ht',c⟩
  ·have:=a3 p hp
   have:=List.mem_singleton.mp hx
   omega
 ·have b:a≤x:=b
  have c:x<t:=c
  rcases List.mem_append.mp hx with hx|hx
  ·by_cases q:x<l
   ·obtain ⟨t',ht',c⟩:=h.co _ hl x hx b q
    exact ⟨t',List.mem_append_left _ ht',c⟩
   ·exact ⟨t,List.mem_append_right _ (.head _),c,by omega⟩
  ·have:=List.mem_singleton.mp hx
   omega
end
def Uq:Sp:=fun vs H Q _=>∃(l:Addr) (ts:List Int) (m:Int),vs=[.ref l,.int m]/\H l=some (.lst (ts.map V.int))/\ts.length≤1000/\0≤m/\ts.Pairwise (·≤·) /\
 ∀H' r xs (ws:List (Int×Int)),AK H H'→H r=none→H' r=some (.lst xs)→Rws H' xs (ws.map wK)→(ws.map (·.1)).Pairwise (· < ·)→(∀b e,(b,e)∈ws↔∃l,e=l+m+1/\Qo m ts b l)→ws.length≤ts.length→Q (.ref r) H'
theorem JZ (T:Tx K mg ad):BM P w K mg base CX0 1 ad.BS ad.Bo ["times", "most"] Uq:=by
 refine T.BV.ok FC (fun vs H Q E h=>?_) (fun cdv A outer s H vs Q E hr h=>?_)
 ·obtain ⟨l,ts,m,rfl,_⟩:=h
  rfl
 ·obtain ⟨l,ts,m,rfl,el,lts,hm,up,k⟩:=h
  have nd:=FC.nd
  refine ⟨_,(AJ (psl 2 nd (Ao AD))
    (AJ (BQ PassesOwn.never rfl (AY (K:=K) (pv 0)) (pgn 3 nd)
    (AH (Bw (A0 (PW.pt (Kq (AR BE (AU (A7 (K:=K)) (by rfl) T.CO PySem.boot_len (AA (pv 2) AD)) AB (Ab _)) (JJ (AR UU (AG Lw (pv 3) (pxt K (pxl K (pv 2) (Ks LX AB)) AB)) (pv 1) (Ab _)))))
    (AH (Br (pap K (pv 2) (AA (Am (AA (pv 3) (AA (pv 3) AD))) AD))))
    (AH (RX (pv 2) (Ks LX AB) (Am (AA (pxt K (pxl K (pv 2) (Ks LX AB)) AB) (AA (pv 3) AD))) rfl))))))
    (AH (AQ (JQ (osc:=AL DM) [("most", 1)] rfl (AY (K:=K) (pv 2)) rfl rfl (by decide +kernel) (by decide +kernel) (by decide +kernel) ⟨rfl,rfl,trivial⟩ rfl rfl (by decide +kernel) (fun _ _ _ _=>Bc) (fun _ _ _ _=>(Am (AA (pv 0) (AA (AG Eh (AG Eh (pv 1) (pv 2)) AB) AD))))))))),?_⟩
  have sz:sizeLine=16777216:=sizeLine_eq
  refine fun _ _ _ _ z1=>⟨Nat.zero_le _,fun pl hpl=>z1 _ _ ?_⟩
  refine An (o:=.lst []) hpl fun H0 s0 ep0=>?_
  refine fun _ _ _ _ z2=>⟨_,rfl,l,rfl,⟨_,SqL.of (s0 _ _ el)⟩,BO (K:=K) (xs:=ts.map V.int) (fun n σ H'=>∃(o3:Option V) (xs:List V) (ps:List (Int×Int)),σ=[some (.ref l),some (.int m),some (.ref pl),o3]/\AK H H'/\H' pl=some (.lst xs)/\Rws H' xs (ps.map wK)/\GD m (ts.take n) ps/\ps.length≤n)
   ⟨none,[],[],rfl,s0,ep0,D9 _,⟨.nil,(fun p hp=>by cases hp),(fun t ht=>by cases ht),(fun p hp=>by cases hp),(fun p hp=>by cases hp),fun p hp=>by cases hp⟩,Nat.le_refl _⟩ (fun n σ H' _ ⟨_,_,_,_,s',_⟩=>SqL.of (s' _ _ el)) ?_ ?_⟩
  ·rintro n y σ H1 hy ⟨o3,xs,ps,rfl,s1,ep1,hw,gd,lp⟩
   rw [List.getElem?_map] at hy
   obtain ⟨t,ht,rfl⟩:=Option.map_eq_some_iff.mp hy
   have hn:n<ts.length:=(List.getElem?_eq_some_iff.mp ht).1
   have lx:xs.length=ps.length:=by rw [hw.len,List.length_map]
   have tk:ts.take (n+1)=ts.take n++[t]:=by rw [List.take_add_one,ht];rfl
   have before:∀x∈ts.take n,x≤t:=fun x hx=>by
    obtain ⟨i,hi,e⟩:=List.mem_iff_getElem.mp hx
    rw [List.length_take] at hi
    rw [List.getElem_take] at e
    have e2:=(List.getElem?_eq_some_iff.mp ht).2
    have:=List.pairwise_iff_getElem.mp up i n (by omega) hn (by omega)
    rw [e,e2] at this
    exact this
   have add:(∀p∈ps,p.2+m<t)→∀q,H1 q=none→∃(o3:Option V) (xs':List V) (ps:List (Int×Int)),[some (V.ref l),some (.int m),some (.ref pl),some (.int t)]=[some (.ref l),some (.int m),some (.ref pl),o3]/\AK H (upd (upd H1 q (.tup [.int t,.int t])) pl (.lst (xs++[.ref q])))/\(upd (upd H1 q (.tup [.int t,.int t])) pl (.lst (xs++[.ref q]))) pl=some (.lst xs')/\Rws (upd (upd H1 q (.tup [.int t,.int t])) pl (.lst (xs++[.ref q]))) xs' (ps.map wK)/\GD m (ts.take (n+1)) ps/\ps.length≤n+1:=fun far q hq=>by
    refine An (o:=.tup [.int t,.int t]) hq fun H2 s2 eq=>?_
    have tp:Tp H2 (upd H2 pl (.lst (xs++[.ref q]))):=(Tp.refl H2).upd (s2 _ _ ep1) fun xs=>by intro z;cases z
    refine ⟨_,xs++[.ref q],ps++[(t,t)],rfl,(s1.trans s2).F0 hpl,AE,?_,by rw [tk];exact gd.new far hm,by rw [List.length_append];simp;omega⟩
    rw [List.map_append]
    exact (hw.keep (s2.tp.trans tp)).snoc (tp _ _ eq)
   refine fun _ _ _ _ z3=>⟨_,rfl,pl,_,rfl,.inl (SqL.of ep1),rfl,_,rfl,?_⟩
   rcases List.eq_nil_or_concat ps with rfl|⟨qs,⟨a,e⟩,rfl⟩
   ·have ex:xs=[]:=List.length_eq_zero_iff.mp lx
    subst ex
    exact VT ⟨_,rfl,.inl ⟨rfl,_,SqL.of ep1⟩,_,rfl,_,rfl,le1 rfl,fun q hq=>⟨pl,_,_,rfl,rfl,(AK.Ay hq) _ _ ep1,by simp;omega,z3 _ _ (add (fun p hp=>by cases hp) q hq)⟩⟩
   ·rw [List.concat_eq_append] at *
    rw [List.map_append] at hw
    obtain ⟨ys,x,rfl,hwq,b,rfl,eb⟩:=Gf hw
    have eb:H1 b=some (.tup [.int a,.int e]):=eb
    have ne:¬ ((ys++[V.ref b]).length:Int)=0:=by rw [List.length_append];simp;omega
    refine Gq (fun h=>absurd h ne) fun _=>⟨_,rfl,_,rfl,_,rfl,pl,_,_,_,rfl,rfl,SqL.of ep1,HB _ _,b,_,_,_,rfl,rfl,SqT.of eb,AF (j:=1) rfl,_,_,rfl,rfl,_,rfl,_,_,rfl,rfl,_,rfl,He (fun h=>?_) fun h=>?_⟩
    ·have h:t-e > m:=h
     refine ⟨_,rfl,.inl ⟨rfl,_,SqL.of ep1⟩,_,rfl,_,rfl,le1 rfl,fun q hq=>⟨pl,_,_,rfl,rfl,(AK.Ay hq) _ _ ep1,by omega,z3 _ _ (add (fun p hp=>?_) q hq)⟩⟩
     have hl:(a,e)∈qs++[(a,e)]:=List.mem_append_right _ (.head _)
     rcases List.mem_append.mp hp with hp|hp
     ·have h1:p.2+m<a:=(List.pairwise_append.mp gd.ap).2.2 p hp _ (.head _)
      have h2:a≤e:=gd.le _ hl
      omega
     ·rw [List.mem_singleton.mp hp]
      show e+m<t
      omega
    ·have h:¬ t-e > m:=h
     refine ⟨_,rfl,_,rfl,pl,_,_,_,rfl,rfl,SqL.of ep1,HB _ _,b,_,_,_,rfl,rfl,SqT.of eb,AF (j:=0) rfl,_,rfl,le1 rfl,fun q hq=>?_⟩
     refine An (o:=.tup [.int a,.int t]) hq fun H2 s2 eq=>?_
     have tp:Tp H2 (upd H2 pl (.lst (ys++[.ref q]))):=(Tp.refl H2).upd (s2 _ _ ep1) fun xs=>by intro z;cases z
     refine ⟨_,rfl,_,rfl,pl,ys,_,rfl,rfl,s2 _ _ ep1,z3 _ _ ⟨_,ys++[.ref q],qs++[(a,t)],rfl,(s1.trans s2).F0 hpl,AE,?_,by rw [tk];exact gd.ext before (by omega) hm,by rw [List.length_append] at lp ⊢;simp at lp ⊢;omega⟩⟩
     rw [List.map_append]
     exact (Rws.keep hwq (s2.tp.trans tp)).snoc (tp _ _ eq)
  ·rintro σ H1 ⟨o3,xs,ps,rfl,s1,ep1,hw,gd,lp⟩
   rw [List.length_map] at gd lp
   rw [List.take_of_length_le (Nat.le_refl _)] at gd
   have lx:xs.length=ps.length:=by rw [hw.len,List.length_map]
   refine z2 _ _ ⟨_,rfl,pl,rfl,⟨_,SqL.of ep1⟩,?_⟩
   refine A5 (K:=K) (xs:=xs) (fun j τ acc H'=>(∃o o',τ=[o,o',some (.int m)])/\AK H1 H'/\Rws H' acc (((ps.take j).map fun q=>(q.1,q.2+m+1)).map wK)) (by omega) ⟨⟨none,none,rfl⟩,AK.refl _,D9 _⟩ (fun j τ acc H' ⟨_,s',_⟩=>SqL.of (s' _ _ ep1)) ?_ ?_
   ·rintro j y τ acc H2 R1 hy _ ⟨⟨o,o',rfl⟩,s2,hw2⟩ k1
    obtain ⟨b,ks,rfl,ek,eb⟩:=hw.at hy
    rw [List.getElem?_map] at ek
    obtain ⟨q,eq,rfl⟩:=Option.map_eq_some_iff.mp ek
    have eb:H1 b=some (.tup [.int q.1,.int q.2]):=eb
    refine ⟨b,_,rfl,SqT.of (s2 _ _ eb),rfl,_,_,rfl,_,_,rfl,rfl,?_⟩
    refine ⟨_,rfl,_,rfl,_,rfl,_,_,rfl,rfl,_,_,rfl,rfl,le1 rfl,fun r hr'=>k1 _ _ _ ⟨⟨_,_,rfl⟩,s2.upd hr',?_⟩⟩
    rw [List.take_add_one,eq,List.map_append,List.map_append]
    exact (hw2.keep (AK.Ay hr').tp).snoc AE
   ·rintro τ acc H2 la ⟨_,s2,hw2⟩ D hD
    rw [lx,List.take_of_length_le (Nat.le_refl _)] at hw2
    have S2:=s1.trans s2
    refine k _ D acc (ps.map fun q=>(q.1,q.2+m+1)) (S2.upd hD) (S2.free hD) AE (hw2.keep (AK.Ay hD).tp) ?_ (fun b e=>?_) (by rw [List.length_map];exact lp)
    ·rw [List.map_map,List.pairwise_map]
     refine gd.ap.imp_of_mem fun {a b} ha hb h=>?_
     have:=gd.le a ha
     show a.1<b.1
     omega
    ·constructor
     ·intro h
      obtain ⟨c,hc,e⟩:=List.mem_map.mp h
      cases e
      exact ⟨c.2,rfl,(gd.iff hm _ _).mp hc⟩
     ·rintro ⟨l',rfl,g⟩
      exact List.mem_map.mpr ⟨(b,l'),(gd.iff hm _ _).mpr g,rfl⟩
section
open PySem.Spec PyProof.Rows
variable {X:Cx}
unseal PE PS PTs PI in
theorem RW {i:Nat}{y:Str}{iter elt:Expr}{ifs:List Expr}{scope osc:Scope}{wi:TI}{tt:TT}{te:TE}{x x2 x3:Str}{px px2 px3 tpos py pos spos:Pos}{kk}(fr:List (Str×Nat))
  (hN:X.N.Nodup) (hiy:X.N[i]?=some y) (hxy:Loc X.env.scope y)
  (hc:X.calm=true) (hi:PI X (.Tuple [.Name x px,.Name x2 px2,.Name x3 px3] kk tpos) iter wi) (ho:X.env.scope=osc)
  (hk:scope.kind=.function) (hcell:∀y∈scope.names,y.2≠.cell) (hnames:∀y∈scope.names,y.2=.local→scope.names.lookup y.1=some .local)
  (hfree:∀y∈scope.names,y.2=.free→osc.names.lookup y.1=some .cell\/osc.names.lookup y.1=some .free) (hfr:II X scope fr)
  (hx:scope.names.lookup x=some .local) (hx2:scope.names.lookup x2=some .local) (hx3:scope.names.lookup x3=some .local) (hnd:(x::x2::x3::fr.map (·.1)).Nodup)
  (ht:∀C s H ex,PTs (Av X scope (x::x2::x3::fr.map (·.1)) C s H ex) ifs tt)
  (he:∀C s H ex,PE (Av X scope (x::x2::x3::fr.map (·.1)) C s H ex) elt te)
  (hsw:swapsWith (.ListComp elt [⟨.Tuple [.Name x px,.Name x2 px2,.Name x3 px3] kk tpos,iter,ifs,0⟩] scope pos) (some (.Name y py)) spos.line X.env=pure true:=by rfl)
  (hf:X.fn y=true\/X.env.scope.names.lookup y=some .local:=by first|exact .inl rfl|exact .inr rfl|assumption)
  (hs:∀x,foldedSetIterable iter X.env x=pure x:=by intro _;rfl) :
  PS X (.Assign [.Name y py] (.ListComp elt [⟨.Tuple [.Name x px,.Name x2 px2,.Name x3 px3] kk tpos,iter,ifs,0⟩] scope pos) spos) (Q5 (Hr 3 (fr.map (·.2)) wi (VW X.K 3 (K8 (Ct 0) (K8 (Ct 1) (K8 (Ct 2) VX)))) tt te) (Ct i)) :=
 Mo (own:=[x,x2,x3]) hN hiy hxy hf hc hi hk hcell hnames (fun y hy e=>by show X.env.scope.names.lookup y.1=_\/X.env.scope.names.lookup y.1=_;rw [ho];exact hfree y hy e) hfr
  (fun C s H ex=>F8 (show (Av X scope (x::x2::x3::fr.map (fun p:Str×Nat=>p.1)) C s H ex).calm=true from hc) (A3 (EA (i:=0) hnd rfl (.inl (lookup_relabel_local hx)) (.inr (lookup_relabel_local hx))) (A3 (EA (i:=1) hnd rfl (.inl (lookup_relabel_local hx2)) (.inr (lookup_relabel_local hx2))) (A3 (EA (i:=2) hnd rfl (.inl (lookup_relabel_local hx3)) (.inr (lookup_relabel_local hx3))) Eg)))) ht he hsw hs
end
def IH:Stp→List Int→Int→Int→Prop
 | .each _ _ _ z d,ts,b,e=>e=b+z/\∃t∈ts,b∈BW t z d
 | .gap _ _ _ m,ts,b,e=>∃l,e=l+m+1/\Qo m ts b l
 | _,_,_,_=>False
def Stp.sort:Stp→Str
 | .gap _ _ s _|.each _ _ s _ _=>s
 | _ => ""
def EL:Stp→Prop
 | .each _ _ s z d=>s∈SRT/\1≤d/\d≤1000000/\d≤z/\z≤1000000/\z≤20 * d
 | .gap _ _ s m=>s∈SRT/\0≤m
 | _=>True
def UG (ts:List Int):Prop:=∀t∈ts,0≤t/\t≤2000000000
theorem LS {s:Stp}{ts:List Int}{b e:Int}(ok:EL s) (ht:UG ts) (h:IH s ts b e):∃t∈ts,b≤t/\t<e:=by
 cases s with
 | each n a so z d =>
  obtain ⟨rfl,t,hm,hb⟩:=h
  obtain ⟨_,o1,o2,o3,o4,_⟩:=ok
  have:=(Np ⟨o1,o2,o3,o4,(ht t hm).1,(ht t hm).2⟩).mp hb
  exact ⟨t,hm,this.2.1,by omega⟩
 | gap n a so m =>
  obtain ⟨l,rfl,h1,h2,h3,_⟩:=h
  have:=ok.2
  exact ⟨b,h1,Int.le_refl _,by omega⟩
 | take n k=>exact h.elim
 | only n a lo hi=>exact h.elim
 | turn n a f g=>exact h.elim
 | both n a b=>exact h.elim
 | join n a b wi=>exact h.elim
theorem Q1 {s:Stp}(h:s.tell=true) (ok:EL s):s.sort∈SRT:=by
 cases s <;> first|exact ok.1|cases h
theorem StA.sort {H:Hp}{p:Addr}{s:Stp}(h:s.tell=true):atI (s.key.map kV) 3=some (.str s.sort)/\∃a,s.As=[a]/\atI (s.key.map kV) 2=some (.str a):=by
 cases s <;> first|exact ⟨AF (j:=3) rfl,_,rfl,AF (j:=2) rfl⟩|cases h
def Uh:Sp:=fun vs H Q _=>∃(p l:Addr) (s:Stp) (ts:List Int),vs=[.ref p,.ref l]/\StA H p s/\s.tell=true/\EL s/\H l=some (.lst (ts.map V.int))/\ts.length≤1000/\ts.Pairwise (·≤·)/\UG ts /\
 ∀H' r xs (ws:List (Int×Int)),AK H H'→H r=none→H' r=some (.lst xs)→Rws H' xs (ws.map wK)→(ws.map (·.1)).Pairwise (· < ·)→(∀b e,(b,e)∈ws↔IH s ts b e)→ws.length≤21 * ts.length→Q (.ref r) H'
theorem KH (T:Tx K mg ad):BM P w K mg base CX0 3 ad.Bd ad.CB ["step", "times"] Uh:=by
 have G_each_windows:=BA.mk (IE (P:=P) (w:=w) (base:=base) T) T.Jl T.BK.kp T.J2
 have G_gap_windows:=BA.mk (JZ (P:=P) (w:=w) (base:=base) T) T.KN T.BV.kp T.KS
 refine T.Bh.ok Fq (fun vs H Q E h=>?_) (fun cdv A outer s H vs Q E hr h=>?_)
 ·obtain ⟨p,l,s,ts,rfl,_⟩:=h
  rfl
 ·obtain ⟨p,l,st,ts,rfl,e,ht,ok,el,lts,up,tm,k⟩:=h
  have nd:=Fq.nd
  refine ⟨_,(Ac (A0 (AR BE (pxt K (pv 0) AB) Ak (Ab _))
    (AH (AQ (AI G_each_windows hr (AA (pv 1) (AA (pxt K (pv 0) AB) (AA (pxt K (pv 0) AB) AD))))))
    Al)
    (AH (AQ (AI G_gap_windows hr (AA (pv 1) (AA (pxt K (pv 0) AB) AD)))))),?_⟩
  obtain ⟨e0,e1,e2⟩:=e.word (K:=K)
  refine ⟨_,rfl,p,_,_,_,rfl,rfl,e0,e1,rfl,_,rfl,GG (i:=6) rfl (fun q=>?_) fun q=>?_⟩
  ·obtain ⟨n,a,so,z,d,rfl⟩:∃n a so z d,st=.each n a so z d:=by cases st <;> first|exact ⟨_,_,_,_,_,rfl⟩|cases q
   obtain ⟨_,o1,o2,o3,o4,o5⟩:=ok
   exact ⟨_,rfl,_,rfl,p,_,_,_,rfl,rfl,e0,AF (j:=4) rfl,_,rfl,p,_,_,_,rfl,rfl,e0,AF (j:=5) rfl,l,ts,z,d,rfl,el,lts,(fun t h=>⟨o1,o2,o3,o4,(tm t h).1,(tm t h).2⟩),o5,k⟩
  ·obtain ⟨n,a,so,m,rfl⟩:∃n a so m,st=.gap n a so m:=by cases st <;> first|exact ⟨_,_,_,_,rfl⟩|exact absurd rfl q|cases ht
   exact ⟨_,rfl,_,rfl,p,_,_,_,rfl,rfl,e0,AF (j:=4) rfl,l,ts,m,rfl,el,lts,ok.2,up,fun H' r xs ws a b c d e f g=>k H' r xs ws a b c d e f (by omega)⟩
def MT (N:List It4):List Int:=N.map fun i=>i.1.2.2
def Wi:Sp:=fun vs H Q _=>∃(p l:Addr) (s:Stp) (xs:List V) (N:List It4),vs=[.ref p,.ref l]/\StA H p s/\s.tell=true/\EL s/\H l=some (.lst xs)/\BZ H xs N/\N≠[]/\N.length≤1000 /\
 ∀v:Int,LQ s.sort (MT N) v→∀H',AK H H'→Q (.int v) H'
theorem BZ.ix {H:Hp}{xs:List V}{N:List It4}(h:BZ H xs N) {i:Nat}{x:V}(e:xs[i]?=some x):∃m,N[i]?=some m/\R3 H x m:=by
 obtain ⟨l,f⟩:=AN h
 have hi:=(List.getElem?_eq_some_iff.mp e).1
 have e2:=List.getElem?_eq_getElem (show i<N.length by omega)
 exact ⟨_,e2,f i x _ e e2⟩
theorem KI (T:Tx K mg ad):BM P w K mg base CX0 2 ad.Be ad.CC ["step", "inner"] Wi:=by
 have G_value:=BA.mk (Rr (P:=P) (w:=w) (base:=base) T) T.Tr T.Ey.kp T.T9
 refine T.Bj.ok Fs (fun vs H Q E h=>?_) (fun cdv A outer s H vs Q E hr h=>?_)
 ·obtain ⟨p,l,s,xs,N,rfl,_⟩:=h
  rfl
 ·obtain ⟨p,l,st,xs,N,rfl,e,ht,ok,el,hw,ne,lN,k⟩:=h
  have nd:=Fs.nd
  refine ⟨_,(AJ (RW (i:=2) (osc:=AL DX) [] nd rfl (Or.inl rfl) rfl (AY (K:=K) (pv 1)) rfl rfl (by decide +kernel) (by decide +kernel) (by decide +kernel) trivial rfl rfl rfl (by decide +kernel) (fun _ _ _ _=>Bc) (fun _ _ _ _=>(pv 1)))
    (AH (AQ (AI G_value hr (AA (pxt K (pv 0) AB) (AA (Am (AA (AU (A7 (K:=K)) (by rfl) T.CO PySem.boot_len (AA (pv 2) AD)) (AA (AU (QZ (K:=K) rfl) (by rfl) T.MV PyProof.Rows.boot_sum (AA (pv 2) AD)) (AA (AU (Qc (K:=K) rfl) (by rfl) T.E7 PyProof.Rows.boot_min (AA (pv 2) AD)) (AA (AU (Qe (K:=K) rfl) (by rfl) T.Fp PyProof.Rows.boot_max (AA (pv 2) AD)) AD))))) AD)))))),?_⟩
  have sz:sizeLine=16777216:=sizeLine_eq
  have lx:=(AN hw).1
  refine fun _ _ _ _ z1=>⟨_,rfl,l,rfl,⟨_,SqL.of el⟩,?_⟩
  refine A5 (K:=K) (xs:=xs) (fun j τ acc H'=>(∃o o' o'',τ=[o,o',o''])/\H'=H/\acc=(MT (N.take j)).map V.int) (by omega) ⟨⟨none,none,none,rfl⟩,rfl,rfl⟩ (fun j τ acc H' ⟨_,e,_⟩=>by rw [e];exact SqL.of el) ?_ ?_
  ·rintro j y τ acc H1 R1 hy _ ⟨⟨o,o',o'',rfl⟩,rfl,rfl⟩ k1
   obtain ⟨i,ei,a,q,rfl,ea,eq⟩:=hw.ix hy
   refine ⟨a,_,rfl,SqT.of ea,rfl,_,_,rfl,_,_,rfl,_,_,rfl,rfl,?_⟩
   refine ⟨_,rfl,k1 _ _ _ ⟨⟨_,_,_,rfl⟩,rfl,?_⟩⟩
   unfold MT
   rw [List.take_add_one,ei,List.map_append,List.map_append]
   rfl
  ·rintro τ acc H1 la ⟨_,rfl,rfl⟩ am ham
   rw [lx,List.take_of_length_le (Nat.le_refl _)]
   refine An (o:=.lst ((MT N).map V.int)) ham fun H2 s1 eam=>?_
   obtain ⟨e3,_⟩:=StA.sort (H:=H1) (p:=p) ht
   have pos:0<(MT N).length:=by unfold MT;rw [List.length_map];exact List.length_pos_iff.mpr ne
   refine z1 _ _ ⟨_,rfl,p,_,_,_,rfl,rfl,SqT.of (s1 _ _ e),e3,_,rfl,am,_,rfl,.inl (SqL.of eam),_,rfl,am,_,rfl,SqL.of eam,_,rfl,am,_,rfl,SqL.of eam,pos,fun mn hm1 hm2=>⟨_,rfl,am,_,rfl,SqL.of eam,pos,fun mx hx1 hx2=>⟨le1 rfl,fun q hq=>?_⟩⟩⟩
   refine ⟨st.sort,q,MT N,_,rfl,Q1 ht ok,AE,⟨mn,mx,by rw [List.length_map],hm1,hm2,hx1,hx2⟩,fun v hv=>k v hv _ (s1.upd hq)⟩
abbrev Mk:=Int×Nat×Str×Int×Int
abbrev MkI:=Mk×List It4
def wOf (q:MkI):Int×Int:=(q.1.2.2.2.1,q.1.1)
def E5 (N:List It4):List Int:=N.map fun i=>i.1.1
def MkA (H0 H:Hp) (nm:Str) (x:V) (q:MkI):Prop:=∃(a ra ia:Addr) (ys:List V),x=.ref a/\H a=some (.tup [.int q.1.1,.int (q.1.2.1:Int),.str q.1.2.2.1,.int q.1.2.2.2.1,.ref ra,.ref ia])/\H ra=some (.tup [.str nm,.str q.1.2.2.1,.int q.1.2.2.2.1,.int q.1.1,.int q.1.2.2.2.2])/\H0 ia=none/\H ia=some (.lst ys)/\BZ H ys q.2
theorem MkA.keep {H0 H H':Hp}{nm:Str}{x:V}{q:MkI}(h:MkA H0 H nm x q) (kl:∀b ys,H0 b=none→H b=some (.lst ys)→H' b=some (.lst ys)) (t:Tp H H'):MkA H0 H' nm x q:=by
 obtain ⟨a,ra,ia,ys,e,e1,e2,e3,e4,e5⟩:=h
 exact ⟨a,ra,ia,ys,e,t _ _ e1,t _ _ e2,e3,kl _ _ e3 e4,BZ.keep e5 t⟩
theorem MkA.same {H0 H H':Hp}{nm:Str}{x:V}{q:MkI}(h:MkA H0 H nm x q) (s:AK H H'):MkA H0 H' nm x q:=h.keep (fun b ys _ e=>s _ _ e) s.tp
theorem MkA.back {G H0 H:Hp}{nm:Str}{x:V}{q:MkI}(h:MkA H0 H nm x q) (s:AK G H0):MkA G H nm x q:=by
 obtain ⟨a,ra,ia,ys,e,e1,e2,e3,e4,e5⟩:=h
 exact ⟨a,ra,ia,ys,e,e1,e2,s.free e3,e4,e5⟩
def IsQ (s:Stp) (pl:Nat) (z:Str) (N:List It4) (q:MkI):Prop:=q.1.2.1=pl/\q.1.2.2.1=z/\q.2=N.filter (inT q.1.2.2.2.1 q.1.1)/\LQ s.sort (MT q.2) q.1.2.2.2.2
def Wj:Sp:=fun vs H Q _=>∃(p r:Addr) (s:Stp) (pl:Nat) (z:Str) (xs:List V) (N:List It4),vs=[.int (pl:Int),.ref p,.str z,.ref r]/\StA H p s/\s.tell=true/\EL s/\H r=some (.lst xs)/\BZ H xs N/\Tup N/\N.length≤100/\UG (E5 N) /\
 ∀H' l ys qs,AK H H'→H l=none→H' l=some (.lst ys)→Paired (MkA H H' s.nm) ys qs→(∀q∈qs,IsQ s pl z N q)→(∀b e,(b,e)∈qs.map wOf↔IH s (E5 N) b e)→((qs.map wOf).map (·.1)).Pairwise (· < ·)→qs.length≤2100→Q (.ref l) H'
theorem JY (T:Tx K mg ad):BM P w K mg base CX0 4 ad.BR ad.Bn ["place", "step", "key", "row"] Wj:=by
 have G_windows_of:=BA.mk (KH (P:=P) (w:=w) (base:=base) T) T.L6 T.Bh.kp T.MN
 have G_between:=BA.mk (Jb (P:=P) (w:=w) (base:=base) T) T.Kx T.Cg.kp T.LO
 have G_told_value:=BA.mk (KI (P:=P) (w:=w) (base:=base) T) T.L7 T.Bj.kp T.MO
 refine T.BU.ok FA (fun vs H Q E h=>?_) (fun cdv A outer s H vs Q E hr h=>?_)
 ·obtain ⟨p,r,s,pl,z,xs,N,rfl,_⟩:=h
  rfl
 ·obtain ⟨p,r,st,pl,z,xs,N,rfl,e,ht,ok,er,hw,tup,lN,tm,k⟩:=h
  have nd:=FA.nd
  refine ⟨_,(AJ (psl 4 nd (Ao AD))
    (AJ (BQ PassesOwn.never rfl (AY (K:=K) (AI G_windows_of hr (AA (pvC 1) (AA (pcm (AL DL) [] trivial (AY (K:=K) (pvC 3)) (fun _ _ _ _=>Bc) (fun _ _ _ _=>(Aj K (pvC 0) AB))) AD)))) (F8 rfl (A3 (pgn 5 nd) (A3 (pgn 6 nd) Eg)))
    (AJ (psl 7 nd (AI G_between hr (AA (pvC 3) (AA (pvC 5) (AA (pvC 6) AD)))))
    (AH (Bw (Br (pap K (pvC 4) (AA (Am (AA (pvC 6) (AA (pvC 0) (AA (pvC 2) (AA (pvC 5) (AA (Am (AA (Aj K (pvC 1) AB) (AA (pvC 2) (AA (pvC 5) (AA (pvC 6) (AA (AI G_told_value hr (AA (pvC 1) (AA (pvC 7) AD))) AD)))))) (AA (pvC 7) AD))))))) AD)))))))
    (AH (AQ (pvC 4))))),?_⟩
  have sz:sizeLine=16777216:=sizeLine_eq
  have lx:=(AN hw).1
  have lt:(E5 N).length=N.length:=List.length_map _
  refine fun _ _ _ _ z1=>⟨Nat.zero_le _,fun tl htl=>z1 _ _ ?_⟩
  refine An (o:=.lst []) htl fun H0 s0 et0=>?_
  refine fun _ _ _ _ z2=>⟨r,rfl,⟨_,SqL.of (s0 _ _ er)⟩,?_⟩
  have hw0:=BZ.keep hw s0.tp
  refine A5 (K:=K) (xs:=xs) (fun j τ acc H'=>(∃o,τ=[o])/\H'=H0/\acc=(E5 (N.take j)).map V.int) (by omega) ⟨⟨none,rfl⟩,rfl,rfl⟩ (fun j τ acc H' ⟨_,e,_⟩=>by rw [e];exact SqL.of (s0 _ _ er)) ?_ ?_
  ·rintro j y τ acc H1 R1 hy _ ⟨⟨o,rfl⟩,rfl,rfl⟩ k1
   obtain ⟨i,ei,a,q,rfl,ea,eq⟩:=hw0.ix hy
   refine ⟨_,_,SqT.of ea,AF (j:=0) rfl,k1 _ _ _ ⟨⟨_,rfl⟩,rfl,?_⟩⟩
   unfold E5
   rw [List.take_add_one,ei,List.map_append,List.map_append]
   rfl
  rintro τ acc H0' la ⟨_,rfl,rfl⟩ tm' htm'
  rw [lx,List.take_of_length_le (Nat.le_refl _)]
  have s1:=AK.Ay (o:=.lst ((E5 N).map V.int)) htm'
  have etm:(upd H0' tm' (.lst ((E5 N).map V.int))) tm'=some (.lst ((E5 N).map V.int)):=AE
  generalize upd H0' tm' (.lst ((E5 N).map V.int))=H1 at s1 etm ⊢
  have s01:=s0.trans s1
  refine ⟨p,tm',st,E5 N,rfl,s01 _ _ e,ht,ok,etm,by omega,tup,tm,fun H2 wl wx ws s2 hwl ewl hww upw memw lw=>?_⟩
  have s02:=s01.trans s2
  have nwt:wl≠tl:=(AM (s1 _ _ et0) hwl).symm
  refine ⟨wl,rfl,⟨_,SqL.of ewl⟩,BO (K:=K) (xs:=wx) (fun n σ H'=>∃(o5 o6 o7:Option V) (acc:List V) (qs:List MkI),σ=[some (.int (pl:Int)),some (.ref p),some (.str z),some (.ref r),some (.ref tl),o5,o6,o7]/\Fz tl H2 H'/\H' tl=some (.lst acc)/\Paired (MkA H0' H' st.nm) acc qs/\(∀q∈qs,IsQ st pl z N q)/\qs.map wOf=ws.take n)
   ⟨none,none,none,[],[],rfl,(AK.refl _).x _,s2 _ _ (s1 _ _ et0),.nil,(fun q hq=>by cases hq),rfl⟩ (fun n σ H' _ ⟨_,_,_,_,_,_,x',_⟩=>SqL.of (x' _ _ nwt ewl)) ?_ ?_⟩
  ·rintro n y σ H3 hy ⟨o5,o6,o7,acc,qs,rfl,x3,et3,pq,isq,eqw⟩
   have t23:Tp H2 H3:=fun b ys e=>x3 _ _ (fun q=>by rw [q,s2 _ _ (s1 _ _ et0)] at e;cases e) e
   obtain ⟨c,ks,rfl,ek,ec⟩:=hww.at hy
   rw [List.getElem?_map] at ek
   obtain ⟨⟨b,f⟩,ew,rfl⟩:=Option.map_eq_some_iff.mp ek
   have hn:n<ws.length:=(List.getElem?_eq_some_iff.mp ew).1
   have ec3:H3 c=some (.tup [.int b,.int f]):=t23 _ _ ec
   have wp:IH st (E5 N) b f:=(memw b f).mp (List.mem_of_getElem? ew)
   obtain ⟨t0,ht0,b1,b2⟩:=LS ok tm wp
   have lq:acc.length≤2100:=by
    rw [(AN pq).1]
    have:=congrArg List.length eqw
    rw [List.length_map,List.length_take] at this
    omega
   have er3:H3 r=some (.lst xs):=x3 _ _ (AM er htl) (s02 _ _ er)
   have e3:StA H3 p st:=t23 _ _ (s02 _ _ e)
   refine ⟨c,_,rfl,SqT.of ec3,rfl,_,_,rfl,_,_,rfl,rfl,?_⟩
   refine fun _ _ _ _ z3=>⟨r,xs,N,b,f,rfl,er3,BZ.keep hw (s02.tp.trans t23),tup,by omega,fun ia H4 ys s4 hia eia hwi=>z3 _ _ ?_⟩
   have ne:N.filter (inT b f)≠[]:=by
    obtain ⟨i,hi,rfl⟩:=List.mem_map.mp ht0
    exact List.ne_nil_of_mem (List.mem_filter.mpr ⟨hi,by unfold inT;exact decide_eq_true ⟨b1,b2⟩⟩)
   obtain ⟨w0,w1,w2⟩:=StA.word (K:=K) (s4 _ _ e3:StA H4 p st)
   have et4:=s4 _ _ et3
   refine fun _ _ _ _ z4=>⟨.inl ⟨rfl,_,SqL.of et4⟩,_,_,w0,w2,p,ia,st,ys,_,rfl,s4 _ _ e3,ht,ok,eia,hwi,ne,by have:=List.length_filter_le (inT b f) N;omega,fun v hv H5 s5=>⟨le1 rfl,fun ra hra=>?_⟩⟩
   refine An (o:=.tup [.str st.nm,.str z,.int b,.int f,.int v]) hra fun H6 s6 era=>?_
   refine ⟨le1 rfl,fun a ha=>?_⟩
   refine An (o:=.tup [.int f,.int (pl:Int),.str z,.int b,.ref ra,.ref ia]) ha fun H7 s7 ea=>?_
   have s47:=s5.trans (s6.trans s7)
   have s37:=s4.trans s47
   have et7:=s37 _ _ et3
   have tp8:Tp H7 (upd H7 tl (.lst (acc++[.ref a]))):=(Tp.refl H7).upd et7 fun xs=>by intro z;cases z
   have kl8:∀b ys,H0' b=none→H7 b=some (.lst ys)→(upd H7 tl (.lst (acc++[.ref a]))) b=some (.lst ys):=fun b ys nb e=>by
    rw [AO (fun q=>by rw [q,et0] at nb;cases nb)]
    exact e
   have hia0:H0' ia=none:=by
    cases hq:H0' ia with
    | none=>rfl
    | some o =>
     by_cases q:ia=tl
     ·rw [q,et3] at hia;cases hia
     ·have:=x3 _ _ q ((s1.trans s2) _ _ hq)
      rw [hia] at this
      cases this
   refine ⟨tl,_,_,rfl,rfl,et7,by omega,z4 _ _ ⟨_,_,_,acc++[.ref a],qs++[((f,pl,z,b,v),N.filter (inT b f))],rfl,(fun b o nb e=>by rw [AO nb];exact s37 _ _ (x3 b o nb e)),AE,?_,fun q hq=>?_,?_⟩⟩
   ·exact AW (AV (fun x q h=>(h.same s37).keep kl8 tp8) pq) (.cons ⟨a,ra,ia,ys,rfl,tp8 _ _ ea,tp8 _ _ (s7 _ _ era),hia0,kl8 _ _ hia0 (s47 _ _ eia),BZ.keep (BZ.keep hwi s47.tp) tp8⟩ .nil)
   ·rcases List.mem_append.mp hq with h|h
    ·exact isq q h
    ·rw [List.mem_singleton.mp h]
     exact ⟨rfl,rfl,rfl,hv⟩
   ·rw [List.map_append,eqw,List.take_add_one,ew]
    rfl
  ·rintro σ H3 ⟨o5,o6,o7,acc,qs,rfl,x3,et3,pq,isq,eqw⟩
   have lwx:wx.length=ws.length:=by rw [hww.len,List.length_map]
   rw [lwx,List.take_of_length_le (Nat.le_refl _)] at eqw
   have S3:AK H H3:=fun b o e=>x3 _ _ (AM e htl) (s02 _ _ e)
   refine z2 _ _ (k H3 tl acc qs S3 htl et3 (AV (fun x q h=>h.back s0) pq) isq ?_ ?_ ?_)
   ·rw [eqw];exact memw
   ·rw [eqw];exact upw
   ·have:=congrArg List.length eqw
    rw [List.length_map] at this
    omega
def OD (S:List It4) (z:Str):List It4:=S.filter fun i=>decide (i.1.2.1=z)
def k4K (q:MkI):List Key:=[.inl q.1.1,.inl (q.1.2.1:Int),.inr q.1.2.2.1,.inl q.1.2.2.2.1]
def IsM (ss:List Stp) (L:Str→List It4) (q:MkI):Prop:=∃s f,ss[q.1.2.1]?=some s/\s.tell=true/\s.As=[f]/\IH s (E5 (OD (L f) q.1.2.2.1)) q.1.2.2.2.1 q.1.1/\q.2.Perm ((OD (L f) q.1.2.2.1).filter (inT q.1.2.2.2.1 q.1.1))/\LQ s.sort (MT q.2) q.1.2.2.2.2
structure TI (ss:List Stp) (L:Str→List It4) (Dn:Nat→Str→Prop) (qs:List MkI):Prop where
 is:∀q∈qs,IsM ss L q/\Dn q.1.2.1 q.1.2.2.1
 all:∀pl s f z b e,Dn pl z→ss[pl]?=some s→s.tell=true→s.As=[f]→IH s (E5 (OD (L f) z)) b e→∃q∈qs,q.1.2.1=pl/\q.1.2.2.1=z/\wOf q=(b,e)
 ap:(qs.map k4K).Nodup
theorem Qq {s:Stp}{ts ts':List Int}{b e:Int}(h:∀t,t∈ts↔t∈ts'):IH s ts b e↔IH s ts' b e:=by
 cases s with
 | each n a so z d =>
  show (_/\∃t∈ts,_)↔(_/\∃t∈ts',_)
  simp only [h]
 | gap n a so m =>
  show (∃l,_/\Qo m ts b l)↔∃l,_/\Qo m ts' b l
  unfold Qo
  simp only [h]
 | take n k=>exact Iff.rfl
 | only n a lo hi=>exact Iff.rfl
 | turn n a f g=>exact Iff.rfl
 | both n a b=>exact Iff.rfl
 | join n a b wi=>exact Iff.rfl
theorem TI.imp {ss:List Stp}{L:Str→List It4}{Dn Dn':Nat→Str→Prop}{qs:List MkI}(h:TI ss L Dn qs) (h1:∀pl z,Dn pl z→Dn' pl z) (h2:∀pl s f z b e,Dn' pl z→ss[pl]?=some s→s.tell=true→s.As=[f]→IH s (E5 (OD (L f) z)) b e→Dn pl z):TI ss L Dn' qs :=
 ⟨fun q hq=>⟨(h.is q hq).1,h1 _ _ (h.is q hq).2⟩,fun pl s f z b e d es ht hf w=>h.all pl s f z b e (h2 pl s f z b e d es ht hf w) es ht hf w,h.ap⟩
theorem TI.add {ss:List Stp}{L:Str→List It4}{Dn:Nat→Str→Prop}{qs qs2:List MkI}{pl:Nat}{s:Stp}{f z:Str}{N:List It4}(h:TI ss L Dn qs) (new:¬ Dn pl z) (es:ss[pl]?=some s) (ht:s.tell=true) (hf:s.As=[f]) (p:N.Perm (OD (L f) z))
  (isq:∀q∈qs2,IsQ s pl z N q) (mem:∀b e,(b,e)∈qs2.map wOf↔IH s (E5 N) b e) (up:((qs2.map wOf).map (·.1)).Pairwise (· < ·)):TI ss L (fun a b=>Dn a b\/(a=pl/\b=z)) (qs++qs2):=by
 have wn:∀b e,IH s (E5 N) b e↔IH s (E5 (OD (L f) z)) b e:=fun b e=>Qq fun t=>(p.map _).mem_iff
 refine ⟨fun q hq=>?_,fun pl' s' f' z' b e d es' ht' hf' w=>?_,?_⟩
 ·rcases List.mem_append.mp hq with hq|hq
  ·exact ⟨(h.is q hq).1,.inl (h.is q hq).2⟩
  ·obtain ⟨e1,e2,e3,e4⟩:=isq q hq
   refine ⟨⟨s,f,by rw [e1];exact es,ht,hf,?_,?_,e4⟩,.inr ⟨e1,e2⟩⟩
   ·rw [e2,←wn,←mem]
    exact List.mem_map.mpr ⟨q,hq,rfl⟩
   ·rw [e3,e2]
    exact p.filter _
 ·by_cases q:pl'=pl/\z'=z
  ·obtain ⟨rfl,rfl⟩:=q
   rw [es] at es'
   cases es'
   rw [hf] at hf'
   cases hf'
   obtain ⟨q,hq,e⟩:=List.mem_map.mp ((mem b e).mpr ((wn b e).mpr w))
   obtain ⟨e1,e2,_⟩:=isq q hq
   exact ⟨q,List.mem_append_right _ hq,e1,e2,e⟩
  ·obtain ⟨q,hq,r⟩:=h.all pl' s' f' z' b e (d.resolve_right q) es' ht' hf' w
   exact ⟨q,List.mem_append_left _ hq,r⟩
 ·rw [List.map_append]
  refine List.nodup_append.mpr ⟨h.ap,?_,fun a ha b hb e=>?_⟩
  ·have u:qs2.Pairwise fun a b=>(wOf a).1<(wOf b).1:=by
    rw [List.map_map] at up
    exact List.pairwise_map.mp up
   refine List.pairwise_map.mpr (u.imp fun {a b} h e=>?_)
   have:(wOf a).1=(wOf b).1:=Sum.inl.inj (List.cons.inj (List.cons.inj (List.cons.inj (List.cons.inj e).2).2).2).1
   omega
  ·subst e
   obtain ⟨x,hx,rfl⟩:=List.mem_map.mp ha
   obtain ⟨y,hy,e⟩:=List.mem_map.mp hb
   obtain ⟨e1,e2,_⟩:=isq y hy
   have d1:(y.1.2.1:Int)=(x.1.2.1:Int):=Sum.inl.inj (List.cons.inj (List.cons.inj e).2).1
   have d2:y.1.2.2.1=x.1.2.2.1:=Sum.inr.inj (List.cons.inj (List.cons.inj (List.cons.inj e).2).2).1
   have d3:x.1.2.1=pl:=by omega
   have d4:x.1.2.2.1=z:=by rw [←d2];exact e2
   have:=(h.is x hx).2
   rw [d3,d4] at this
   exact new this
def MkN (ss:List Stp) (H0 H:Hp) (x:V) (q:MkI):Prop:=∃s,ss[q.1.2.1]?=some s/\MkA H0 H s.nm x q
theorem MkN.keep {ss:List Stp}{H0 H H':Hp}{x:V}{q:MkI}(h:MkN ss H0 H x q) (kl:∀b ys,H0 b=none→H b=some (.lst ys)→H' b=some (.lst ys)) (t:Tp H H'):MkN ss H0 H' x q:=let ⟨s,e,h⟩:=h;⟨s,e,h.keep kl t⟩
theorem MkN.same {ss:List Stp}{H0 H H':Hp}{x:V}{q:MkI}(h:MkN ss H0 H x q) (s:AK H H'):MkN ss H0 H' x q:=h.keep (fun b ys _ e=>s _ _ e) s.tp
theorem MkN.back {ss:List Stp}{G H0 H:Hp}{x:V}{q:MkI}(h:MkN ss H0 H x q) (s:AK G H0):MkN ss G H x q:=let ⟨t,e,h⟩:=h;⟨t,e,h.back s⟩
theorem MkA.free {G H0 H:Hp}{nm:Str}{x:V}{q:MkI}(h:MkA H0 H nm x q) (s:∀b,H0 b=none→G b=none):MkA G H nm x q:=by
 obtain ⟨a,ra,ia,ys,e,e1,e2,e3,e4,e5⟩:=h
 exact ⟨a,ra,ia,ys,e,e1,e2,s _ e3,e4,e5⟩
theorem M9 {ss:List Stp}{H0 H:Hp}{xs:List V}{qs:List MkI}(h:Paired (MkN ss H0 H) xs qs) (nd:(qs.map k4K).Nodup):∃ds:List Dn,ds.map Cu=qs.map k4K/\HC K H xs ds [true,true,false,true]:=by
 have key:∀{xs:List V} {qs:List MkI},Paired (MkN ss H0 H) xs qs→∃ds:List Dn,ds.map Cu=qs.map k4K/\ds.map (·.1)=qs.map k4K/\Paired (fun x (d:Dn)=>(∃a,x=.ref a/\SqT K H a (d.1.map kV++d.2.1.map V.ref))/\d.1.map isI=[true,true,false,true]) xs ds:=by
  intro xs qs h
  induction h with
  | nil=>exact ⟨[],rfl,rfl,.nil⟩
  | cons h1 _ ih =>
   obtain ⟨ds,e,e',p⟩:=ih
   rename_i x q _ _ _
   obtain ⟨s,_,a,ra,ia,ys,ea,e1,_⟩:=h1
   exact ⟨(k4K q,[ra,ia],[])::ds,by rw [List.map_cons,List.map_cons,e];rfl,by rw [List.map_cons,List.map_cons,e'],.cons ⟨⟨a,ea,SqT.of e1⟩,rfl⟩ p⟩
 obtain ⟨ds,e,e',p⟩:=key h
 refine ⟨ds,e,by decide,p,fun i j d d' e1 e2 eq=>.inl ?_⟩
 have hi:(ds.map (·.1))[i]?=some d.1:=by rw [List.getElem?_map,e1];rfl
 have hj:(ds.map (·.1))[j]?=some d'.1:=by rw [List.getElem?_map,e2];rfl
 rw [e'] at hi hj
 obtain ⟨h1,g1⟩:=List.getElem?_eq_some_iff.mp hi
 obtain ⟨h2,g2⟩:=List.getElem?_eq_some_iff.mp hj
 have ij:i=j:=(List.getElem_inj nd).mp (by rw [g1,g2,eq])
 subst ij
 rw [e1] at e2
 cases e2
 exact ⟨rfl,rfl⟩
theorem M7 {ss:List Stp}{i:Nat}:i∈Ii ss↔∃s,ss[i]?=some s/\s.tell=true:=by
 unfold Ii
 rw [List.mem_filter,List.mem_range]
 unfold Ij
 constructor
 ·rintro ⟨h,q⟩
  rw [List.getElem?_eq_getElem h] at q
  exact ⟨_,List.getElem?_eq_getElem h,q⟩
 ·rintro ⟨s,e,q⟩
  rw [e]
  exact ⟨(List.getElem?_eq_some_iff.mp e).1,q⟩
structure Pr (ss:List Stp) (L:Str→List It4) (evs:List Ev):Prop where
 ok:FV ss
 len:ss.length≤20
 el:evs.length≤20
 hL:∀s∈ss,L s.nm=Cw s L evs/\(L s.nm).length≤100
 tel:∀s∈ss,EL s
 tm:∀e∈evs,0≤e.1/\e.1≤2000000000
theorem Ff {k:Str}{evs:List Ev}{x:It4}(h:x∈D5 k evs):∃(n:Nat) (e:Ev),evs[n]?=some e/\e.2.1=k/\x=(evI e,[(n:Int)]):=by
 obtain ⟨⟨e,n⟩,hp,hx⟩:=List.mem_flatMap.mp h
 obtain ⟨y,hy,rfl⟩:=List.mem_map.mp hx
 refine ⟨n,e,List.mem_zipIdx_iff_getElem?.mp hp,?_⟩
 have hy:y∈Cs k e:=hy
 unfold Cs at hy
 split at hy
 ·rename_i q
  rw [List.mem_singleton.mp hy]
  exact ⟨q,rfl⟩
 ·cases hy
theorem Pr.times {ss:List Stp}{L:Str→List It4}{evs:List Ev}(h:Pr ss L evs):∀s∈ss,UG (E5 (L s.nm)):=by
 have key:∀s∈ss,∀i∈L s.nm,0≤i.1.1/\i.1.1≤2000000000:=JM (R:=fun a=>∀i∈L a,0≤i.1.1/\i.1.1≤2000000000) h.ok fun s hs q i hi=>by
  rw [(h.hL s hs).1] at hi
  cases s with
  | take n k =>
   obtain ⟨n,e,en,_,rfl⟩:=Ff hi
   exact h.tm e (List.mem_of_getElem? en)
  | only n a lo hi'=>exact q a (.head _) i (List.mem_filter.mp hi).1
  | turn n a f g =>
   obtain ⟨j,hj,rfl⟩:=List.mem_map.mp hi
   exact q a (.head _) j hj
  | both n a b =>
   rcases List.mem_append.mp hi with hi|hi
   ·exact q a (.head _) i hi
   ·exact q b (.tail _ (.head _)) i hi
  | join n a b wi =>
   obtain ⟨x,hx,y,hy,_,rfl⟩:=GC.mp hi
   have h1:=q a (.head _) x hx
   have h2:=q b (.tail _ (.head _)) y hy
   show 0≤mx x.1.1 y.1.1/\mx x.1.1 y.1.1≤2000000000
   unfold mx
   split <;> omega
  | gap n a s m=>exact q a (.head _) i hi
  | each n a s z d=>exact q a (.head _) i hi
 intro s hs t ht
 obtain ⟨i,hi,rfl⟩:=List.mem_map.mp ht
 exact key s hs i hi
theorem MZ {α:Type}{l:List α}(nd:l.Nodup) {n:Nat}{x:α}(e:l[n]?=some x):x∉l.take n:=fun hm=>by
 obtain ⟨i,hi,q⟩:=List.mem_iff_getElem.mp hm
 rw [List.length_take] at hi
 rw [List.getElem_take] at q
 obtain ⟨h1,g1⟩:=List.getElem?_eq_some_iff.mp e
 have:=(List.getElem_inj (h₀:=by omega) (h₁:=h1) nd).mp (q.trans g1.symm)
 omega
def Ui:Sp:=fun vs H Q _=>∃(lp le:Addr) (ps:List V) (ss:List Stp) (evs:List Ev) (L:Str→List It4),vs=[.ref lp,.ref le]/\H lp=some (.lst ps)/\Ba H ps ss/\IJ H le evs/\Pr ss L evs /\
 ∀H' l ys qs,AK H H'→H l=none→H' l=some (.lst ys)→Paired (MkN ss H H') ys qs→TI ss L (fun _ _=>True) qs→(qs.map k4K).Pairwise (fun a b=>A4 b a=false)→qs.length≤4200000→Q (.ref l) H'
theorem GA (T:Tx K mg ad):BM P w K mg base CX0 5 ad.C6 ad.Di ["plan", "events"] Ui:=by
 have G_streams_of:=BA.mk (N4 (P:=P) (w:=w) (base:=base) T) T.L8 T.Bk.kp T.MP
 have G_tellers:=BA.mk (N3 (P:=P) (w:=w) (base:=base) T) T.QD T.DG.kp T.Qi
 have G_by_keys:=BA.mk (Ja (P:=P) (w:=w) (base:=base) T) T.Kw T.Cf.kp T.LN
 have G_told_of_key:=BA.mk (JY (P:=P) (w:=w) (base:=base) T) T.KL T.BU.kp T.KR
 refine T.CH.ok Iv (fun vs H Q E h=>?_) (fun cdv A outer s H vs Q E hr h=>?_)
 ·obtain ⟨lp,le,ps,ss,evs,L,rfl,_⟩:=h
  rfl
 ·obtain ⟨lp,le,ps,ss,evs,L,rfl,elp,pr,ev,ok,k⟩:=h
  have nd:=Iv.nd
  refine ⟨_,(AJ (psl 2 nd (AI G_streams_of hr (AA (pvC 0) (AA (pvC 1) AD))))
    (AJ (psl 3 nd (Ao AD))
    (AJ (BQ PassesOwn.never rfl (AY (K:=K) (AI G_tellers hr (AA (pvC 0) AD))) (pgn 4 nd)
    (AJ (psl 5 nd (AI G_by_keys hr (AA (EB hr.u1 (pvC 2) (Aj K (BX K (pvC 0) (pvC 4)) AB) (fun _ _=>rfl)) AD)))
    (AH (Bw (BQ PassesOwn.never rfl (Rf (pvC 5)) (pgn 6 nd)
    (AH (Bw (Br (JR (K:=K) F.plainAttrs_list F.slot_list_extend F.type_list_extend HU (pvC 3) (AA (AI G_told_of_key hr (AA (pvC 4) (AA (BX K (pvC 0) (pvC 4)) (AA (pvC 6) (AA (EB hr.u1 (pvC 5) (pvC 6) (fun _ _=>rfl)) AD))))) AD))))))))))
    (AH (AQ (AU (Gz (K:=K) hr) (by rfl) T.CN PyProof.Rows.boot_sorted (AA (pvC 3) AD))))))),?_⟩
  have sz:sizeLine=16777216:=sizeLine_eq
  have lss:=ok.len
  have ndT:(Ii ss).Nodup:=List.nodup_range.sublist List.filter_sublist
  have lT:(Ii ss).length≤20:=Nat.le_trans (List.length_filter_le _ _) (by rw [List.length_range];exact lss)
  refine fun _ _ _ _ z1=>⟨lp,le,ps,ss,evs,L,rfl,elp,pr,ok.ok,by omega,ev,ok.el,(fun s hs=>⟨(ok.hL s hs).1,by have:=(ok.hL s hs).2;omega⟩),fun d H1 kvs s1 hd ed hold=>z1 _ _ ?_⟩
  refine fun _ _ _ _ z2=>⟨Nat.zero_le _,fun tl htl=>z2 _ _ ?_⟩
  refine An (o:=.lst []) htl fun H2 s2 et2=>?_
  have s02:=s1.trans s2
  refine fun _ _ _ _ z3=>⟨lp,ps,ss,rfl,s02 _ _ elp,pr.keep s02.tp,by omega,fun H3 tp s3 htp etp=>⟨tp,rfl,⟨_,SqL.of etp⟩,?_⟩⟩
  have ntt:tp≠tl:=(AM et2 htp).symm
  refine BO (K:=K) (xs:=(Ii ss).map fun i:Nat=>V.int (i:Int)) (fun n σ H'=>∃(o4 o5 o6:Option V) (acc:List V) (qs:List MkI),σ=[some (.ref lp),some (.ref le),some (.ref d),some (.ref tl),o4,o5,o6]/\Fz tl H3 H'/\H' tl=some (.lst acc)/\Paired (MkN ss H2 H') acc qs/\TI ss L (fun a _=>a∈(Ii ss).take n) qs/\qs.length≤210000 * n)
   ⟨none,none,none,[],[],rfl,(AK.refl _).x _,s3 _ _ et2,.nil,⟨fun q hq=>(by cases hq),fun pl s f z b e dn=>(by cases dn),.nil⟩,Nat.zero_le _⟩ (fun n σ H' _ ⟨_,_,_,_,_,_,x',_⟩=>SqL.of (x' _ _ ntt etp)) ?_ ?_
  ·rintro n y σ H4 hy ⟨o4,o5,o6,acc,qs,rfl,x4,et4,pq,ti,lq⟩
   rw [List.getElem?_map] at hy
   obtain ⟨i,hi,rfl⟩:=Option.map_eq_some_iff.mp hy
   have hn:n<(Ii ss).length:=(List.getElem?_eq_some_iff.mp hi).1
   obtain ⟨st,es,ht⟩:=M7.mp (List.mem_of_getElem? hi)
   have x14:∀b o,H1 b=some o→H4 b=some o:=fun b o e=>x4 _ _ (AM e htl) (s3 _ _ (s2 _ _ e))
   have s14:AK H1 H4:=x14
   have s04:=s1.trans s14
   obtain ⟨a,epi,ea⟩:∃a,ps[i]?=some (.ref a)/\StA H a st:=by
    obtain ⟨lpq,f⟩:=AN pr
    have h1:=(List.getElem?_eq_some_iff.mp es).1
    have e1:=List.getElem?_eq_getElem (show i<ps.length by omega)
    obtain ⟨a,e2,e3⟩:=f i _ _ e1 es
    exact ⟨a,by rw [e1,e2],e3⟩
   obtain ⟨_,f,hf,e2⟩:=StA.sort (H:=H) (p:=a) ht
   obtain ⟨i',s',li,ei',rfl,_⟩:=ok.ok.fed i st f es (by rw [hf];exact .head _)
   have ms':=List.mem_of_getElem? ei'
   obtain ⟨r,M,v1,v2,v3⟩:=(hold s' ms').same s14
   have lM:M.length≤100:=by rw [v3.length_eq];exact (ok.hL s' ms').2
   have tmL:=ok.times s' ms'
   have okS:=ok.tel st (List.mem_of_getElem? es)
   have ati:atI ps (i:Int)=some (.ref a):=AF epi
   refine fun _ _ _ _ z4=>⟨_,_,SqL.of (s04 _ _ elp),ati,_,_,SqT.of (s04 _ _ ea),e2,d,.ref r,rfl,by rw [←v1];exact IK.k (k:=.inr s'.nm) (s14 _ _ ed),r,M,rfl,v2,by omega,fun dd H5 M' kv5 s5 hdd pM tM rb=>z4 _ _ ?_⟩
   have pL:M'.Perm (L s'.nm):=pM.trans v3
   have lM':M'.length≤100:=by rw [pM.length_eq];exact lM
   have lkv:=rb.len
   have ntd:tl≠dd:=AM et4 hdd
   refine fun _ _ _ _ z5=>⟨dd,kv5,rfl,.inl rb.dict,fun o H6 e6 ne6=>?_⟩
   have kl6:∀b ys,H5 b=some (.lst ys)→H6 b=some (.lst ys):=fun b ys e=>by rw [ne6 b (fun q=>by rw [q,rb.dict] at e;cases e)];exact e
   have tp6:Tp H5 H6:=fun b ys e=>by rw [ne6 b (fun q=>by rw [q,rb.dict] at e;cases e)];exact e
   refine QP (fun m σ G=>∃(o6:Option V) (acc:List V) (qs:List MkI),σ=[some (.ref lp),some (.ref le),some (.ref d),some (.ref tl),some (.int (i:Int)),some (.ref dd),o6]/\(∀b o',b≠tl→b≠dd→H5 b=some o'→G b=some o')/\G dd=some (.frz o (.dK kv5))/\G tl=some (.lst acc)/\Paired (MkN ss H2 G) acc qs/\TI ss L (fun a z=>a∈(Ii ss).take n\/(a=i/\(Sum.inr z:Key)∈(kv5.take m).map (·.1))) qs/\qs.length≤210000 * n+2100 * m)
    ⟨_,acc,qs,rfl,(fun b o' _ nb e=>by rw [ne6 b nb];exact e),e6,kl6 _ _ (s5 _ _ et4),AV (fun x q h=>(h.same s5).keep (fun b ys _ e=>kl6 b ys e) tp6) pq,ti.imp (fun a z h=>.inl h) (fun pl s f z b e h _ _ _ _=>by simpa using h),by omega⟩ (fun m σ G _ ⟨_,_,_,_,_,e,_⟩=>e) ?_ ?_
   ·rintro m ⟨pk,pv⟩ σ G hp ⟨o6,acc,qs,rfl,xG,eG,etG,pq,ti,lq⟩
    have hm:m<kv5.length:=(List.getElem?_eq_some_iff.mp hp).1
    have mp:=List.mem_of_getElem? hp
    obtain ⟨z,r,xs,e,er,hw⟩:=rb.row _ mp
    cases e
    have t5G:Tp H5 G:=fun b ys e=>xG _ _ (fun q=>by rw [q,s5 _ _ et4] at e;cases e) (fun q=>by rw [q,rb.dict] at e;cases e) e
    have l5G:∀b ys,b≠tl→H5 b=some (.lst ys)→G b=some (.lst ys):=fun b ys nb e=>xG _ _ nb (fun q=>by rw [q,rb.dict] at e;cases e) e
    have ntr:r≠tl:=fun q=>by
     have:=rb.new z r mp
     rw [q,et4] at this
     cases this
    have elpG:G lp=some (.lst ps):=l5G _ _ (AM (s1 _ _ elp) htl) ((s04.trans s5) _ _ elp)
    have hv:BL kv5 (.inr z)=some (.ref r):=Kb rb.nd mp
    have pN:(M'.filter fun i=>decide (i.1.2.1=z)).Perm (OD (L s'.nm) z):=pL.filter _
    have lN:(M'.filter fun i=>decide (i.1.2.1=z)).length≤100:=Nat.le_trans (List.length_filter_le _ _) lM'
    refine fun _ _ _ _ z6=>⟨.inl ⟨rfl,_,SqL.of etG⟩,_,_,SqL.of elpG,ati,dd,.ref r,rfl,by rw [←hv];exact .inl ⟨kv5,.inr z,.inr ⟨o,eG⟩,rfl,rfl⟩,a,r,st,i,z,xs,_,rfl,t5G _ _ (s5 _ _ (s04 _ _ ea)),ht,okS,l5G _ _ ntr er,BZ.keep hw t5G,tM.filter _,lN,(fun t h=>?_),fun H7 l2 ys2 qs2 s7 hl2 el2 pq2 isq2 mem2 up2 lq2=>?_⟩
    ·refine tmL t ?_
     obtain ⟨j,hj,rfl⟩:=List.mem_map.mp h
     exact List.mem_map.mpr ⟨j,pL.mem_iff.mp (List.mem_filter.mp hj).1,rfl⟩
    ·have et7:=s7 _ _ etG
     have tp8:Tp H7 (upd H7 tl (.lst (acc++ys2))):=(Tp.refl H7).upd et7 fun xs=>by intro z;cases z
     have kl8:∀b ys,H2 b=none→H7 b=some (.lst ys)→(upd H7 tl (.lst (acc++ys2))) b=some (.lst ys):=fun b ys nb e=>by
      rw [AO (fun q=>by rw [q,et2] at nb;cases nb)]
      exact e
     have fr:∀b,G b=none→H2 b=none:=fun b nb=>by
      cases q:H2 b with
      | none=>rfl
      | some o' =>
       by_cases e1:b=tl
       ·rw [e1,etG] at nb;cases nb
       ·by_cases e2:b=dd
        ·rw [e2,eG] at nb;cases nb
        ·have:=xG b o' e1 e2 (s5 _ _ (x4 _ _ e1 (s3 _ _ q)))
         rw [nb] at this
         cases this
     have la:acc.length=qs.length:=(AN pq).1
     have la2:ys2.length=qs2.length:=(AN pq2).1
     have new:¬ (i∈(Ii ss).take n\/(i=i/\(Sum.inr z:Key)∈(kv5.take m).map (·.1))):=fun h=>by
      rcases h with h|⟨_,h⟩
      ·exact MZ ndT hi h
      ·rw [List.map_take] at h
       exact MZ rb.nd (by rw [List.getElem?_map,hp];rfl) h
     have lq':qs.length+qs2.length≤210000 * n+2100 * (m+1):=by omega
     refine ⟨tl,l2,_,_,rfl,rfl,et7,el2,by omega,z6 _ _ ⟨_,acc++ys2,qs++qs2,rfl,(fun b o' n1 n2 e=>by rw [AO n1];exact s7 _ _ (xG b o' n1 n2 e)),by rw [AO ntd.symm];exact s7 _ _ eG,AE,?_,?_,by rw [List.length_append];exact lq'⟩⟩
     ·refine AW (AV (fun x q h=>(h.same s7).keep kl8 tp8) pq) ?_
      have:∀{ys:List V} {rs:List MkI},Paired (MkA G H7 st.nm) ys rs→(∀q∈rs,IsQ st i z (M'.filter fun i=>decide (i.1.2.1=z)) q)→Paired (MkN ss H2 (upd H7 tl (.lst (acc++ys2)))) ys rs:=fun h=>by
       induction h with
       | nil=>exact fun _=>.nil
       | cons h1 _ ih=>exact fun g=>.cons ⟨st,by rw [(g _ (.head _)).1];exact es,(h1.free fr).keep kl8 tp8⟩ (ih fun q hq=>g q (.tail _ hq))
      exact this pq2 isq2
     ·refine (ti.add new es ht hf pN isq2 mem2 up2).imp (fun a x h=>?_) fun pl s f x b e h _ _ _ _=>?_
      ·rcases h with (h|⟨rfl,h⟩)|⟨rfl,rfl⟩
       ·exact .inl h
       ·exact .inr ⟨rfl,by rw [List.take_add_one,List.map_append];exact List.mem_append_left _ h⟩
       ·exact .inr ⟨rfl,by rw [List.take_add_one,hp,List.map_append];exact List.mem_append_right _ (.head _)⟩
      ·rcases h with h|⟨rfl,h⟩
       ·exact .inl (.inl h)
       ·rw [List.take_add_one,hp,List.map_append] at h
        rcases List.mem_append.mp h with h|h
        ·exact .inl (.inr ⟨rfl,h⟩)
        ·exact .inr ⟨rfl,Sum.inr.inj (List.mem_singleton.mp h)⟩
   ·rintro σ G ⟨o6,acc,qs,rfl,xG,eG,etG,pq,ti,lq⟩
    refine z5 _ _ ⟨_,_,_,acc,qs,rfl,(fun b o' nb e=>xG b o' nb (fun q=>by rw [q] at e;have:=x4 _ _ ntd.symm e;rw [hdd] at this;cases this) (s5 _ _ (x4 b o' nb e))),etG,pq,ti.imp (fun a x h=>?_) (fun pl s f x b e h es' ht' hf' wn=>?_),by omega⟩
    ·rcases h with h|⟨rfl,_⟩
     ·exact (A8 hi a).mpr (.inl h)
     ·exact (A8 hi a).mpr (.inr rfl)
    ·rcases (A8 hi pl).mp h with h|rfl
     ·exact .inl h
     ·rw [es] at es'
      cases es'
      rw [hf] at hf'
      cases hf'
      obtain ⟨t,ht0,_⟩:=LS okS (fun t h=>tmL t (by
       obtain ⟨j,hj,rfl⟩:=List.mem_map.mp h
       exact List.mem_map.mpr ⟨j,(List.mem_filter.mp hj).1,rfl⟩)) wn
      obtain ⟨j,hj,rfl⟩:=List.mem_map.mp ht0
      obtain ⟨j1,j2⟩:=List.mem_filter.mp hj
      have:=rb.all j (pL.mem_iff.mpr j1)
      rw [of_decide_eq_true j2] at this
      exact .inr ⟨rfl,by rw [List.take_of_length_le (Nat.le_refl _)];exact this⟩
  ·rintro σ H4 ⟨o4,o5,o6,acc,qs,rfl,x4,et4,pq,ti,lq⟩
   rw [List.length_map,List.take_of_length_le (Nat.le_refl _)] at ti
   rw [List.length_map] at lq
   obtain ⟨ds,eds,so⟩:=M9 (K:=K) pq ti.ap
   refine z3 _ _ ⟨tl,acc,ds,_,rfl,SqL.of et4,so,fun sl qv hsl pv sv=>?_⟩
   rw [eds] at pv
   obtain ⟨qs2,p2,pq2,ek⟩:=Fv pq pv
   rw [←ek] at sv
   have s5:=AK.Ay (o:=.lst (qv.map (·.1))) hsl
   have S4:AK H H4:=fun b o e=>x4 _ _ (AM (s1 _ _ e) htl) ((s02.trans s3) _ _ e)
   refine k _ sl _ qs2 (S4.trans s5) (S4.free hsl) AE (AV (fun x q h=>(h.same s5).back s02) pq2) ?_ sv (by rw [p2.length_eq];omega)
   refine ⟨fun q hq=>⟨(ti.is q (p2.mem_iff.mp hq)).1,trivial⟩,fun pl s f z b e _ es ht hf wn=>?_,(p2.map k4K).nodup_iff.mpr ti.ap⟩
   obtain ⟨q,hq,r⟩:=ti.all pl s f z b e (M7.mpr ⟨s,es,ht⟩) es ht hf wn
   exact ⟨q,p2.mem_iff.mpr hq,r⟩
def nmF (ss:List Stp) (pl:Nat):Str:=match ss[pl]? with|some s=>s.nm|none => ""
def Ck (ss:List Stp) (q:MkI):List Key:=[.inr (nmF ss q.1.2.1),.inr q.1.2.2.1,.inl q.1.2.2.2.1,.inl q.1.1,.inl q.1.2.2.2.2]
theorem MkN.parts {ss:List Stp}{H0 H:Hp}{x:V}{q:MkI}(h:MkN ss H0 H x q):∃(a ra ia:Addr) (ys:List V),x=.ref a/\H a=some (.tup [.int q.1.1,.int (q.1.2.1:Int),.str q.1.2.2.1,.int q.1.2.2.2.1,.ref ra,.ref ia])/\H ra=some (.tup ((Ck ss q).map kV))/\H ia=some (.lst ys)/\BZ H ys q.2:=by
 obtain ⟨s,e,a,ra,ia,ys,e0,e1,e2,_,e4,e5⟩:=h
 refine ⟨a,ra,ia,ys,e0,e1,?_,e4,e5⟩
 have:nmF ss q.1.2.1=s.nm:=by unfold nmF;rw [e]
 unfold Ck
 rw [this]
 exact e2
theorem Jj {ss:List Stp}{H0 H:Hp}{xs:List V}{qs:List MkI}(h:Paired (MkN ss H0 H) xs qs) {i:Nat}{x:V}(e:xs[i]?=some x):∃q,qs[i]?=some q/\MkN ss H0 H x q:=by
 obtain ⟨l,f⟩:=AN h
 have hi:=(List.getElem?_eq_some_iff.mp e).1
 have e2:=List.getElem?_eq_getElem (show i<qs.length by omega)
 exact ⟨_,e2,f i x _ e e2⟩
def Uo:Sp:=fun vs H Q _=>∃(lp le:Addr) (ps:List V) (ss:List Stp) (evs:List Ev) (L:Str→List It4),vs=[.ref lp,.ref le]/\H lp=some (.lst ps)/\Ba H ps ss/\IJ H le evs/\Pr ss L evs /\
 ∀H' l ys qs,AK H H'→H l=none→H' l=some (.lst ys)→Rws H' ys (qs.map (Ck ss))→TI ss L (fun _ _=>True) qs→(qs.map k4K).Pairwise (fun a b=>A4 b a=false)→qs.length≤4200000→Q (.ref l) H'
theorem L0 (T:Tx K mg ad):BM P w K mg base CX0 6 ad.Bx ad.Ca ["plan", "events"] Uo:=by
 have G_told_of:=BA.mk (GA (P:=P) (w:=w) (base:=base) T) T.HX T.CH.kp T.Hk
 refine T.B7.ok GQ (fun vs H Q E h=>?_) (fun cdv A outer s H vs Q E hr h=>?_)
 ·obtain ⟨lp,le,ps,ss,evs,L,rfl,_⟩:=h
  rfl
 ·obtain ⟨lp,le,ps,ss,evs,L,rfl,elp,pr,ev,ok,k⟩:=h
  have nd:=GQ.nd
  refine ⟨_,(AH (AQ (pcm (AL D7) [] trivial (AY (K:=K) (AI G_told_of hr (AA (pvC 0) (AA (pvC 1) AD)))) (fun _ _ _ _=>Bc) (fun _ _ _ _=>(Aj K (pvC 0) AB))))),?_⟩
  have sz:sizeLine=16777216:=sizeLine_eq
  refine ⟨lp,le,ps,ss,evs,L,rfl,elp,pr,ev,ok,fun H1 l ys qs s1 hl el pq ti so lq=>⟨l,rfl,⟨_,SqL.of el⟩,?_⟩⟩
  have ly:=(AN pq).1
  refine A5 (K:=K) (xs:=ys) (fun j τ acc H'=>(∃o,τ=[o])/\H'=H1/\Rws H1 acc ((qs.take j).map (Ck ss))) (by omega) ⟨⟨none,rfl⟩,rfl,D9 _⟩ (fun j τ acc H' ⟨_,e,_⟩=>by rw [e];exact SqL.of el) ?_ ?_
  ·rintro j y τ acc H2 R1 hy _ ⟨⟨o,rfl⟩,rfl,hw⟩ k1
   obtain ⟨q,eq,mk⟩:=Jj pq hy
   obtain ⟨a,ra,ia,zs,rfl,e1,e2,_,_⟩:=mk.parts
   refine ⟨_,_,SqT.of e1,AF (j:=4) rfl,k1 _ _ _ ⟨⟨_,rfl⟩,rfl,?_⟩⟩
   rw [List.take_add_one,eq,List.map_append]
   exact hw.snoc e2
  ·rintro τ acc H2 la ⟨_,rfl,hw⟩ D hD
   rw [ly,List.take_of_length_le (Nat.le_refl _)] at hw
   exact k _ D acc qs (s1.upd hD) (s1.free hD) AE (hw.keep (AK.Ay hD).tp) ti so lq
def Dc (N:List It4):List Int:=KG.filter fun k=>N.any fun i=>decide (k∈i.2)
theorem Jg {N:List It4}(ok:MOk N) {k:Int}:k∈Dc N↔∃i∈N,k∈i.2:=by
 unfold Dc
 rw [List.mem_filter,Gm,List.any_eq_true]
 constructor
 ·rintro ⟨_,i,hi,q⟩
  exact ⟨i,hi,of_decide_eq_true q⟩
 ·rintro ⟨i,hi,q⟩
  exact ⟨(ok i hi).2.1 k q,i,hi,decide_eq_true q⟩
theorem Oe (N:List It4):(Dc N).Pairwise (· < ·):=IQ.sublist List.filter_sublist
theorem Ml (N:List It4):(Dc N).length≤20:=Nat.le_trans (List.length_filter_le _ _) (by unfold KG;rw [List.length_map,List.length_range];exact Nat.le_refl _)
def Ul:Sp:=fun vs H Q _=>∃(l:Addr) (xs:List V) (N:List It4),vs=[.ref l]/\H l=some (.lst xs)/\BZ H xs N/\N.length≤1000/\MOk N/\∀H' r,AK H H'→H r=none→H' r=some (.lst ((Dc N).map V.int))→Q (.ref r) H'
theorem Gi (T:Tx K mg ad):BM P w K mg base CX0 1 ad.Bz ad.Cc ["inner"] Ul:=by
 refine T.Bb.ok GS (fun vs H Q E h=>?_) (fun cdv A outer s H vs Q E hr h=>?_)
 ·obtain ⟨l,xs,N,rfl,_⟩:=h
  rfl
 ·obtain ⟨l,xs,N,rfl,el,hw,lN,ok,k⟩:=h
  have nd:=GS.nd
  refine ⟨_,(AJ (psl 1 nd Gb)
    (AJ (BQ PassesOwn.never rfl (AY (K:=K) (pvC 0)) (F8 rfl (A3 (pgn 2 nd) (A3 (pgn 3 nd) (A3 (pgn 4 nd) Eg))))
    (AH (Bw (BQ PassesOwn.never rfl (Og (K:=K) (pvC 4)) (pgn 5 nd)
    (AH (Fb hr.u1 (pvC 1) (pvC 5) FJ rfl))))))
    (AH (AQ (AU (G0 rfl) (by rfl) T.CN PyProof.Rows.boot_sorted (AA (pvC 1) AD)))))),?_⟩
  have sz:sizeLine=16777216:=sizeLine_eq
  have lx:=(AN hw).1
  refine fun _ _ _ _ z1 dd hdd=>z1 _ _ ?_
  refine An (o:=.dK []) hdd fun H0 s0 ed0=>?_
  refine fun _ _ _ _ z2=>⟨l,rfl,⟨_,SqL.of (s0 _ _ el)⟩,BO (K:=K) (xs:=xs) (fun n σ H'=>∃(o2 o3 o4 o5:Option V) (kvs:List (Key×V)),σ=[some (.ref l),some (.ref dd),o2,o3,o4,o5]/\AK H H'/\H' dd=some (.dK kvs)/\DI kvs (fun b=>∃i∈N.take n,b∈i.2)/\kvs.length≤20 * n)
   ⟨none,none,none,none,[],rfl,s0,ed0,DI.nil.imp fun b=>by simp,Nat.zero_le _⟩ (fun n σ H' _ ⟨_,_,_,_,_,_,s',_⟩=>SqL.of (s' _ _ el)) ?_ ?_⟩
  ·rintro n y σ H1 hy ⟨o2,o3,o4,o5,kvs,rfl,s1,ed1,di,lk⟩
   obtain ⟨i,ei,a,p,rfl,ea,ep⟩:=BZ.ix (BZ.keep hw s1.tp) hy
   have hn:n<N.length:=(List.getElem?_eq_some_iff.mp ei).1
   have li:=(ok i (List.mem_of_getElem? ei)).len
   refine ⟨a,_,rfl,SqT.of ea,rfl,_,_,rfl,_,_,rfl,_,_,rfl,rfl,?_⟩
   refine fun _ _ _ _ z3=>⟨p,rfl,⟨_,SqT.of ep⟩,T7 (K:=K) (xs:=i.2.map V.int) (fun m σ H'=>∃(o5:Option V) (kvs:List (Key×V)),σ=[some (.ref l),some (.ref dd),some (.int i.1.1),some (.int i.1.2.2),some (.ref p),o5]/\Fz dd H1 H'/\H' dd=some (.dK kvs)/\DI kvs (fun b=>(∃i∈N.take n,b∈i.2)\/b∈i.2.take m)/\kvs.length≤20 * n+m)
    ⟨_,kvs,rfl,(AK.refl _).x _,ed1,di.imp fun b=>by simp,lk⟩ (fun m σ H' _ ⟨_,_,_,x',_⟩=>SqT.of (x' _ _ (fun q=>by rw [q,ed1] at ep;cases ep) ep)) ?_ ?_⟩
   ·rintro m y σ H3 hy ⟨o5,kvs,rfl,x3,ed3,di3,lk3⟩
    rw [List.getElem?_map] at hy
    obtain ⟨b,hb,rfl⟩:=Option.map_eq_some_iff.mp hy
    have hm:m<i.2.length:=(List.getElem?_eq_some_iff.mp hb).1
    refine ⟨dd,_,rfl,KW.k (k:=.inl b) ed3 (by omega),?_⟩
    refine ⟨_,putK kvs (.inl b) (.bl true),rfl,fun c o nc e=>?_,AE,(di3.put b _).imp fun x=>?_,?_⟩
    ·rw [AO nc];exact x3 c o nc e
    ·rw [A8 hb,or_assoc]
    ·have:=Gp kvs (Sum.inl b:Key) (.bl true);omega
   ·rintro σ H3 ⟨o5,kvs,rfl,x3,ed3,di3,lk3⟩
    rw [List.length_map] at di3 lk3
    rw [List.take_of_length_le (Nat.le_refl _)] at di3
    refine z3 _ _ ⟨_,_,_,_,kvs,rfl,fun c o e=>?_,ed3,di3.imp fun b=>?_,by omega⟩
    ·exact x3 c o (fun q=>by rw [q,hdd] at e;cases e) (s1 _ _ e)
    ·constructor
     ·rintro (⟨j,hj,hb⟩|hb)
      ·exact ⟨j,(A8 ei j).mpr (.inl hj),hb⟩
      ·exact ⟨i,(A8 ei i).mpr (.inr rfl),hb⟩
     ·rintro ⟨j,hj,hb⟩
      rcases (A8 ei j).mp hj with q|q
      ·exact .inl ⟨j,q,hb⟩
      ·exact .inr (by rw [←q];exact hb)
  ·rintro σ H1 ⟨o2,o3,o4,o5,kvs,rfl,s1,ed1,di,lk⟩
   rw [lx,List.take_of_length_le (Nat.le_refl _)] at di
   refine z2 _ _ ⟨dd,kvs,rfl,ed1,.inl di.ints,fun sl ks hsl pk sk=>?_⟩
   obtain ⟨bs,rfl,up,mem⟩:=di.sorted pk sk
   have e:bs=Dc N:=Ie up (Oe N) fun b=>by rw [mem,Jg ok]
   refine k _ sl (s1.upd hsl) (s1.free hsl) ?_
   rw [AE,e,List.map_map]
   rfl
def WhA (ss:List Stp) (H0 H:Hp) (x:V) (q:MkI):Prop:=∃a ra la,x=.ref a/\H a=some (.tup [.ref ra,.ref la])/\H ra=some (.tup ((Ck ss q).map kV))/\H0 la=none/\H la=some (.lst ((Dc q.2).map V.int))
theorem WhA.same {ss:List Stp}{H0 H H':Hp}{x:V}{q:MkI}(h:WhA ss H0 H x q) (s:AK H H'):WhA ss H0 H' x q:=let ⟨a,ra,la,e,e1,e2,e3,e4⟩:=h;⟨a,ra,la,e,s _ _ e1,s _ _ e2,e3,s _ _ e4⟩
theorem TI.mok {ss:List Stp}{L:Str→List It4}{evs:List Ev}{Dn:Nat→Str→Prop}{qs:List MkI}(h:TI ss L Dn qs) (ok:Pr ss L evs) {q:MkI}(hq:q∈qs):MOk q.2/\q.2.length≤100:=by
 obtain ⟨⟨s,f,es,ht,hf,_,p,_⟩,_⟩:=h.is q hq
 obtain ⟨i',s',li,ei',rfl,_⟩:=ok.ok.fed _ s f es (by rw [hf];exact .head _)
 have ms:=List.mem_of_getElem? ei'
 have okL:=Lq ok.ok ok.el (fun s hs=>(ok.hL s hs).1) s' ms
 refine ⟨fun i hi=>okL i (List.mem_filter.mp (List.mem_filter.mp (p.mem_iff.mp hi)).1).1,?_⟩
 rw [p.length_eq]
 refine Nat.le_trans (List.length_filter_le _ _) (Nat.le_trans (List.length_filter_le _ _) ?_)
 exact (ok.hL s' ms).2
def LaP (H:Hp) (x:V) (la:Addr):Prop:=∃a ra,x=.ref a/\H a=some (.tup [.ref ra,.ref la])
theorem LaP.same {H H':Hp}{x:V}{la:Addr}(h:LaP H x la) (s:AK H H'):LaP H' x la:=let ⟨a,ra,e,e1⟩:=h;⟨a,ra,e,s _ _ e1⟩
def Vu:Sp:=fun vs H Q _=>∃(lp le:Addr) (ps:List V) (ss:List Stp) (evs:List Ev) (L:Str→List It4),vs=[.ref lp,.ref le]/\H lp=some (.lst ps)/\Ba H ps ss/\IJ H le evs/\Pr ss L evs /\
 ∀H' l ys qs las,AK H H'→H l=none→H' l=some (.lst ys)→Paired (WhA ss H H') ys qs→Paired (LaP H') ys las→las.Nodup→TI ss L (fun _ _=>True) qs→(qs.map k4K).Pairwise (fun a b=>A4 b a=false)→qs.length≤4200000→Q (.ref l) H'
theorem Mw (T:Tx K mg ad):BM P w K mg base CX0 6 ad.CT ad.Cz ["plan", "events"] Vu:=by
 have G_told_of:=BA.mk (GA (P:=P) (w:=w) (base:=base) T) T.HX T.CH.kp T.Hk
 have G_reason_of:=BA.mk (Gi (P:=P) (w:=w) (base:=base) T) T.Hz T.Bb.kp T.IC
 refine T.CV.ok Hu (fun vs H Q E h=>?_) (fun cdv A outer s H vs Q E hr h=>?_)
 ·obtain ⟨lp,le,ps,ss,evs,L,rfl,_⟩:=h
  rfl
 ·obtain ⟨lp,le,ps,ss,evs,L,rfl,elp,pr,ev,ok,k⟩:=h
  have nd:=Hu.nd
  refine ⟨_,(AH (AQ (pcm (AL Ee) [] trivial (AY (K:=K) (AI G_told_of hr (AA (pvC 0) (AA (pvC 1) AD)))) (fun _ _ _ _=>Bc) (fun _ _ _ _=>(Am (AA (Aj K (pvC 0) AB) (AA (AI G_reason_of hr (AA (Aj K (pvC 0) AB) AD)) AD))))))),?_⟩
  have sz:sizeLine=16777216:=sizeLine_eq
  refine ⟨lp,le,ps,ss,evs,L,rfl,elp,pr,ev,ok,fun H1 l ys qs s1 hl el pq ti so lq=>⟨l,rfl,⟨_,SqL.of el⟩,?_⟩⟩
  have ly:=(AN pq).1
  refine A5 (K:=K) (xs:=ys) (fun j τ acc H'=>(∃o,τ=[o])/\AK H1 H'/\Paired (WhA ss H H') acc (qs.take j)/\∃las:List Addr,Paired (LaP H') acc las/\las.Nodup/\∀la∈las,H' la≠none) (by omega) ⟨⟨none,rfl⟩,AK.refl _,.nil,[],.nil,.nil,fun la h=>by cases h⟩ (fun j τ acc H' ⟨_,s',_⟩=>SqL.of (s' _ _ el)) ?_ ?_
  ·rintro j y τ acc H2 R1 hy _ ⟨⟨o,rfl⟩,s2,hw,las,hp,nd,hs⟩ k1
   obtain ⟨q,eq,mk⟩:=Jj pq hy
   obtain ⟨a,ra,ia,zs,rfl,e1,e2,e3,e4⟩:=(mk.same s2).parts
   obtain ⟨mo,ml⟩:=ti.mok ok (List.mem_of_getElem? eq)
   refine ⟨_,_,SqT.of e1,AF (j:=4) rfl,_,_,SqT.of e1,AF (j:=5) rfl,ia,zs,q.2,rfl,e3,e4,by omega,mo,fun H3 la s3 hla ela=>⟨le1 rfl,fun b hb=>k1 _ _ _ ⟨⟨_,rfl⟩,s2.trans (s3.upd hb),?_,las++[la],?_,?_,?_⟩⟩⟩
   all_goals have s4:=AK.Ay (o:=.tup [.ref ra,.ref la]) hb
   rotate_left
   ·exact AW (AV (fun x q h=>h.same (s3.trans s4)) hp) (.cons ⟨b,ra,rfl,AE⟩ .nil)
   ·rw [List.nodup_append]
    exact ⟨nd,by simp,fun x hx y hy e=>hs x hx (by rw [e,List.mem_singleton.mp hy];exact hla)⟩
   ·intro x hx
    rcases List.mem_append.mp hx with hx|hx
    ·obtain ⟨ob,eo⟩:=Option.ne_none_iff_exists'.mp (hs x hx)
     rw [(s3.trans s4) _ _ eo]
     simp
    ·rw [List.mem_singleton.mp hx,s4 _ _ ela]
     simp
   rw [List.take_add_one,eq]
   exact AW (AV (fun x q h=>h.same (s3.trans s4)) hw) (.cons ⟨b,ra,la,rfl,AE,s4 _ _ (s3 _ _ e2),(s1.trans s2).free hla,s4 _ _ ela⟩ .nil)
  ·rintro τ acc H2 la ⟨_,s2,hw,las,hp,nd,_⟩ D hD
   rw [ly,List.take_of_length_le (Nat.le_refl _)] at hw
   have S2:=s1.trans s2
   exact k _ D acc qs las (S2.upd hD) (S2.free hD) AE (AV (fun x q h=>h.same (AK.Ay hD)) hw) (AV (fun x q h=>h.same (AK.Ay hD)) hp) nd ti so lq
section
open PySem.Spec PyProof.Rows
variable {X:Cx}
theorem O5 {pins:List (Addr×Obj)}{σ:L2.St}{H:Hp}{s:Shared}(I:Inv X pins σ H s):∀{ys:List V}{ds:List PyData}{us:List Value},Dvs X.K H ys ds→Vals ys us→∃ps:List (Value×PyData),ps.map (·.1)=us/\ps.map (·.2)=ds/\∀p∈ps,∃as,Reads s.heap p.1 p.2 as
 | _,_,_,.nil,r=>by cases r;exact ⟨[],rfl,rfl,fun p hp=>by cases hp⟩
 | _,_,_,.cons (d:=d0) d ds,r=>by
  cases r with
  | cons r1 r2 =>
   obtain ⟨as,q⟩:=Dv.reads I d r1
   obtain ⟨ps,e,e',h⟩:=O5 I ds r2
   refine ⟨(_,d0)::ps,by rw [List.map_cons,e],by rw [List.map_cons,e'],fun p hp=>?_⟩
   rcases List.mem_cons.mp hp with rfl|hp
   ·exact ⟨as,q⟩
   ·exact h p hp
open Classical in
theorem NM:∀ks js:List Key,PyData.eqvAll (ks.map kD) (js.map kD)=decide (ks=js)
 | [],[]=>by simp [PyData.eqvAll]
 | [],_::_=>by simp [PyData.eqvAll]
 | _::_,[]=>by simp [PyData.eqvAll]
 | k::ks,j::js=>by
  rw [List.map_cons,List.map_cons]
  show (PyData.eqv (kD k) (kD j)&&PyData.eqvAll (ks.map kD) (js.map kD))=_
  rw [NM ks js]
  have h:PyData.eqv (kD k) (kD j)=decide (k=j):=by
   cases k <;> cases j <;> simp [kD,PyData.eqv] <;> rw [Bool.eq_iff_iff] <;> simp
  rw [h,Bool.eq_iff_iff,Bool.and_eq_true,decide_eq_true_eq,decide_eq_true_eq,decide_eq_true_eq,List.cons.injEq]
theorem IS (ks js:List Key):PyData.eqv (ktD ks) (ktD js)=decide (ks=js):=by
 unfold ktD
 simp only [PyData.eqv]
 exact NM ks js
end
def AS (z:Str):Prop:=∀c∈z.cps.toList,c<128
theorem MC (z:Str):z.length=z.cps.toList.length:=by simp [Str.length]
theorem MH (a b:Str):(a++b).cps.toList=a.cps.toList++b.cps.toList:=by
 show (a.cps++b.cps).toList=_
 simp
theorem AS.ok {z:Str}(h:AS z):PyData.strOk z=true:=by
 unfold PyData.strOk
 rw [←Array.all_toList,List.all_eq_true]
 intro c hc
 have:=h c hc
 simp
 omega
theorem AS.app {a b:Str}(ha:AS a) (hb:AS b):AS (a++b):=fun c hc=>by
 rw [MH] at hc
 rcases List.mem_append.mp hc with h|h
 ·exact ha c h
 ·exact hb c h
theorem Hg {x:Str}{j k:Int}(h0:0≤j) (h1:j≤k) (h2:k≤(x.length:Int)) (hx:AS x):AS (Txt.slice x none (some j))/\AS (Txt.slice x (some k) none)/\((Txt.slice x none (some j)).length:Int)=j/\((Txt.slice x (some k) none).length:Int)=x.length-k:=by
 have e1:Txt.slice x none (some j)=StrLaws.sliceText x none (some j):=rfl
 have e2:Txt.slice x (some k) none=StrLaws.sliceText x (some k) none:=rfl
 have hl:=MC x
 rw [e1,e2,StrLaws.sliceText_to ⟨h0,by omega⟩,StrLaws.sliceText_from ⟨by omega,by omega⟩]
 refine ⟨fun c hc=>hx c (List.mem_of_mem_drop (List.mem_of_mem_take hc)),fun c hc=>hx c (List.mem_of_mem_drop (List.mem_of_mem_take hc)),?_,?_⟩
 ·rw [MC]
  show (((List.take _ (List.drop 0 _)).length:Nat):Int)=_
  rw [List.length_take,List.length_drop]
  omega
 ·rw [MC]
  show (((List.take _ (List.drop _ _)).length:Nat):Int)=_
  rw [List.length_take,List.length_drop]
  omega
theorem O1 {x:Array Nat}(hx:∀c∈x.toList,c<128):∀(k:Nat) (acc:Array Nat),(∀c∈acc.toList,c<128)→(∀c∈((List.replicate k x).foldl (·++·) acc).toList,c<128)/\((List.replicate k x).foldl (·++·) acc).size=acc.size+k * x.size
 | 0,acc,h=>⟨h,by simp⟩
 | k+1,acc,h=>by
  rw [List.replicate_succ,List.foldl_cons]
  obtain ⟨a,b⟩:=O1 hx k (acc++x) (fun c hc=>by
   rw [Array.toList_append] at hc
   rcases List.mem_append.mp hc with q|q
   ·exact h c q
   ·exact hx c q)
  refine ⟨a,?_⟩
  rw [b,Array.size_append,Nat.add_mul]
  omega
theorem VJ {z:Str}{n:Int}(h:AS z) (h0:0≤n):AS (Txt.mul z n)/\(Txt.mul z n).length≤z.length * n.toNat:=by
 unfold Txt.mul
 split
 ·refine ⟨fun c hc=>?_,Nat.zero_le _⟩
  have:c∈([]:List Nat):=hc
  cases this
 ·split
  ·next h2 =>
   refine ⟨h,?_⟩
   rw [Bool.or_eq_true] at h2
   rcases h2 with q|q
   ·have:n=1:=by simpa using q
    subst this
    simp
   ·have:z.length=0:=by simpa using q
    omega
  ·obtain ⟨a,b⟩:=O1 (x:=z.cps) h n.toNat #[] (by simp)
   refine ⟨a,?_⟩
   show ((List.replicate n.toNat z.cps).foldl (·++·) #[]).size≤z.cps.size * n.toNat
   rw [b,Nat.mul_comm]
   simp
theorem M0 {z:Str}{n:Int}(h0:0≤n) (h1:n≤100) (hz:z.length≤1000):MulOk z n:=by
 refine ⟨?_,fun h _=>?_,fun h _=>?_⟩
 ·rw [decide_eq_false (by omega),decide_eq_false (by omega)];rfl
 ·have h2:(1000:Int)≤(2 ^ 63-1) / n:=(Int.le_ediv_iff_mul_le (by omega)).mpr (by omega)
  omega
 ·unfold Builtin.Str.tooLong
  have sz:sizeLine=16777216:=sizeLine_eq
  have h3:z.length * n.toNat≤1000 * 100:=Nat.mul_le_mul hz (by omega)
  exact decide_eq_false (by omega)
abbrev LET:Str := "abcdefghijklmnopqrstuvwxyz"
def ltr (m:Int):Str:=⟨#[LET.cps.toList.getD (m % 26).toNat 0]⟩
theorem SH (m:Int):atI LET.cps.toList (m % 26)=some (LET.cps.toList.getD (m % 26).toNat 0):=by
 obtain ⟨v,hv,_⟩:=Bs LET.cps.toList 26 (by decide +kernel) (by decide) m
 have h1:0≤m % 26:=Int.emod_nonneg _ (by decide)
 have e:((m % 26).toNat:Int)=m % 26:=Int.toNat_of_nonneg h1
 have h2:m % 26<26:=Int.emod_lt_of_pos _ (by decide)
 have hl:LET.cps.toList.length=26:=by decide +kernel
 have hlt:(m % 26).toNat<LET.cps.toList.length:=by omega
 rw [←e]
 refine AF ?_
 rw [List.getElem?_eq_getElem (by simpa using hlt),List.getD_eq_getElem?_getD,e,List.getElem?_eq_getElem hlt]
 rfl
def Vy (K:W.Frag):Sp:=fun vs H Q _=>∃(a:Addr) (ns:List Int) (k:Int),vs=[.ref a,.int k]/\SqL K H a (ns.map V.int)/\0≤k/\ns.length≤63/\∀r:Int,Q (.int r) H
theorem Rw (T:Tx K mg ad):BM P w K mg base CX0 1 ad.CS ad.Cy ["_law_script", "_law_k"] (Vy K):=by
 refine T.Bi.ok Ht (fun vs H Q E h=>?_) (fun cdv A outer s H vs Q E hr h=>?_)
 ·obtain ⟨a,ns,k,rfl,_⟩:=h
  rfl
 ·obtain ⟨a,ns,i,rfl,hS,h0,hl,k⟩:=h
  have nd:=Ht.nd
  refine ⟨_,(Ac (A0 (AR Ro (pv 1) (AU (A7 (K:=K)) (by rfl) T.CO PySem.boot_len (AA (pv 0) AD)) (Ab _))
    (AH (AQ (pxl K (pv 0) (pv 1))))
    Al)
    (AH (AQ AB))),?_⟩
  refine ⟨_,rfl,_,rfl,a,_,rfl,.inl hS,_,_,rfl,rfl,_,rfl,He (fun e=>?_) fun e=>k 0⟩
  rw [List.length_map] at e
  have hlt:i.toNat<ns.length:=by omega
  refine ⟨_,rfl,_,rfl,a,_,_,.int ns[i.toNat],rfl,rfl,hS,?_,k _⟩
  have q:=AF (xs:=ns.map V.int) (j:=i.toNat) (v:=.int ns[i.toNat]) (by rw [List.getElem?_map,List.getElem?_eq_getElem hlt];rfl)
  rw [Int.toNat_of_nonneg h0] at q
  exact q
theorem SI (m:Int):AS (ltr m):=by
 have all:∀d:Nat,d<26→LET.cps.toList.getD d 0<128:=by decide +kernel
 intro c hc
 have h1:0≤m % 26:=Int.emod_nonneg _ (by decide)
 have h2:m % 26<26:=Int.emod_lt_of_pos _ (by decide)
 have e:c=LET.cps.toList.getD (m % 26).toNat 0:=by simpa [ltr] using hc
 rw [e]
 exact all _ (by omega)
theorem Tw {m n:Int}(h:ltr m=ltr n):m % 26=n % 26:=by
 have all:∀i:Nat,i<26→∀j:Nat,j<26→LET.cps.toList.getD i 0=LET.cps.toList.getD j 0→i=j:=by decide +kernel
 have q:=congrArg (fun y:Str=>y.cps.toList) h
 have q:LET.cps.toList.getD (m % 26).toNat 0=LET.cps.toList.getD (n % 26).toNat 0:=by simpa [ltr] using q
 have h1:0≤m % 26:=Int.emod_nonneg _ (by decide)
 have h2:m % 26<26:=Int.emod_lt_of_pos _ (by decide)
 have h3:0≤n % 26:=Int.emod_nonneg _ (by decide)
 have h4:n % 26<26:=Int.emod_lt_of_pos _ (by decide)
 have:=all _ (by omega) _ (by omega) q
 omega
def frS (c:Int):Str:=Txt.mul (ltr c) (c / 26 % 5)
def atS (c:Int):Int:=c / 130 % (((frS c).length:Int)+1)
def AX (c k:Int):Str:=Txt.slice (frS c) none (some (atS c))++ltr (c / 7+5 * k)++Txt.slice (frS c) (some (atS c)) none
theorem Jo (c:Int):AS (frS c)/\(frS c).length≤4/\MulOk (ltr c) (c / 26 % 5):=by
 have h1:0≤c / 26 % 5:=Int.emod_nonneg _ (by decide)
 have h2:c / 26 % 5<5:=Int.emod_lt_of_pos _ (by decide)
 obtain ⟨a,b⟩:=VJ (SI c) h1
 have l1:(ltr c).length=1:=rfl
 exact ⟨a,by unfold frS;rw [l1] at b;omega,M0 h1 (by omega) (by rw [l1];decide)⟩
theorem Hl (c:Int):0≤atS c/\atS c≤((frS c).length:Int):=by
 have h1:0≤c / 130 % (((frS c).length:Int)+1):=Int.emod_nonneg _ (by omega)
 have h2:c / 130 % (((frS c).length:Int)+1)<((frS c).length:Int)+1:=Int.emod_lt_of_pos _ (by omega)
 unfold atS
 omega
theorem FN (c k:Int):AS (AX c k):=by
 obtain ⟨a1,a2,_⟩:=Hg (Hl c).1 (Int.le_refl _) (Hl c).2 (Jo c).1
 exact (a1.app (SI _)).app a2
theorem P6 {c k k':Int}(h:AX c k=AX c k'):(c / 7+5 * k) % 26=(c / 7+5 * k') % 26:=by
 refine Tw ?_
 unfold AX at h
 have q:=congrArg (fun y:Str=>y.cps.toList) h
 simp only [MH] at q
 have q:=List.append_cancel_left (List.append_cancel_right q)
 have e:(ltr (c / 7+5 * k)).cps=(ltr (c / 7+5 * k')).cps:=Array.ext' q
 show (⟨(ltr (c / 7+5 * k)).cps⟩:Str)=⟨(ltr (c / 7+5 * k')).cps⟩
 rw [e]
def RD:Sp:=fun vs H Q _=>∃c k:Int,vs=[.int c,.int k]/\Q (.str (AX c k)) H
theorem Ol (T:Tx K mg ad):BM P w K mg base CX0 1 ad.Es ad.Fl ["_law_cell", "_law_k"] RD:=by
 refine T.EG.ok Me (fun vs H Q E h=>?_) (fun cdv A outer s H vs Q E hr h=>?_)
 ·obtain ⟨c,k,rfl,_⟩:=h
  rfl
 ·obtain ⟨c,i,rfl,k⟩:=h
  have nd:=Me.nd
  refine ⟨_,(Ac (psl 2 nd Ak)
    (Ac (psl 3 nd (AG Nz (JP OE (pv 2) (AG JV (pv 0) AB) (fun _ _=>rfl)) (AG JV (AG Fd (pv 0) AB) AB)))
    (Ac (psl 4 nd (AG JV (AG Fd (pv 0) AB) (AG Eh (AU ML (by rfl) T.CO PySem.boot_len (AA (pv 3) AD)) AB)))
    (AH (AQ (AG F9 (AG F9 (Aq RI (pv 3) A6 (Au (pv 4))) (JP OE (pv 2) (AG JV (AG Eh (AG Fd (pv 0) AB) (AG N0 AB (pv 1))) AB) (fun _ _=>rfl))) (Aq RI (pv 3) (Au (pv 4)) A6))))))),?_⟩
  have sz:sizeLine=16777216:=sizeLine_eq
  obtain ⟨_,fl,mo⟩:=Jo c
  obtain ⟨b0,b1⟩:=Hl c
  refine ⟨_,rfl,_,rfl,_,_,rfl,rfl,(by decide:(0:Int)<26),_,_,_,rfl,rfl,by decide +kernel,SH c,_,rfl,_,_,rfl,rfl,⟨by decide,by decide⟩,_,_,rfl,rfl,(by decide:(0:Int)<5),_,_,rfl,rfl,mo,?_⟩
  refine ⟨_,rfl,_,_,rfl,rfl,⟨by decide,by decide⟩,_,rfl,frS c,rfl,by omega,_,_,rfl,rfl,_,_,rfl,rfl,(by show (0:Int)<((frS c).length:Int)+1;omega),?_⟩
  obtain ⟨_,_,p3,p4⟩:=Hg b0 (Int.le_refl _) b1 (Jo c).1
  have l1:(ltr (c / 7+5 * i)).length=1:=rfl
  have q1:(Txt.slice (frS c) none (some (atS c))).length+(ltr (c / 7+5 * i)).length≤sizeLine:=by omega
  have q2:(Txt.slice (frS c) none (some (atS c))++ltr (c / 7+5 * i)).length+(Txt.slice (frS c) (some (atS c)) none).length≤sizeLine:=by rw [PySem.Str.length_append];omega
  have q3:(frS c).length≤sizeLine:=by omega
  exact ⟨_,rfl,_,rfl,_,rfl,frS c,rfl,q3,_,rfl,_,rfl,_,_,rfl,rfl,⟨by decide,by decide⟩,_,rfl,_,_,rfl,rfl,.inl ⟨by decide,by decide⟩,_,_,rfl,rfl,_,_,rfl,rfl,(by decide:(0:Int)<26),_,_,_,rfl,rfl,by decide +kernel,SH _,_,_,rfl,rfl,q1,_,rfl,_,rfl,_,rfl,frS c,rfl,q3,_,_,rfl,rfl,q2,k⟩
def TF:Sp:=fun vs H Q _=>on2 vs fun x y=>onI x fun c=>onI y fun k=>Q (.str (AX c k)) H
theorem Ik (vs:List V) (H:Hp) (Q:VK) (E:XK) (h:TF vs H Q E):RD vs H Q E:=by
 obtain ⟨x,y,rfl,h1⟩:=Lz h
 obtain ⟨c,rfl,h2⟩:=Cp h1
 obtain ⟨k,rfl,q⟩:=Cp h2
 exact ⟨c,k,rfl,q⟩
def Vx (K:W.Frag):Sp:=fun vs H Q _=>on2 vs fun x y=>onR x fun a=>onI y fun k=>∃ns:List Int,SqL K H a (ns.map V.int)/\0≤k/\ns.length≤63/\∀r:Int,Q (.int r) H
theorem Il (vs:List V) (H:Hp) (Q:VK) (E:XK) (h:Vx K vs H Q E):Vy K vs H Q E:=by
 obtain ⟨x,y,rfl,h1⟩:=Lz h
 obtain ⟨a,rfl,h2⟩:=Lx h1
 obtain ⟨k,rfl,ns,q⟩:=Cp h2
 exact ⟨a,ns,k,rfl,q⟩
def Stp.odd:Stp→List Str
 | .take _ k=>[k]
 | .gap _ _ s _|.each _ _ s _ _=>[s]
 | _=>[]
def CL (s:Stp) (z:Str→Nat) (m:Nat):Nat:=match s with
 | .take ..=>m
 | .both _ a b=>z a+z b
 | .join _ a b _=>z a * z b
 | .only _ a _ _|.turn _ a _ _|.gap _ a _ _|.each _ a _ _ _=>z a
def TK:Sp:=fun vs H Q _=>∃(p d:Addr) (s:Stp) (kvs:List (Key×V)) (z:Str→Nat) (m:Nat),vs=[.ref p,.ref d,.int (m:Int)]/\StA H p s/\H d=some (.dK kvs)/\(∀a∈s.As,BL kvs (.inr a)=some (.int (z a:Int))/\z a≤1000)/\Q (.int (CL s z m:Int)) H
theorem Rv (T:Tx K mg ad):BM P w K mg base CX0 1 ad.Et ad.Fm ["_law_step", "_law_sizes", "_law_many_here"] TK:=by
 refine T.E1.ok Mf (fun vs H Q E h=>?_) (fun cdv A outer s H vs Q E hr h=>?_)
 ·obtain ⟨p,d,s,kvs,z,m,rfl,_⟩:=h
  rfl
 ·obtain ⟨p,d,st,kvs,z,m,rfl,e,ed,hz,k⟩:=h
  have nd:=Mf.nd
  refine ⟨_,(Ac (A0 (AR BE (Aj K (pvC 0) AB) Ak (Ab _))
    (AH (AQ (pvC 2)))
    Al)
    (Ac (A0 (AR BE (Aj K (pvC 0) AB) Ak (Ab _))
    (AH (AQ (AG Az (EB hr.u1 (pvC 1) (Aj K (pvC 0) AB) (fun _ _=>rfl)) (EB hr.u1 (pvC 1) (Aj K (pvC 0) AB) (fun _ _=>rfl)))))
    Al)
    (Ac (A0 (AR BE (Aj K (pvC 0) AB) Ak (Ab _))
    (AH (AQ (AG BD (EB hr.u1 (pvC 1) (Aj K (pvC 0) AB) (fun _ _=>rfl)) (EB hr.u1 (pvC 1) (Aj K (pvC 0) AB) (fun _ _=>rfl)))))
    Al)
    (AH (AQ (EB hr.u1 (pvC 1) (Aj K (pvC 0) AB) (fun _ _=>rfl))))))),?_⟩
  obtain ⟨e0,e1,e2⟩:=e.word (K:=K)
  have g:∀a∈st.As,IK H d (.str a) (some (.int (z a:Int))):=fun a ha=>by rw [←(hz a ha).1];exact IK.k (k:=.inr a) ed
  refine ⟨_,_,e0,e1,rfl,_,rfl,GG (i:=0) rfl (fun q0=>?_) fun q0=>?_⟩
  ·cases st <;> first|cases q0;done|exact (k)
  ·refine ⟨_,_,e0,e1,rfl,_,rfl,GG (i:=3) rfl (fun q3=>?_) fun q3=>?_⟩
   ·obtain ⟨n,a,b,rfl⟩:∃n a b,st=.both n a b:=by cases st <;> first|exact ⟨_,_,_,rfl⟩|cases q3
    refine ⟨_,_,e0,AF (j:=2) rfl,d,_,rfl,g a (.head _),_,_,e0,AF (j:=3) rfl,d,_,rfl,g b (.tail _ (.head _)),k⟩
   ·refine ⟨_,_,e0,e1,rfl,_,rfl,GG (i:=4) rfl (fun q4=>?_) fun q4=>?_⟩
    ·obtain ⟨n,a,b,wi,rfl⟩:∃n a b wi,st=.join n a b wi:=by cases st <;> first|exact ⟨_,_,_,_,rfl⟩|cases q4
     have hz1:=(hz a (.head _)).2
     refine ⟨_,_,e0,AF (j:=2) rfl,d,_,rfl,g a (.head _),_,_,e0,AF (j:=3) rfl,d,_,rfl,g b (.tail _ (.head _)),.inl ⟨by omega,by omega⟩,?_⟩
     have:(CL (.join n a b wi) z m:Int)=(z a:Int) * (z b:Int):=Int.natCast_mul ..
     rw [this] at k
     exact k
    ·obtain ⟨a,ha,ea,eb⟩:∃a,a∈st.As/\atI (st.key.map kV) 2=some (.str a)/\CL st z m=z a:=by
      cases st <;> first|exact absurd rfl q0|exact absurd rfl q3|exact absurd rfl q4|exact ⟨_,.head _,AF (j:=2) rfl,rfl⟩
     rw [eb] at k
     exact ⟨_,_,e0,ea,d,_,rfl,g a ha,k⟩
structure WR (zs:List Str) (n:Str) (s:Stp):Prop where
 nm:s.nm=n
 fed:∀a∈s.As,a∈zs
 ok:KC s
 tel:s.tell=false
def Q9:Sp:=fun vs H Q _=>∃(c tk:Int) (n:Str) (la lk:Addr) (zs:List Str) (k0 k1:Str),vs=[.int c,.str n,.ref la,.ref lk,.int tk]/\H la=some (.lst (zs.map V.str))/\zs≠[]/\zs.length≤100/\H lk=some (.lst [.str k0,.str k1])/\0≤tk/\tk≤30000000 /\
 ∀p s H',AK H H'→StA H' p s→WR zs n s→(∀t∈s.odd,t=k0\/t=k1)→Q (.ref p) H'
theorem Pz (T:Tx K mg ad):BM P w K mg base CX0 1 ad.C3 ad.Df ["_law_mixed", "_law_name_here", "_law_streams", "_law_kinds", "_law_tick"] Q9:=by
 refine T.DD.ok Iq (fun vs H Q E h=>?_) (fun cdv A outer s H vs Q E hr h=>?_)
 ·obtain ⟨c,tk,n,la,lk,zs,k0,k1,rfl,_⟩:=h
  rfl
 ·obtain ⟨c,tk,n,la,lk,zs,k0,k1,rfl,ela,hz,lz,elk,t0,t1,k⟩:=h
  have nd:=Iq.nd
  refine ⟨_,(AJ (psl 5 nd (BX K (Ao (AA AB (AA AB (AA AB (AA AB (AA AB (AA AB (AA AB (AA AB AD))))))))) (AG AZ (pvC 0) AB)))
    (AJ (psl 6 nd (BX K (pvC 2) (AG AZ (AG Af (pvC 0) AB) (AU (BF (K:=K)) (by rfl) T.CO PySem.boot_len (AA (pvC 2) AD)))))
    (AJ (psl 7 nd (BX K (pvC 2) (AG AZ (AG Af (pvC 0) AB) (AU (BF (K:=K)) (by rfl) T.CO PySem.boot_len (AA (pvC 2) AD)))))
    (AJ (psl 8 nd (AG Af (pvC 0) AB))
    (Ac (A0 (AR BE (pvC 5) AB (Ab _))
    (AH (AQ (Am (AA Ak (AA (pvC 1) (AA (BX K (pvC 3) (AG AZ (pvC 8) AB)) AD))))))
    Al)
    (Ac (A0 (AR BE (pvC 5) AB (Ab _))
    (AH (AQ (Am (AA Ak (AA (pvC 1) (AA (pvC 6) (AA (AG Cn (AG AZ (pvC 8) AB) AB) (AA (AG Az (AG Cn (AG AZ (pvC 8) AB) AB) (AG AZ (AG Af (pvC 8) AB) AB)) AD))))))))
    Al)
    (Ac (A0 (AR BE (pvC 5) AB (Ab _))
    (AH (AQ (Am (AA Ak (AA (pvC 1) (AA (pvC 6) (AA (AG Cn (AG AZ (pvC 8) AB) AB) (AA (AG Cn (AG AZ (AG Af (pvC 8) AB) AB) AB) AD))))))))
    Al)
    (Ac (A0 (AR BE (pvC 5) AB (Ab _))
    (AH (AQ (Am (AA Ak (AA (pvC 1) (AA (pvC 6) (AA (pvC 7) AD)))))))
    Al)
    (AH (AQ (Am (AA Ak (AA (pvC 1) (AA (pvC 6) (AA (pvC 7) (AA (AU (C2 rfl) (by rfl) T.E7 PyProof.Rows.boot_min (AA AB (AA (AG BD (AG AZ (pvC 8) AB) (pvC 4)) AD))) AD)))))))))))))))),?_⟩
  have sz:sizeLine=16777216:=sizeLine_eq
  refine fun _ _ _ _ z1=>⟨le1 rfl,fun l0 hl0=>?_⟩
  have s0:=AK.Ay (o:=.lst [V.int 0,V.int 1,V.int 2,V.int 3,V.int 4,V.int 4,V.int 4,V.int 4]) hl0
  have e0:(upd H l0 (.lst [V.int 0,V.int 1,V.int 2,V.int 3,V.int 4,V.int 4,V.int 4,V.int 4])) l0=some (.lst [V.int 0,V.int 1,V.int 2,V.int 3,V.int 4,V.int 4,V.int 4,V.int 4]):=AE
  obtain ⟨v,hv,mv⟩:=Bs [V.int 0,V.int 1,V.int 2,V.int 3,V.int 4,V.int 4,V.int 4,V.int 4] 8 rfl (by decide) c
  obtain ⟨wy,rfl⟩:∃wy:Int,v=.int wy:=by
   simp only [List.mem_cons,List.not_mem_nil,or_false] at mv
   rcases mv with rfl|rfl|rfl|rfl|rfl|rfl|rfl|rfl <;> exact ⟨_,rfl⟩
  refine ⟨(by decide:(0:Int)<8),_,_,SqL.of e0,hv,z1 _ _ ?_⟩
  generalize upd H l0 (.lst [V.int 0,V.int 1,V.int 2,V.int 3,V.int 4,V.int 4,V.int 4,V.int 4])=H1 at s0 ⊢
  have ela1:=s0 _ _ ela
  have pos:(0:Int)<((zs.map V.str).length:Int):=by rw [List.length_map];have:=List.length_pos_iff.mpr hz;omega
  obtain ⟨v1,h1,m1⟩:=Bs (zs.map V.str) (((zs.map V.str).length:Nat):Int) rfl pos (c / 8)
  obtain ⟨one,mo1,rfl⟩:=List.mem_map.mp m1
  obtain ⟨v2,h2,m2⟩:=Bs (zs.map V.str) (((zs.map V.str).length:Nat):Int) rfl pos (c / 64)
  obtain ⟨two,mo2,rfl⟩:=List.mem_map.mp m2
  have ret:∀s,WR zs n s→(∀t∈s.odd,t=k0\/t=k1)→∀p,H1 p=none→Q (.ref p) (upd H1 p (.tup (s.key.map kV))):=fun st g o p hp=>k p st _ (s0.upd hp) AE g o
  have no:∀t∈([]:List Str),t=k0\/t=k1:=fun t h=>by cases h
  have f1:∀a∈[one],a∈zs:=fun a h=>by rw [List.mem_singleton.mp h];exact mo1
  have f2:∀a∈[one,two],a∈zs:=fun t ht=>by
   simp only [List.mem_cons,List.not_mem_nil,or_false] at ht
   rcases ht with rfl|rfl <;> assumption
  refine fun _ _ _ _ z2=>⟨⟨by decide,by decide⟩,_,.inl (SqL.of ela1),pos,_,_,SqL.of ela1,h1,z2 _ _ ?_⟩
  refine fun _ _ _ _ z3=>⟨⟨by decide,by decide⟩,_,.inl (SqL.of ela1),pos,_,_,SqL.of ela1,h2,z3 _ _ ?_⟩
  refine fun _ _ _ _ z4=>⟨⟨by decide,by decide⟩,z4 [some (.int c),some (.str n),some (.ref la),some (.ref lk),some (.int tk),some (.int wy),some (.str one),some (.str two),some (.int (c / 512))] _ ?_⟩
  generalize c / 512=m
  clear z1 z2 z3 z4
  refine ⟨rfl,_,rfl,Gq (fun _=>?_) fun _=>?_⟩
  ·obtain ⟨v3,h3,m3⟩:=Bs [V.str k0,V.str k1] 2 rfl (by decide) m
   obtain ⟨kd,rfl,okd⟩:∃kd:Str,v3=.str kd/\(kd=k0\/kd=k1):=by
    simp only [List.mem_cons,List.not_mem_nil,or_false] at m3
    rcases m3 with rfl|rfl
    ·exact ⟨_,rfl,.inl rfl⟩
    ·exact ⟨_,rfl,.inr rfl⟩
   exact ⟨(by decide:(0:Int)<2),_,_,SqL.of (s0 _ _ elk),h3,le1 rfl,ret (.take n kd) ⟨rfl,fun a h=>(by cases h),trivial,rfl⟩ (fun t h=>by rw [List.mem_singleton.mp h];exact okd)⟩
  refine ⟨rfl,_,rfl,Gq (fun _=>?_) fun _=>?_⟩
  ·exact ⟨(by decide:(0:Int)<13),(by decide:(0:Int)<13),⟨by decide,by decide⟩,(by decide:(0:Int)<12),le1 rfl,ret (.only n one _ _) ⟨rfl,f1,trivial,rfl⟩ no⟩
  refine ⟨rfl,_,rfl,Gq (fun _=>?_) fun _=>?_⟩
  ·have b0:0≤m % 19:=Int.emod_nonneg _ (by decide)
   have b1:m % 19<19:=Int.emod_lt_of_pos _ (by decide)
   exact ⟨(by decide:(0:Int)<19),⟨by decide,by decide⟩,(by decide:(0:Int)<9),le1 rfl,ret (.turn n one _ _) ⟨rfl,f1,⟨by omega,by omega⟩,rfl⟩ no⟩
  refine ⟨rfl,_,rfl,Gq (fun _=>?_) fun _=>?_⟩
  ·exact ⟨le1 rfl,ret (.both n one two) ⟨rfl,f2,trivial,rfl⟩ no⟩
  have b0:0≤m % 20:=Int.emod_nonneg _ (by decide)
  have b1:m % 20<20:=Int.emod_lt_of_pos _ (by decide)
  have b2:0≤m % 20 * tk:=Int.mul_nonneg b0 t0
  refine ⟨(by decide:(0:Int)<20),.inl ⟨by omega,by omega⟩,le1 rfl,ret (.join n one two _) ⟨rfl,f2,?_,rfl⟩ no⟩
  show (0:Int)≤(if m % 20 * tk<1000000 then m % 20 * tk else 1000000)
  split <;> omega
theorem Pr.keys {ss:List Stp}{L:Str→List It4}{evs:List Ev}(h:Pr ss L evs) (ek:∀e∈evs,PyData.strOk e.2.2.1=true):∀s∈ss,∀i∈L s.nm,PyData.strOk i.1.2.1=true :=
 JM (R:=fun a=>∀i∈L a,PyData.strOk i.1.2.1=true) h.ok fun s hs q i hi=>by
  rw [(h.hL s hs).1] at hi
  cases s with
  | take n k =>
   obtain ⟨n,e,en,_,rfl⟩:=Ff hi
   exact ek e (List.mem_of_getElem? en)
  | only n a lo hi'=>exact q a (.head _) i (List.mem_filter.mp hi).1
  | turn n a f g =>
   obtain ⟨j,hj,rfl⟩:=List.mem_map.mp hi
   exact q a (.head _) j hj
  | both n a b =>
   rcases List.mem_append.mp hi with hi|hi
   ·exact q a (.head _) i hi
   ·exact q b (.tail _ (.head _)) i hi
  | join n a b wi =>
   obtain ⟨x,hx,y,hy,_,rfl⟩:=GC.mp hi
   exact q a (.head _) x hx
  | gap n a s m=>exact q a (.head _) i hi
  | each n a s z d=>exact q a (.head _) i hi
theorem RN {ss:List Stp}{L:Str→List It4}{evs:List Ev}{qs:List MkI}{q:MkI}(h:Pr ss L evs) (ek:∀e∈evs,PyData.strOk e.2.2.1=true) (nk:∀s∈ss,PyData.strOk s.nm=true) (t:TI ss L (fun _ _=>True) qs) (hq:q∈qs):Ek (Ck ss q)=true:=by
 obtain ⟨⟨s,f,es,ht,hf,wp,p,as⟩,_⟩:=t.is q hq
 obtain ⟨i',s',li,ei',rfl,_⟩:=h.ok.fed _ s f es (by rw [hf];exact .head _)
 have ms:=List.mem_of_getElem? ei'
 obtain ⟨t0,ht0,b1,b2⟩:=LS (h.tel s (List.mem_of_getElem? es)) (fun t ht=>by
  obtain ⟨j,hj,rfl⟩:=List.mem_map.mp ht
  exact h.times s' ms _ (List.mem_map.mpr ⟨j,(List.mem_filter.mp hj).1,rfl⟩)) wp
 obtain ⟨j,hj,rfl⟩:=List.mem_map.mp ht0
 obtain ⟨j1,j2⟩:=List.mem_filter.mp hj
 have kz:=h.keys ek s' ms j j1
 rw [of_decide_eq_true j2] at kz
 have nz:PyData.strOk (nmF ss q.1.2.1)=true:=by
  unfold nmF
  rw [es]
  exact nk s (List.mem_of_getElem? es)
 show (kOk (Sum.inr (nmF ss q.1.2.1))&&(kOk (Sum.inr q.1.2.2.1)&&(kOk (Sum.inl q.1.2.2.2.1)&&(kOk (Sum.inl q.1.1)&&(kOk (Sum.inl q.1.2.2.2.2)&&true)))))=true
 have h1:kOk (Sum.inr (nmF ss q.1.2.1))=true:=nz
 have h2:kOk (Sum.inr q.1.2.2.1)=true:=kz
 rw [h1,h2]
 rfl
def Wh:Sp:=fun vs H Q _=>∃(lp le rr:Addr) (ps:List V) (ss:List Stp) (evs:List Ev) (L:Str→List It4) (row:List Key),vs=[.ref lp,.ref le,.ref rr]/\H lp=some (.lst ps)/\Ba H ps ss/\IJ H le evs/\Pr ss L evs/\H rr=some (.tup (row.map kV))/\Ek row=true/\(∀e∈evs,PyData.strOk e.2.2.1=true)/\(∀s∈ss,PyData.strOk s.nm=true) /\
 ∀H' l qs ns,AK H H'→H l=none→H' l=some (.lst (ns.map V.int))→TI ss L (fun _ _=>True) qs→((∃q∈qs,Ck ss q=row/\ns=Dc q.2)\/((∀q∈qs,Ck ss q≠row)/\ns=[]))→Q (.ref l) H'
theorem VF (T:Tx K mg ad):BM P w K mg base CX0 6 ad.J3 ad.LB ["plan", "events", "row"] Wh:=by
 have G_told_of:=BA.mk (GA (P:=P) (w:=w) (base:=base) T) T.HX T.CH.kp T.Hk
 have G_reason_of:=BA.mk (Gi (P:=P) (w:=w) (base:=base) T) T.Hz T.Bb.kp T.IC
 refine T.J7.ok RJ (fun vs H Q E h=>?_) (fun cdv A outer s H vs Q E hr h=>?_)
 ·obtain ⟨lp,le,rr,ps,ss,evs,L,row,rfl,_⟩:=h
  rfl
 ·obtain ⟨lp,le,rr,ps,ss,evs,L,row,rfl,elp,pr,ev,ok,err,rok,ek,nk,k⟩:=h
  have nd:=RJ.nd
  refine ⟨_,(RU (BQ PassesOwn.never rfl (AY (K:=K) (AI G_told_of hr (AA (pvC 0) (AA (pvC 1) AD)))) (pgn 3 nd)
    (AH (A0 (AR (Rq (K:=K) hr.units) (Aj K (pvC 3) AB) (pvC 2) (Ab _))
    (AH (AQ (AI G_reason_of hr (AA (Aj K (pvC 3) AB) AD))))
    Al)))
    (AH (AQ (Ao AD)))),?_⟩
  have sz:sizeLine=16777216:=sizeLine_eq
  refine fun _ _ _ _ z1 zr=>⟨lp,le,ps,ss,evs,L,rfl,elp,pr,ev,ok,fun H1 l ys qs s1 hl el pq ti so lq=>⟨l,rfl,⟨_,SqL.of el⟩,?_⟩⟩
  have ly:=(AN pq).1
  refine BO (K:=K) (xs:=ys) (fun n σ H'=>(∃o,σ=[some (.ref lp),some (.ref le),some (.ref rr),o])/\H'=H1/\∀q∈qs.take n,Ck ss q≠row) ⟨⟨none,rfl⟩,rfl,fun q hq=>by cases hq⟩ (fun n σ H' _ ⟨_,e,_⟩=>by rw [e];exact SqL.of el) ?_ ?_
  ·rintro n y σ H2 hy ⟨⟨o,rfl⟩,rfl,no⟩
   obtain ⟨q,eq,mk⟩:=Jj pq hy
   obtain ⟨a,ra,ia,zs,rfl,e1,e2,e3,e4⟩:=mk.parts
   have hq:=List.mem_of_getElem? eq
   obtain ⟨mo,ml⟩:=ti.mok ok hq
   refine ⟨_,_,SqT.of e1,AF (j:=4) rfl,ktD (Ck ss q),ktD row,.tup (SqT.of e2) (Dr _),.tup (SqT.of (s1 _ _ err)) (Dr _),D6 (RN ok ek nk ti hq),D6 rok,_,rfl,OF (fun e=>?_) fun e=>?_⟩
   ·rw [IS] at e
    have e:=of_decide_eq_true e
    exact ⟨_,_,SqT.of e1,AF (j:=5) rfl,ia,zs,q.2,rfl,e3,e4,by omega,mo,fun H3 r s3 hr' er=>zr _ _ (k H3 r qs _ (s1.trans s3) (s1.free hr') er ti (.inl ⟨q,hq,e,rfl⟩))⟩
   ·rw [IS] at e
    have e:=of_decide_eq_false e
    refine ⟨⟨_,rfl⟩,rfl,fun q' hq'=>?_⟩
    rcases (A8 eq q').mp hq' with h|h
    ·exact no q' h
    ·rw [h];exact e
  ·rintro σ H2 ⟨⟨o,rfl⟩,rfl,no⟩
   rw [ly,List.take_of_length_le (Nat.le_refl _)] at no
   exact z1 _ _ ⟨Nat.zero_le _,fun r hr'=>k _ r qs [] (s1.upd hr') (s1.free hr') AE ti (.inr ⟨no,rfl⟩)⟩
def J4 (H:Hp) (x:V) (i:It4):Prop:=∃a p,x=.ref a/\H a=some (.tup [.int i.1.1,.str i.1.2.1,.int i.1.2.2,.ref p])/\H p=some (.lst (i.2.map V.int))
theorem J4.same {H H':Hp}{x:V}{i:It4}(h:J4 H x i) (s:AK H H'):J4 H' x i:=let ⟨a,p,e,e1,e2⟩:=h;⟨a,p,e,s _ _ e1,s _ _ e2⟩
def JS (H:Hp) (xs:List V) (M:List It4):Prop:=Paired (J4 H) xs M
theorem JS.same {H H':Hp}{xs:List V}{M:List It4}(h:JS H xs M) (s:AK H H'):JS H' xs M:=AV (fun _ _ q=>q.same s) h
theorem JS.ix {H:Hp}{xs:List V}{M:List It4}(h:JS H xs M) {i:Nat}{x:V}(e:xs[i]?=some x):∃m,M[i]?=some m/\J4 H x m:=by
 obtain ⟨l,f⟩:=AN h
 have hi:=(List.getElem?_eq_some_iff.mp e).1
 have e2:=List.getElem?_eq_getElem (show i<M.length by omega)
 exact ⟨_,e2,f i x _ e e2⟩
def nrm (ns:List Int):List Int:=KG.filter fun k=>decide (k∈ns)
def Gj (i:It4):It4:=(i.1,nrm i.2)
theorem Gn {ns:List Int}{k:Int}:k∈nrm ns↔(0≤k/\k<20)/\k∈ns:=by
 unfold nrm
 rw [List.mem_filter,Gm,decide_eq_true_eq]
theorem Tn (p q:List Int):nrm (p++q)=uni (nrm p) (nrm q):=by
 unfold uni
 show KG.filter _=KG.filter _
 refine List.filter_congr fun k hk=>?_
 have h20:=Gm.mp hk
 rw [Bool.eq_iff_iff,decide_eq_true_eq,decide_eq_true_eq,List.mem_append,Gn,Gn]
 constructor
 ·rintro (h|h)
  ·exact .inl ⟨h20,h⟩
  ·exact .inr ⟨h20,h⟩
 ·rintro (h|h)
  ·exact .inl h.2
  ·exact .inr h.2
theorem Tj {k:Nat}(h:k<20):nrm [(k:Int)]=[(k:Int)]:=by
 refine Ie (IQ.sublist List.filter_sublist) (by simp) fun j=>?_
 rw [Gn,List.mem_singleton]
 constructor
 ·exact fun h=>h.2
 ·rintro rfl
  exact ⟨by omega,rfl⟩
def jn4 (i j:It4):It4:=(mtI i.1 j.1,i.2++j.2)
theorem VH (i j:It4):Gj (jn4 i j)=N9 (Gj i) (Gj j):=by
 unfold Gj jn4 N9
 rw [Tn]
theorem nearF (wi:Int) (i:It4) (B:List It4):(B.filter fun j=>CI wi i.1 j.1).map Gj=(B.map Gj).filter fun j=>CI wi (Gj i).1 j.1:=by
 rw [List.filter_map]
 rfl
theorem LD {wi:Int}{B:List It4}:∀A:List It4,(A.flatMap fun i=>(B.filter fun j=>CI wi i.1 j.1).map (jn4 i)).map Gj=Bq wi (A.map Gj) (B.map Gj)
 | []=>rfl
 | i::A=>by
  unfold Bq
  rw [List.flatMap_cons,List.map_append,LD A,List.map_cons,List.flatMap_cons]
  show _=_++Bq wi (A.map Gj) (B.map Gj)
  congr 1
  rw [←nearF,List.map_map,List.map_map]
  exact List.map_congr_left fun j _=>VH i j
def JF (H0 H:Hp) (x:V) (i:It4):Prop:=∃a p,x=.ref a/\H a=some (.tup [.int i.1.1,.str i.1.2.1,.int i.1.2.2,.ref p])/\H0 p=none/\H p=some (.lst (i.2.map V.int))
theorem JF.keep {H0 H H':Hp}{x:V}{i:It4}(h:JF H0 H x i) (kl:∀b ys,H0 b=none→H b=some (.lst ys)→H' b=some (.lst ys)) (t:Tp H H'):JF H0 H' x i:=let ⟨a,p,e,e1,e2,e3⟩:=h;⟨a,p,e,t _ _ e1,e2,kl _ _ e2 e3⟩
theorem JF.js {H0 H:Hp}{xs:List V}{M:List It4}(h:Paired (JF H0 H) xs M):JS H xs M:=AV (fun _ _ ⟨a,p,e,e1,_,e3⟩=>⟨a,p,e,e1,e3⟩) h
def crs (wi:Int) (A B:List It4):List It4:=A.flatMap fun i=>(B.filter fun j=>CI wi i.1 j.1).map (jn4 i)
theorem O9 (wi:Int) (B:List It4):∀A:List It4,(crs wi A B).length≤A.length * B.length
 | []=>Nat.zero_le _
 | i::A=>by
  have ih:=O9 wi B A
  unfold crs at *
  rw [List.flatMap_cons,List.length_append,List.length_map,List.length_cons,Nat.succ_mul]
  have:=List.length_filter_le (fun j:It4=>CI wi i.1 j.1) B
  omega
theorem Tq {wi:Int}{A B:List It4}{x:It4}(h:x∈crs wi A B):∃i∈A,∃j∈B,x=jn4 i j:=by
 obtain ⟨i,hi,h⟩:=List.mem_flatMap.mp h
 obtain ⟨j,hj,rfl⟩:=List.mem_map.mp h
 exact ⟨i,hi,j,(List.mem_filter.mp hj).1,rfl⟩
def RE (n:Nat):Sp:=fun vs H Q _=>∃(lp le:Addr) (ps:List V) (ss:List Stp) (evs:List Ev) (L:Str→List It4) (i:Nat) (s:Stp),vs=[.ref lp,.str s.nm,.ref le]/\H lp=some (.lst ps)/\Ba H ps ss/\IJ H le evs/\Pr ss L evs/\ss[i]?=some s/\s.tell=false/\i<n /\
 ∀r H' xs M,AK H H'→H r=none→H' r=some (.lst xs)→JS H' xs M→M.map Gj=L s.nm→(∀x∈M,x.2.length≤2 ^ i/\∀k∈x.2,0≤k/\k<20)→Q (.ref r) H'
theorem FI {i j:Nat}(h:i≤j):2 ^ i≤2 ^ j:=Nat.pow_le_pow_right (by decide) h
theorem pow_two {i j k:Nat}(h:i<k) (h':j<k):2 ^ i+2 ^ j≤2 ^ k:=by
 obtain ⟨m,rfl⟩:∃m,k=m+1:=⟨k-1,by omega⟩
 have h1:=FI (show i≤m by omega)
 have h2:=FI (show j≤m by omega)
 rw [Nat.pow_succ]
 omega
theorem P2 (T:Tx K mg ad):∀n:Nat,BM P w K mg base CX0 (n+1) ad.Dt ad.EX ["_law_plan_here", "_law_name_here", "_law_events_here"] (RE n):=by
 intro n
 induction n with
 | zero =>
  refine T.CP.ok HH (fun vs H Q E h=>?_) (fun cdv A outer s H vs Q E hr h=>?_)
  ·obtain ⟨lp,le,ps,ss,evs,L,i,s,rfl,_⟩:=h
   rfl
  ·obtain ⟨lp,le,ps,ss,evs,L,i,s,rfl,_,_,_,_,_,_,hi,_⟩:=h
   exact absurd hi (Nat.not_lt_zero _)
 | succ n ih =>
  have G_uitems:=ih
  refine T.CP.ok HH (fun vs H Q E h=>?_) (fun cdv A outer s H vs Q E hr h=>?_)
  ·obtain ⟨lp,le,ps,ss,evs,L,i,s,rfl,_⟩:=h
   rfl
  ·obtain ⟨lp,le,ps,ss,evs,L,i,st,rfl,elp,pr,ev,ok,ei,ht,hi,k⟩:=h
   have nd:=HH.nd
   refine ⟨_,(AJ (psl 3 nd (BX K (pcm (AL Dq) [("_law_name_here", 1)] ⟨rfl,rfl,trivial⟩ (AY (K:=K) (pvC 0)) (fun _ _ _ _=>Dd (AR BE (Aj K (pvC 0) AB) (pvC 1) (Ab _))) (fun _ _ _ _=>(pvC 0))) AB))
     (Ac (A0 (AR BE (Aj K (pvC 3) AB) Ak (Ab _))
     (AH (AQ (JQ (osc:=AL Dq) [("_law_step", 3)] rfl (Lr (K:=K) (by rfl) T.Bt (pvC 2)) rfl rfl (by decide +kernel) (by decide +kernel) (by decide +kernel) ⟨rfl,rfl,trivial⟩ rfl rfl (by decide +kernel) (fun _ _ _ _=>Dd (AR BE (Aj K (pvC 1) AB) (Aj K (pvC 2) AB) (Ab _))) (fun _ _ _ _=>(Am (AA (Aj K (pvC 1) AB) (AA (Aj K (pvC 1) AB) (AA (Aj K (pvC 1) AB) (AA (Ao (AA (pvC 0) AD)) AD)))))))))
     Al)
     (AJ (psl 4 nd (Lv G_uitems (hr.mono (by omega)) (by rfl) T.Jk T.CP.kp T.J1 .nil Rm (AA (pvC 0) (AA (Aj K (pvC 3) AB) (AA (pvC 2) AD)))))
     (Ac (A0 (AR BE (Aj K (pvC 3) AB) Ak (Ab _))
     (AH (AQ (pcm (AL Dq) [("_law_step", 3)] ⟨rfl,rfl,trivial⟩ (AY (K:=K) (pvC 4)) (fun _ _ _ _=>Dd (JL HS HS (Aj K (pvC 1) AB) (Aj K (pvC 0) AB) (Aj K (pvC 1) AB))) (fun _ _ _ _=>(pvC 0)))))
     Al)
     (Ac (A0 (AR BE (Aj K (pvC 3) AB) Ak (Ab _))
     (AH (AQ (pcm (AL Dq) [("_law_step", 3)] ⟨rfl,rfl,trivial⟩ (AY (K:=K) (pvC 4)) (fun _ _ _ _=>Bc) (fun _ _ _ _=>(Am (AA (Aj K (pvC 0) AB) (AA (Aj K (pvC 0) AB) (AA (AG Az (AG BD (Aj K (pvC 0) AB) (Aj K (pvC 1) AB)) (Aj K (pvC 1) AB)) (AA (Aj K (pvC 0) AB) AD)))))))))
     Al)
     (AJ (psl 5 nd (Lv G_uitems (hr.mono (by omega)) (by rfl) T.Jk T.CP.kp T.J1 .nil Rm (AA (pvC 0) (AA (Aj K (pvC 3) AB) (AA (pvC 2) AD)))))
     (Ac (A0 (AR BE (Aj K (pvC 3) AB) Ak (Ab _))
     (AH (AQ (AG FL (pvC 4) (pvC 5))))
     Al)
     (AJ (psl 6 nd (Ao AD))
     (AJ (BQ PassesOwn.never rfl (AY (K:=K) (pvC 4)) (pgn 7 nd)
     (AH (Bw (BQ PassesOwn.never rfl (AY (K:=K) (pvC 5)) (pgn 8 nd)
     (AH (Bw (A0 (PW.pt (Ln (AR BE (Aj K (pvC 7) AB) (Aj K (pvC 8) AB) (Ab _)) (IM (AR HS (AG Cn (AU (En rfl) (by rfl) T.Fp PyProof.Rows.boot_max (AA (Aj K (pvC 7) AB) (AA (Aj K (pvC 8) AB) AD))) (AU (C2 rfl) (by rfl) T.E7 PyProof.Rows.boot_min (AA (Aj K (pvC 7) AB) (AA (Aj K (pvC 8) AB) AD)))) (Aj K (pvC 3) AB) (Ab _)))))
     (AH (Br (pap K (pvC 6) (AA (Am (AA (AU (En rfl) (by rfl) T.Fp PyProof.Rows.boot_max (AA (Aj K (pvC 7) AB) (AA (Aj K (pvC 8) AB) AD))) (AA (Aj K (pvC 7) AB) (AA (AG Cn (Aj K (pvC 7) AB) (Aj K (pvC 8) AB)) (AA (AG FL (Aj K (pvC 7) AB) (Aj K (pvC 8) AB)) AD))))) AD))))
     Al)))))))
     (AH (AQ (pvC 6)))))))))))),?_⟩
   have sz:sizeLine=16777216:=sizeLine_eq
   have lps:=pr.len
   have lss:=ok.len
   have pok:=ok.ok
   have hi2:=(List.getElem?_eq_some_iff.mp ei).1
   obtain ⟨a,ex,ea⟩:∃a,ps[i]?=some (.ref a)/\StA H a st:=by
    have e:=List.getElem?_eq_getElem (show i<ps.length by omega)
    obtain ⟨a,s',e1,e2,e3⟩:=pr.at e
    rw [ei] at e2
    cases e2
    exact ⟨a,by rw [e,e1],e3⟩
   refine fun _ _ _ _ z1=>⟨lp,rfl,⟨_,SqL.of elp⟩,?_⟩
   refine C1 (K:=K) (xs:=ps) (fun m τ acc H'=>(∃o,τ=[o,some (.str st.nm)])/\H'=H/\(m≤i→acc=[])/\(i<m→acc=[.ref a])) (by omega) ⟨⟨none,rfl⟩,rfl,fun _=>rfl,fun h=>absurd h (Nat.not_lt_zero _)⟩ (fun m τ acc H' ⟨_,e,_⟩=>by rw [e];exact SqL.of elp) ?_ ?_
   ·rintro m y τ acc H' R1 R0 hy _ ⟨⟨o,rfl⟩,rfl,a1,a2⟩ k1 k0
    obtain ⟨b,s',rfl,es,eb⟩:=pr.at hy
    obtain ⟨b0,b1,b2⟩:=eb.word (K:=K)
    refine ⟨_,_,b0,b2,rfl,_,rfl,K7 (fun h=>?_) fun h=>k0 _ _ ⟨⟨_,rfl⟩,rfl,fun q=>a1 (by omega),fun q=>?_⟩⟩
    ·have em:=pok.apart m i s' st es ei h
     subst em
     rw [hy] at ex
     cases ex
     refine (k1 _ _ _ ⟨⟨_,rfl⟩,rfl,fun q=>by omega,fun _=>?_⟩)
     rw [a1 (Nat.le_refl _)]
     rfl
    ·by_cases e:m=i
     ·subst e
      rw [ei] at es
      cases es
      exact absurd rfl h
     ·exact a2 (by omega)
   rintro τ acc H' _ ⟨_,rfl,_,a2⟩ D hD
   rw [a2 (by omega)]
   have s1:=AK.Ay (o:=.lst [.ref a]) hD
   have eD:(upd H' D (.lst [.ref a])) D=some (.lst [.ref a]):=AE
   have hfr:∀{l:Addr},(upd H' D (.lst [.ref a])) l=none→H' l=none:=fun h=>Ic h
   generalize upd H' D (.lst [.ref a])=H1 at s1 eD hfr ⊢
   refine ⟨_,_,SqL.of eD,AF (j:=0) rfl,z1 _ _ ?_⟩
   have ea1:StA H1 a st:=s1 _ _ ea
   obtain ⟨e0,e1,e2⟩:=ea1.word (K:=K)
   obtain ⟨xs,el,wl⟩:=ev.same s1
   have lx:=wl.len
   rw [List.length_map] at lx
   have memS:=List.mem_of_getElem? ei
   obtain ⟨mS,lS⟩:=ok.hL st memS
   have lev:=ok.el
   refine ⟨_,_,e0,e1,rfl,_,rfl,GG (i:=0) rfl (fun q0=>?_) fun q0=>?_⟩
   ·obtain ⟨nn,kd,rfl⟩:∃nn kd,st=.take nn kd:=by cases st <;> first|exact ⟨_,_,rfl⟩|cases q0
    refine ⟨le,rfl,⟨_,SqL.of el⟩,?_⟩
    refine OO (K:=K) (xs:=xs) (fun m acc H'=>AK H1 H'/\JS H' acc (D5 kd (evs.take m))) (by omega) ⟨AK.refl _,.nil⟩ (fun m acc H' ⟨s,_⟩=>SqL.of (s _ _ el)) ?_ ?_
    ·rintro m y pp o1 o2 acc H2 R hy ⟨s,hp⟩ hpp kk
     obtain ⟨b,ks,rfl,ek,eb⟩:=wl.at hy
     rw [List.getElem?_map] at ek
     obtain ⟨⟨t,ki,z,am⟩,ej,rfl⟩:=Option.map_eq_some_iff.mp ek
     have hm:m<evs.length:=(List.getElem?_eq_some_iff.mp ej).1
     have l1:(evs.take m).length=m:=by rw [List.length_take];omega
     have tk:evs.take (m+1)=evs.take m++[(t,ki,z,am)]:=by rw [List.take_add_one,ej];rfl
     have t1:=AK.Ay (o:=.tup [.int (m:Int),.ref b]) hpp
     refine ⟨pp,_,rfl,SqT.of AE,rfl,_,_,rfl,_,_,rfl,rfl,?_⟩
     generalize upd H2 pp (.tup [.int (m:Int),.ref b])=H3 at t1 ⊢
     have s3:=s.trans t1
     have b0:SqT K H3 b _:=SqT.of (s3 _ _ eb)
     have p0:SqT K H3 a _:=SqT.of (s3 _ _ ea1)
     refine ⟨_,_,b0,AF (j:=1) rfl,_,_,p0,AF (j:=2) rfl,rfl,_,rfl,K7 (fun h=>?_) fun h=>?_⟩
     ·refine ⟨_,_,b0,AF (j:=0) rfl,_,_,b0,AF (j:=2) rfl,_,_,b0,AF (j:=3) rfl,le1 rfl,fun p1 hp1=>⟨le1 rfl,fun p2 hp2=>kk _ _ _ _ (by simp) ⟨s3.trans ((AK.Ay hp1).trans (AK.Ay hp2)),?_⟩⟩⟩
      have g2:=(AK.Ay (o:=.lst [.int (m:Int)]) hp1).trans (AK.Ay (o:=.tup [.int t,.str z,.int am,.ref p1]) hp2)
      rw [tk,F1,l1,show Cs kd (t,ki,z,am)=[(t,z,am)] from if_pos h]
      exact AW (JS.same hp (t1.trans g2)) (.cons ⟨p2,p1,rfl,AE,(AK.Ay hp2) _ _ AE⟩ .nil)
     ·refine kk _ _ _ _ (Nat.le_succ _) ⟨s3,?_⟩
      rw [tk,F1,show Cs kd (t,ki,z,am)=[] from if_neg h,List.map_nil,List.append_nil]
      exact JS.same hp t1
    ·rintro acc H2 ⟨s,hp⟩ D hD
     rw [lx,List.take_of_length_le (Nat.le_refl _)] at hp
     have mS:L nn=D5 kd evs:=mS
     refine k D _ acc (D5 kd evs) (s1.trans (s.upd hD)) (hfr (s.free hD)) AE (JS.same hp (AK.Ay hD)) ?_ fun x hx=>?_
     ·show _=L nn
      rw [mS]
      refine (List.map_congr_left (g:=id) fun x hx=>?_).trans (List.map_id _)
      obtain ⟨m,e,em,_,rfl⟩:=Ff hx
      have:=(List.getElem?_eq_some_iff.mp em).1
      show (evI e,nrm [(m:Int)])=(evI e,[(m:Int)])
      rw [Tj (by omega)]
     ·obtain ⟨m,e,em,_,rfl⟩:=Ff hx
      have:=(List.getElem?_eq_some_iff.mp em).1
      exact ⟨Nat.one_le_two_pow,fun k hk=>by rw [List.mem_singleton.mp hk];omega⟩
   obtain ⟨f,hf,e3⟩:∃f,f∈st.As/\atI (st.key.map kV) 2=some (.str f):=by
    cases st <;> first|exact absurd rfl q0|exact ⟨_,.head _,AF (j:=2) rfl⟩
   obtain ⟨i1,t1,l1,ei1,rfl,ht1⟩:=pok.fed i st f ei hf
   refine fun _ _ _ _ z4=>⟨_,_,e0,e3,lp,le,ps,ss,evs,L,i1,t1,rfl,s1 _ _ elp,pr.keep s1.tp,ev.same s1,ok,ei1,ht1,by omega,fun r1 H2 xa MA s2 hr1 er1 wa eA bA=>z4 _ _ ?_⟩
   have lA:=(ok.hL t1 (List.mem_of_getElem? ei1)).2
   rw [←eA,List.length_map] at lA
   have lxa:=(AN wa).1
   have ea2:StA H2 a st:=s2 _ _ ea1
   obtain ⟨e0,e1,e2⟩:=ea2.word (K:=K)
   have S2:=s1.trans s2
   have hfr2:∀{l:Addr},H2 l=none→H' l=none:=fun h=>hfr (s2.free h)
   refine ⟨_,_,e0,e1,rfl,_,rfl,GG (i:=1) rfl (fun q1=>?_) fun q1=>?_⟩
   ·obtain ⟨nn,f,lo,hi',rfl⟩:∃nn f lo hi',st=.only nn f lo hi':=by cases st <;> first|exact ⟨_,_,_,_,rfl⟩|cases q1
    have ef:f=t1.nm:=(List.mem_singleton.mp hf).symm
    subst ef
    refine ⟨r1,rfl,⟨_,SqL.of er1⟩,?_⟩
    refine C1 (K:=K) (xs:=xa) (fun m τ acc H'=>(∃o,τ=[o,some (.ref a)])/\H'=H2/\JS H2 acc ((MA.take m).filter fun i=>decide (lo≤i.1.2.2/\i.1.2.2≤hi'))) (by omega) ⟨⟨none,rfl⟩,rfl,.nil⟩ (fun m τ acc H' ⟨_,ee,_⟩=>by rw [ee];exact SqL.of er1) ?_ ?_
    ·rintro m y τ acc H3 R1 R0 hy _ ⟨⟨o,rfl⟩,rfl,hp⟩ k1 k0
     obtain ⟨⟨⟨t,z,am⟩,ns⟩,ej,b,pl,rfl,eb,epl⟩:=wa.ix hy
     have fs:=GH (p:=fun i:It4=>decide (lo≤i.1.2.2/\i.1.2.2≤hi')) ej
     have no:¬ (lo≤am/\am≤hi')→JS H3 acc ((MA.take (m+1)).filter fun i=>decide (lo≤i.1.2.2/\i.1.2.2≤hi')):=fun q=>by
      rw [fs,if_neg (by rw [decide_eq_true_eq];exact q),List.append_nil]
      exact hp
     refine ⟨_,_,e0,AF (j:=3) rfl,_,_,SqT.of eb,AF (j:=2) rfl,_,rfl,?_⟩
     refine He (fun h1=>?_) fun h1=>⟨_,rfl,ES (k0 _ _ ⟨⟨_,rfl⟩,rfl,no fun q=>h1 q.1⟩)⟩
     refine ⟨_,_,e0,AF (j:=4) rfl,_,rfl,He (fun h2=>?_) fun h2=>k0 _ _ ⟨⟨_,rfl⟩,rfl,no fun q=>h2 q.2⟩⟩
     refine (k1 _ _ _ ⟨⟨_,rfl⟩,rfl,?_⟩)
     rw [fs,if_pos (by rw [decide_eq_true_eq];exact ⟨h1,h2⟩)]
     exact AW hp (.cons ⟨b,pl,rfl,eb,epl⟩ .nil)
    ·rintro τ acc H3 la ⟨_,rfl,hp⟩ D hD
     rw [List.take_of_length_le (by omega)] at hp
     refine k D _ acc _ (S2.upd hD) (hfr2 hD) AE (JS.same hp (AK.Ay hD)) ?_ fun x hx=>⟨Nat.le_trans (bA x (List.mem_filter.mp hx).1).1 (FI (by omega)),(bA x (List.mem_filter.mp hx).1).2⟩
     have mS:L nn=(L t1.nm).filter _:=mS
     show _=L nn
     rw [mS,←eA,List.filter_map]
     rfl
   refine ⟨_,_,e0,e1,rfl,_,rfl,GG (i:=2) rfl (fun q2=>?_) fun q2=>?_⟩
   ·obtain ⟨nn,f,fc,gc,rfl⟩:∃nn f fc gc,st=.turn nn f fc gc:=by cases st <;> first|exact ⟨_,_,_,_,rfl⟩|cases q2
    have ef:f=t1.nm:=(List.mem_singleton.mp hf).symm
    subst ef
    have okf:-100≤fc/\fc≤100:=pok.ok _ memS
    refine ⟨r1,rfl,⟨_,SqL.of er1⟩,?_⟩
    refine A5 (K:=K) (xs:=xa) (fun m τ acc H'=>(∃o,τ=[o,some (.ref a)])/\AK H2 H'/\JS H' acc ((MA.take m).map (Qx fc gc))) (by omega) ⟨⟨none,rfl⟩,AK.refl _,.nil⟩ (fun m τ acc H' ⟨_,s,_⟩=>SqL.of (s _ _ er1)) ?_ ?_
    ·rintro m y τ acc H3 R1 hy _ ⟨⟨o,rfl⟩,s3,hp⟩ k1
     obtain ⟨⟨⟨t,z,am⟩,ns⟩,ej,b,pl,rfl,eb,epl⟩:=wa.ix hy
     have p0:SqT K H3 a _:=SqT.of (s3 _ _ ea2)
     have b0:SqT K H3 b _:=SqT.of (s3 _ _ eb)
     refine ⟨_,_,b0,AF (j:=0) rfl,_,_,b0,AF (j:=1) rfl,_,_,b0,AF (j:=2) rfl,_,_,p0,AF (j:=3) rfl,.inr ⟨by omega,by omega⟩,_,_,p0,AF (j:=4) rfl,_,_,b0,AF (j:=3) rfl,le1 rfl,fun p2 hp2=>k1 _ _ _ ⟨⟨_,rfl⟩,s3.upd hp2,?_⟩⟩
     rw [List.take_add_one,ej,List.map_append]
     exact AW (JS.same hp (AK.Ay hp2)) (.cons ⟨p2,pl,rfl,AE,(s3.upd hp2) _ _ epl⟩ .nil)
    ·rintro τ acc H3 la ⟨_,s3,hp⟩ D hD
     rw [List.take_of_length_le (by omega)] at hp
     refine k D _ acc _ (S2.trans (s3.upd hD)) (hfr2 (s3.free hD)) AE (JS.same hp (AK.Ay hD)) ?_ fun x hx=>?_
     ·have mS:L nn=(L t1.nm).map _:=mS
      show _=L nn
      rw [mS,←eA,List.map_map,List.map_map]
      rfl
     ·obtain ⟨y,hy,rfl⟩:=List.mem_map.mp hx
      exact ⟨Nat.le_trans (bA y hy).1 (FI (by omega)),(bA y hy).2⟩
   obtain ⟨f2,hf2,e3'⟩:∃f2,st.As=[t1.nm,f2]/\atI (st.key.map kV) 3=some (.str f2):=by
    cases st with
    | take n k=>exact absurd rfl q0
    | only n a lo hi=>exact absurd rfl q1
    | turn n a f g=>exact absurd rfl q2
    | gap n a s m=>cases ht
    | each n a s z d=>cases ht
    | both n a b =>
     have:a=t1.nm:=V.str.inj (Option.some.inj ((AF (xs:=(Stp.both n a b).key.map kV) (j:=2) rfl).symm.trans e3))
     exact ⟨b,by rw [←this];rfl,AF (j:=3) rfl⟩
    | join n a b wi =>
     have:a=t1.nm:=V.str.inj (Option.some.inj ((AF (xs:=(Stp.join n a b wi).key.map kV) (j:=2) rfl).symm.trans e3))
     exact ⟨b,by rw [←this];rfl,AF (j:=3) rfl⟩
   obtain ⟨i2,t2,l2,ei2,rfl,ht2⟩:=pok.fed i st f2 ei (by rw [hf2];exact .tail _ (.head _))
   refine fun _ _ _ _ z9=>⟨_,_,e0,e3',lp,le,ps,ss,evs,L,i2,t2,rfl,S2 _ _ elp,pr.keep S2.tp,ev.same S2,ok,ei2,ht2,by omega,fun r2 H3 xb MB s3 hr2 er2 wb eB bB=>z9 _ _ ?_⟩
   have lB:=(ok.hL t2 (List.mem_of_getElem? ei2)).2
   rw [←eB,List.length_map] at lB
   have lxb:=(AN wb).1
   have S3:=S2.trans s3
   have ea3:StA H3 a st:=s3 _ _ ea2
   have er13:=s3 _ _ er1
   have wa3:=wa.same s3
   obtain ⟨e0,e1,e2⟩:=ea3.word (K:=K)
   clear z1 z4 z9
   refine ⟨_,_,e0,e1,rfl,_,rfl,GG (i:=3) rfl (fun q3=>?_) fun q3=>?_⟩
   ·obtain ⟨nn,f,g,rfl⟩:∃nn f g,st=.both nn f g:=by cases st <;> first|exact ⟨_,_,_,rfl⟩|cases q3
    have ef:[f,g]=[t1.nm,t2.nm]:=hf2
    injection ef with ef eg
    injection eg with eg _
    subst ef eg
    refine ⟨r1,r2,xa,xb,rfl,rfl,er13,er2,by omega,fun D hD=>k D _ _ (MA++MB) (S3.upd hD) (hfr2 (s3.free hD)) AE (JS.same (AW wa3 wb) (AK.Ay hD)) ?_ fun x hx=>?_⟩
    ·have mS:L nn=L t1.nm++L t2.nm:=mS
     show _=L nn
     rw [mS,List.map_append,eA,eB]
    ·rcases List.mem_append.mp hx with hx|hx
     ·exact ⟨Nat.le_trans (bA x hx).1 (FI (by omega)),(bA x hx).2⟩
     ·exact ⟨Nat.le_trans (bB x hx).1 (FI (by omega)),(bB x hx).2⟩
   obtain ⟨nn,f,g,wi,rfl⟩:∃nn f g wi,st=.join nn f g wi:=by
    cases st with
    | take n k=>exact absurd rfl q0
    | only n a lo hi=>exact absurd rfl q1
    | turn n a f g=>exact absurd rfl q2
    | gap n a s m=>cases ht
    | each n a s z d=>cases ht
    | both n a b=>exact absurd rfl q3
    | join n a b wi=>exact ⟨_,_,_,_,rfl⟩
   have ef:[f,g]=[t1.nm,t2.nm]:=hf2
   injection ef with ef eg
   injection eg with eg _
   subst ef eg
   have mS:L nn=Bq wi (L t1.nm) (L t2.nm):=mS
   refine fun _ _ _ _ z12=>⟨Nat.zero_le _,fun u hu=>z12 _ _ ?_⟩
   refine An (o:=.lst []) hu fun H4 t0 eu0=>?_
   have lmul:MA.length * MB.length≤100 * 100:=Nat.mul_le_mul lA lB
   have p20:(2:Nat) ^ i1+2 ^ i2≤2 ^ i:=pow_two l1 l2
   have p20':(2:Nat) ^ i≤2 ^ 20:=FI (by omega)
   refine fun _ _ _ _ z13=>⟨r1,rfl,⟨_,SqL.of (t0 _ _ er13)⟩,BO (K:=K) (xs:=xa) (fun n σ H'=>∃(o7 o8:Option V) (acc:List V),σ=[some (.ref lp),some (.str nn),some (.ref le),some (.ref a),some (.ref r1),some (.ref r2),some (.ref u),o7,o8]/\Fz u H4 H'/\H' u=some (.lst acc)/\Paired (JF H4 H') acc (crs wi (MA.take n) MB))
    ⟨none,none,[],rfl,(AK.refl _).x _,eu0,.nil⟩ (fun n σ H' _ ⟨_,_,_,_,x',_⟩=>SqL.of (x' _ _ (AM er13 hu) (t0 _ _ er13))) ?_ ?_⟩
   ·rintro j x σ H5 hx ⟨o7,o8,acc,rfl,x5,eu5,hw5⟩
    obtain ⟨ii,eij,b,pl,rfl,eb,epl⟩:=wa3.ix hx
    have hj:j<MA.length:=(List.getElem?_eq_some_iff.mp eij).1
    refine fun _ _ _ _ z14=>⟨r2,rfl,⟨_,SqL.of (x5 _ _ (AM er2 hu) (t0 _ _ er2))⟩,BO (K:=K) (xs:=xb) (fun m σ H'=>∃(o8:Option V) (acc:List V),σ=[some (.ref lp),some (.str nn),some (.ref le),some (.ref a),some (.ref r1),some (.ref r2),some (.ref u),some (.ref b),o8]/\Fz u H4 H'/\H' u=some (.lst acc)/\Paired (JF H4 H') acc (crs wi (MA.take j) MB++((MB.take m).filter fun y=>CI wi ii.1 y.1).map (jn4 ii)))
     ⟨_,acc,rfl,x5,eu5,by simpa using hw5⟩ (fun m σ H' _ ⟨_,_,_,x',_⟩=>SqL.of (x' _ _ (AM er2 hu) (t0 _ _ er2))) ?_ ?_⟩
    ·rintro m y σ H6 hy ⟨o8,acc,rfl,x6,eu6,hw6⟩
     obtain ⟨jj,ejj,c,pm,rfl,ec,epm⟩:=wb.ix hy
     have k36:∀b o,H3 b=some o→H6 b=some o:=fun b o e=>x6 _ _ (AM e hu) (t0 _ _ e)
     have fs:=GH (p:=fun y:It4=>CI wi ii.1 y.1) ejj
     have b6:SqT K H6 b _:=SqT.of (k36 _ _ eb)
     have c6:SqT K H6 c _:=SqT.of (k36 _ _ ec)
     have p6:SqT K H6 a _:=SqT.of (k36 _ _ ea3)
     have no:¬ (jj.1.2.1=ii.1.2.1/\ii.1.1-wi≤jj.1.1/\jj.1.1≤ii.1.1+wi)→Paired (JF H4 H6) acc (crs wi (MA.take j) MB++((MB.take (m+1)).filter fun y=>CI wi ii.1 y.1).map (jn4 ii)):=fun q=>by
      rw [fs,if_neg (by unfold CI;rw [decide_eq_true_eq];exact q),List.append_nil]
      exact hw6
     refine fun _ _ _ _ z15=>⟨_,_,b6,AF (j:=1) rfl,_,_,c6,AF (j:=1) rfl,rfl,_,rfl,K7 (fun h1=>?_) fun h1=>ES (z15 _ _ ⟨_,acc,rfl,x6,eu6,no fun q=>h1 q.1.symm⟩)⟩
     have h1:ii.1.2.1=jj.1.2.1:=h1
     refine ⟨_,_,b6,AF (j:=0) rfl,_,_,c6,AF (j:=0) rfl,_,_,b6,AF (j:=0) rfl,_,_,c6,AF (j:=0) rfl,_,_,p6,AF (j:=4) rfl,_,rfl,He (fun h2=>?_) fun h2=>z15 _ _ ⟨_,acc,rfl,x6,eu6,no fun q=>h2 ?_⟩⟩
     ·have h2:(if jj.1.1 > ii.1.1 then jj.1.1 else ii.1.1)-(if jj.1.1<ii.1.1 then jj.1.1 else ii.1.1)≤wi:=h2
      have near:CI wi ii.1 jj.1=true:=by
       unfold CI
       refine decide_eq_true ⟨h1.symm,?_⟩
       split at h2 <;> split at h2 <;> omega
      have lac:acc.length≤20000:=by
       rw [(AN hw6).1,List.length_append,List.length_map]
       have h3:=O9 wi MB (MA.take j)
       rw [List.length_take] at h3
       have h4:=List.length_filter_le (fun y:It4=>CI wi ii.1 y.1) (MB.take m)
       rw [List.length_take] at h4
       have h5:=Nat.mul_le_mul (show min j MA.length≤100 by omega) lB
       omega
      have la1:=(bA ii (List.mem_of_getElem? eij)).1
      have la2:=(bB jj (List.mem_of_getElem? ejj)).1
      refine ⟨.inl ⟨rfl,_,SqL.of eu6⟩,_,_,b6,AF (j:=0) rfl,_,_,c6,AF (j:=0) rfl,_,_,b6,AF (j:=1) rfl,_,_,b6,AF (j:=2) rfl,_,_,c6,AF (j:=2) rfl,_,_,b6,AF (j:=3) rfl,_,_,c6,AF (j:=3) rfl,pl,pm,_,_,rfl,rfl,k36 _ _ epl,k36 _ _ epm,by rw [List.length_map,List.length_map];omega,fun p1 hp1=>?_⟩
      rw [←List.map_append]
      refine An (o:=.lst ((ii.2++jj.2).map V.int)) hp1 fun H7 g1 f1=>?_
      refine ⟨le1 rfl,fun p2 hp2=>?_⟩
      have g2:=AK.Ay (o:=.tup [.int (mx ii.1.1 jj.1.1),.str ii.1.2.1,.int (ii.1.2.2-jj.1.2.2),.ref p1]) hp2
      have f2:(upd H7 p2 (.tup [.int (mx ii.1.1 jj.1.1),.str ii.1.2.1,.int (ii.1.2.2-jj.1.2.2),.ref p1])) p2=some (.tup [.int (mx ii.1.1 jj.1.1),.str ii.1.2.1,.int (ii.1.2.2-jj.1.2.2),.ref p1]):=AE
      have g12:=g1.trans g2
      have eu8:=g12 _ _ eu6
      have hp10:H4 p1=none:=by
       cases hq:H4 p1 with
       | none=>rfl
       | some o =>
        by_cases q:p1=u
        ·rw [q,eu6] at hp1;cases hp1
        ·have:=x6 _ _ q hq
         rw [hp1] at this
         cases this
      have tp:Tp (upd H7 p2 (.tup [.int (mx ii.1.1 jj.1.1),.str ii.1.2.1,.int (ii.1.2.2-jj.1.2.2),.ref p1])) (upd (upd H7 p2 (.tup [.int (mx ii.1.1 jj.1.1),.str ii.1.2.1,.int (ii.1.2.2-jj.1.2.2),.ref p1])) u (.lst (acc++[.ref p2]))):=(Tp.refl _).upd eu8 fun xs=>by intro z;cases z
      have kl:∀b ys,H4 b=none→(upd H7 p2 (.tup [.int (mx ii.1.1 jj.1.1),.str ii.1.2.1,.int (ii.1.2.2-jj.1.2.2),.ref p1])) b=some (.lst ys)→(upd (upd H7 p2 (.tup [.int (mx ii.1.1 jj.1.1),.str ii.1.2.1,.int (ii.1.2.2-jj.1.2.2),.ref p1])) u (.lst (acc++[.ref p2]))) b=some (.lst ys):=fun b ys nb e=>by
       rw [AO (fun q=>by rw [q,eu0] at nb;cases nb)]
       exact e
      refine ⟨u,acc,.ref p2,rfl,rfl,eu8,by omega,z15 _ _ ⟨_,acc++[.ref p2],rfl,fun b o nb e=>by rw [AO nb];exact g12 _ _ (x6 b o nb e),AE,?_⟩⟩
      rw [fs,if_pos near,List.map_append,←List.append_assoc]
      exact AW (AV (fun x q h=>(h.keep (fun b ys _ e=>g12 _ _ e) g12.tp).keep kl tp) hw6) (.cons ⟨p2,p1,rfl,tp _ _ f2,hp10,kl _ _ hp10 (g2 _ _ f1)⟩ .nil)
     ·show (if jj.1.1 > ii.1.1 then jj.1.1 else ii.1.1)-(if jj.1.1<ii.1.1 then jj.1.1 else ii.1.1)≤wi
      obtain ⟨_,q1,q2⟩:=q
      split <;> split <;> omega
    ·rintro σ H6 ⟨o8,acc,rfl,x6,eu6,hw6⟩
     rw [lxb,List.take_of_length_le (Nat.le_refl _)] at hw6
     refine z14 _ _ ⟨_,_,acc,rfl,x6,eu6,?_⟩
     rw [List.take_add_one,eij]
     show Paired _ _ (crs wi (MA.take j++[ii]) MB)
     unfold crs
     rw [K9]
     exact hw6
   ·rintro σ H5 ⟨o7,o8,acc,rfl,x5,eu5,hw5⟩
    rw [lxa,List.take_of_length_le (Nat.le_refl _)] at hw5
    have s35:AK H3 H5:=fun b o e=>x5 _ _ (AM e hu) (t0 _ _ e)
    refine z13 _ _ (k u _ acc (crs wi MA MB) (S3.trans s35) (hfr2 (s3.free hu)) eu5 (JF.js hw5) ?_ fun x hx=>?_)
    ·show _=L nn
     rw [mS,←eA,←eB]
     exact LD MA
    ·obtain ⟨y,hy,y',hy',rfl⟩:=Tq hx
     refine ⟨?_,fun k hk=>?_⟩
     ·show (y.2++y'.2).length≤_
      rw [List.length_append]
      have:=(bA y hy).1
      have:=(bB y' hy').1
      omega
     ·rcases List.mem_append.mp hk with hk|hk
      ·exact (bA y hy).2 k hk
      ·exact (bB y' hy').2 k hk
theorem Kp {N M:List It4}(p:N.Perm M):Dc N=Dc M:=by
 unfold Dc
 refine List.filter_congr fun k _=>?_
 rw [Bool.eq_iff_iff,List.any_eq_true,List.any_eq_true]
 constructor
 ·rintro ⟨i,hi,q⟩;exact ⟨i,p.mem_iff.mp hi,q⟩
 ·rintro ⟨i,hi,q⟩;exact ⟨i,p.mem_iff.mpr hi,q⟩
def inW (q:MkI) (x:It4):Prop:=x.1.2.1=q.1.2.2.1/\q.1.2.2.2.1≤x.1.1/\x.1.1<q.1.1
def RB:Sp:=fun vs H Q _=>∃(lp rr le:Addr) (ps:List V) (ss:List Stp) (evs:List Ev) (L:Str→List It4) (q:MkI),vs=[.ref lp,.ref rr,.ref le]/\H lp=some (.lst ps)/\Ba H ps ss/\IJ H le evs/\Pr ss L evs/\H rr=some (.tup ((Ck ss q).map kV))/\IsM ss L q/\(∀(i:Nat) s,ss[i]?=some s→s.tell=false→i≤5) /\
 ∀r H',AK H H'→H r=none→H' r=some (.lst ((Dc q.2).map V.int))→Q (.ref r) H'
theorem N6 (T:Tx K mg ad):BM P w K mg base CX0 30 ad.C4 ad.Dg ["_law_plan_here", "_law_row", "_law_events_here"] RB:=by
 have G_uitems:=BA.mk (P2 (P:=P) (w:=w) (base:=base) T 20) T.Jk T.CP.kp T.J1
 refine T.DE.ok Ir (fun vs H Q E h=>?_) (fun cdv A outer s H vs Q E hr h=>?_)
 ·obtain ⟨lp,rr,le,ps,ss,evs,L,q,rfl,_⟩:=h
  rfl
 ·obtain ⟨lp,rr,le,ps,ss,evs,L,q,rfl,elp,pr,ev,ok,err,im,ix5,k⟩:=h
  have nd:=Ir.nd
  refine ⟨_,(AJ (psl 3 nd (BX K (pcm (AL FX) [("_law_row", 1)] ⟨rfl,rfl,trivial⟩ (AY (K:=K) (pvC 0)) (fun _ _ _ _=>Dd (AR BE (Aj K (pvC 0) AB) (Aj K (pvC 1) AB) (Ab _))) (fun _ _ _ _=>(pvC 0))) AB))
    (AJ (psl 4 nd (Ao AD))
    (AJ (BQ PassesOwn.never rfl (AY (K:=K) (AI G_uitems hr (AA (pvC 0) (AA (Aj K (pvC 3) AB) (AA (pvC 2) AD))))) (pgn 5 nd)
    (AH (Bw (A0 (PW.pt (Ln (AR BE (Aj K (pvC 5) AB) (Aj K (pvC 1) AB) (Ab _)) (IM (JL HS N1 (Aj K (pvC 1) AB) (Aj K (pvC 5) AB) (Aj K (pvC 1) AB)))))
    (AH (psl 4 nd (AG FL (pvC 4) (Aj K (pvC 5) AB))))
    Al))))
    (AH (AQ (JO (K:=K) rfl (by rfl) T.CN (by rfl) T.KY (pvC 4))))))),?_⟩
  have sz:sizeLine=16777216:=sizeLine_eq
  have lps:=pr.len
  have lss:=ok.len
  have pok:=ok.ok
  obtain ⟨st,f,est,ht,hf,wp,p,as⟩:=im
  have hi2:=(List.getElem?_eq_some_iff.mp est).1
  have enm:nmF ss q.1.2.1=st.nm:=by unfold nmF;rw [est]
  obtain ⟨a,ex,ea⟩:∃a,ps[q.1.2.1]?=some (.ref a)/\StA H a st:=by
   have e:=List.getElem?_eq_getElem (show q.1.2.1<ps.length by omega)
   obtain ⟨a,s',e1,e2,e3⟩:=pr.at e
   rw [est] at e2
   cases e2
   exact ⟨a,by rw [e,e1],e3⟩
  refine fun _ _ _ _ z1=>⟨lp,rfl,⟨_,SqL.of elp⟩,?_⟩
  refine C1 (K:=K) (xs:=ps) (fun m τ acc H'=>(∃o,τ=[o,some (.ref rr)])/\H'=H/\(m≤q.1.2.1→acc=[])/\(q.1.2.1<m→acc=[.ref a])) (by omega) ⟨⟨none,rfl⟩,rfl,fun _=>rfl,fun h=>absurd h (Nat.not_lt_zero _)⟩ (fun m τ acc H' ⟨_,e,_⟩=>by rw [e];exact SqL.of elp) ?_ ?_
  ·rintro m y τ acc H' R1 R0 hy _ ⟨⟨o,rfl⟩,rfl,a1,a2⟩ k1 k0
   obtain ⟨b,s',rfl,es,eb⟩:=pr.at hy
   obtain ⟨b0,b1,b2⟩:=eb.word (K:=K)
   refine ⟨_,_,b0,b2,_,_,SqT.of err,AF (j:=0) rfl,rfl,_,rfl,K7 (fun h=>?_) fun h=>k0 _ _ ⟨⟨_,rfl⟩,rfl,fun q=>a1 (by omega),fun c=>?_⟩⟩
   ·have h:s'.nm=nmF ss q.1.2.1:=h
    have em:=pok.apart m q.1.2.1 s' st es est (h.trans enm)
    rw [em] at hy
    rw [hy] at ex
    cases ex
    refine (k1 _ _ _ ⟨⟨_,rfl⟩,rfl,fun c=>by omega,fun _=>?_⟩)
    rw [a1 (by omega)]
    rfl
   ·by_cases e:m=q.1.2.1
    ·rw [e,est] at es
     cases es
     exact absurd enm.symm h
    ·exact a2 (by omega)
  rintro τ acc H' _ ⟨_,rfl,_,a2⟩ D hD
  rw [a2 (by omega)]
  have s1:=AK.Ay (o:=.lst [.ref a]) hD
  have eD:(upd H' D (.lst [.ref a])) D=some (.lst [.ref a]):=AE
  have hfr:∀{l:Addr},(upd H' D (.lst [.ref a])) l=none→H' l=none:=fun h=>Ic h
  generalize upd H' D (.lst [.ref a])=H1 at s1 eD hfr ⊢
  refine ⟨_,_,SqL.of eD,AF (j:=0) rfl,z1 _ _ ?_⟩
  refine fun _ _ _ _ z2=>⟨Nat.zero_le _,fun pl hpl=>z2 _ _ ?_⟩
  refine An (o:=.lst []) hpl fun H2 s2 epl=>?_
  have S2:=s1.trans s2
  obtain ⟨_,f',hf',e2f⟩:=StA.sort (H:=H') (p:=a) ht
  rw [hf] at hf'
  cases hf'
  obtain ⟨i1,t1,l1,ei1,rfl,ht1⟩:=pok.fed _ st f est (by rw [hf];exact .head _)
  have i5:=ix5 i1 t1 ei1 ht1
  have p32:(2:Nat) ^ i1≤2 ^ 5:=FI i5
  refine fun _ _ _ _ z3=>⟨_,_,SqT.of (S2 _ _ ea),e2f,lp,le,ps,ss,evs,L,i1,t1,rfl,S2 _ _ elp,pr.keep S2.tp,ev.same S2,ok,ei1,ht1,by omega,fun r1 H3 xa MA s3 hr1 er1 wa eA bA=>⟨r1,rfl,⟨_,SqL.of er1⟩,?_⟩⟩
  have lA:=(ok.hL t1 (List.mem_of_getElem? ei1)).2
  rw [←eA,List.length_map] at lA
  have lxa:=(AN wa).1
  have S3:=S2.trans s3
  refine BO (K:=K) (xs:=xa) (fun n σ G=>∃(o5:Option V) (pl:Addr) (ns:List Int),σ=[some (.ref lp),some (.ref rr),some (.ref le),some (.ref a),some (.ref pl),o5]/\AK H3 G/\G pl=some (.lst (ns.map V.int))/\ns.length≤32 * n/\∀c,c∈ns↔∃x∈MA.take n,inW q x/\c∈x.2)
   ⟨none,pl,[],rfl,AK.refl _,s3 _ _ epl,Nat.zero_le _,fun c=>by simp⟩ (fun n σ G _ ⟨_,_,_,_,s',_⟩=>SqL.of (s' _ _ er1)) ?_ ?_
  ·rintro n y σ G hy ⟨o5,pl,ns,rfl,s4,ep4,ln,mem⟩
   obtain ⟨x,ex',b,pb,rfl,eb,epb⟩:=wa.ix hy
   have hn:n<MA.length:=(List.getElem?_eq_some_iff.mp ex').1
   have b4:SqT K G b _:=SqT.of (s4 _ _ eb)
   have r4:SqT K G rr ((Ck ss q).map kV):=SqT.of ((S3.trans s4) _ _ err)
   have no:¬ inW q x→∀c,c∈ns↔∃x∈MA.take (n+1),inW q x/\c∈x.2:=fun ni c=>by
    rw [mem]
    constructor
    ·rintro ⟨y,hy,r⟩
     exact ⟨y,(A8 ex' y).mpr (.inl hy),r⟩
    ·rintro ⟨y,hy,r⟩
     rcases (A8 ex' y).mp hy with h|h
     ·exact ⟨y,h,r⟩
     ·exact absurd (h ▸ r.1) ni
   refine fun _ _ _ _ z4=>⟨_,_,b4,AF (j:=1) rfl,_,_,r4,AF (j:=1) rfl,rfl,_,rfl,K7 (fun h1=>?_) fun h1=>ES (z4 _ _ ⟨_,pl,ns,rfl,s4,ep4,by omega,no fun w=>h1 w.1⟩)⟩
   have h1:x.1.2.1=q.1.2.2.1:=h1
   refine ⟨_,_,r4,AF (j:=2) rfl,_,_,b4,AF (j:=0) rfl,_,rfl,He (fun h2=>?_) fun h2=>⟨_,rfl,ES (z4 _ _ ⟨_,pl,ns,rfl,s4,ep4,by omega,no fun w=>h2 w.2.1⟩)⟩⟩
   refine ⟨_,_,r4,AF (j:=3) rfl,_,rfl,He (fun h3=>?_) fun h3=>z4 _ _ ⟨_,pl,ns,rfl,s4,ep4,by omega,no fun w=>h3 w.2.2⟩⟩
   have lb:=(bA x (List.mem_of_getElem? ex')).1
   refine ⟨_,_,b4,AF (j:=3) rfl,pl,pb,_,_,rfl,rfl,ep4,s4 _ _ epb,by rw [List.length_map,List.length_map];omega,fun pn hpn=>z4 _ _ ⟨_,pn,ns++x.2,rfl,s4.upd hpn,by rw [AE,List.map_append],by rw [List.length_append];omega,fun c=>?_⟩⟩
   rw [List.mem_append,mem]
   constructor
   ·rintro (⟨y,hy,r⟩|h)
    ·exact ⟨y,(A8 ex' y).mpr (.inl hy),r⟩
    ·exact ⟨x,(A8 ex' x).mpr (.inr rfl),⟨h1,h2,h3⟩,h⟩
   ·rintro ⟨y,hy,r⟩
    rcases (A8 ex' y).mp hy with h|h
    ·exact .inl ⟨y,h,r⟩
    ·exact .inr (h ▸ r.2)
  ·rintro σ G ⟨o5,pl,ns,rfl,s4,ep4,ln,mem⟩
   rw [lxa] at mem ln
   rw [List.take_of_length_le (Nat.le_refl _)] at mem
   have sb:scanBound=4096:=by rfl
   have ek:ns.map V.int=(ns.map (Sum.inl:Int→Key)).map kV:=by rw [List.map_map];rfl
   rw [ek] at ep4
   refine z3 _ _ ⟨pl,ns.map Sum.inl,rfl,.inl (SqL.of ep4),.inl fun c hc=>(by obtain ⟨n,_,rfl⟩:=List.mem_map.mp hc;exact ⟨n,rfl⟩),by rw [List.length_map];omega,fun l rs hl prs so=>?_⟩
   obtain ⟨bs,er,up,mb⟩:=Kt prs so
   have okL:=Lq ok.ok ok.el (fun s hs=>(ok.hL s hs).1) t1 (List.mem_of_getElem? ei1)
   have okq:MOk q.2:=fun i hi=>okL i (List.mem_filter.mp (List.mem_filter.mp (p.mem_iff.mp hi)).1).1
   have e:bs=Dc q.2:=Ie up (Oe _) fun c=>by
    rw [mb,mem,Jg okq]
    constructor
    ·rintro ⟨x,hx,iw,hc⟩
     refine ⟨Gj x,p.mem_iff.mpr (List.mem_filter.mpr ⟨List.mem_filter.mpr ⟨?_,decide_eq_true iw.1⟩,?_⟩),Gn.mpr ⟨(bA x hx).2 c hc,hc⟩⟩
     ·rw [←eA];exact List.mem_map.mpr ⟨x,hx,rfl⟩
     ·unfold inT;exact decide_eq_true iw.2
    ·rintro ⟨i,hi,hc⟩
     obtain ⟨j1,j2⟩:=List.mem_filter.mp (p.mem_iff.mp hi)
     obtain ⟨j3,j4⟩:=List.mem_filter.mp j1
     rw [←eA] at j3
     obtain ⟨x,hx,rfl⟩:=List.mem_map.mp j3
     unfold inT at j2
     exact ⟨x,hx,⟨of_decide_eq_true j4,of_decide_eq_true j2⟩,(Gn.mp hc).2⟩
   have S4:=S3.trans s4
   refine k l _ (S4.upd hl) (S4.free hl) ?_
   rw [AE,er,e,List.map_map]
   rfl
def whD (ss:List Stp) (q:MkI):PyData:=.tuple [ktD (Ck ss q),.list ((Dc q.2).map PyData.int)]
theorem Ph {ss:List Stp}{q:MkI}(h:Ek (Ck ss q)=true):SeqAt.shaped (whD ss q)=true:=by
 obtain ⟨a,b⟩:=FQ _ h
 have c:∀ns:List Int,PyData.canLayAll0 (ns.map PyData.int)=true/\PyData.depthAll (ns.map PyData.int)=0:=fun ns=>by
  induction ns with
  | nil=>exact ⟨rfl,rfl⟩
  | cons n ns ih=>simp [PyData.canLayAll0,PyData.canLay0,PyData.depthAll,PyData.depth,ih.1,ih.2]
 obtain ⟨c1,c2⟩:=c (Dc q.2)
 simp [whD,ktD,SeqAt.shaped,PyData.canLayAll0,PyData.canLay0,PyData.depthAll,PyData.depth,a,b,c1,c2]
theorem WhA.dv {ss:List Stp}{H0 H:Hp}{x:V}{q:MkI}(h:WhA ss H0 H x q):Dv K H x (whD ss q):=by
 obtain ⟨a,ra,la,rfl,e1,e2,_,e4⟩:=h
 exact .tup (SqT.of e1) (.cons (.tup (SqT.of e2) (Dr _)) (.cons (.lst (SqL.of e4) (Gv _)) .nil))
theorem WhA.ix {ss:List Stp}{H0 H:Hp}{xs:List V}{qs:List MkI}(h:Paired (WhA ss H0 H) xs qs) {i:Nat}{x:V}(e:xs[i]?=some x):∃q,qs[i]?=some q/\WhA ss H0 H x q:=by
 obtain ⟨l,f⟩:=AN h
 have hi:=(List.getElem?_eq_some_iff.mp e).1
 have e2:=List.getElem?_eq_getElem (show i<qs.length by omega)
 exact ⟨_,e2,f i x _ e e2⟩
def TC:Sp:=fun vs H Q _=>∃(lf ld:Addr) (H0 H1:Hp) (ss:List Stp) (xs ys:List V) (qs:List MkI),vs=[.ref lf,.ref ld]/\H lf=some (.lst xs)/\H ld=some (.lst ys)/\Paired (WhA ss H0 H) xs qs/\Paired (WhA ss H1 H) ys qs/\(∀q∈qs,Ek (Ck ss q)=true)/\qs.length≤4200000/\∀H',AK H H'→Q (.bl true) H'
theorem Ru (T:Tx K mg ad):BM P w K mg base CX0 1 ad.Ds ad.EW ["_law_found", "_law_due"] TC:=by
 refine T.Dz.ok Kk (fun vs H Q E h=>?_) (fun cdv A outer s H vs Q E hr h=>?_)
 ·obtain ⟨lf,ld,H0,H1,ss,xs,ys,qs,rfl,_⟩:=h
  rfl
 ·obtain ⟨lf,ld,H0,H1,ss,xs,ys,qs,rfl,elf,eld,px,py,rok,lq,k⟩:=h
  have nd:=Kk.nd
  refine ⟨_,(AJ (A0 (PW.pt (Kq (JK (FH (AU (DS (K:=K)) (by rfl) T.BC PyProof.Rows.boot_isinstance (AA (pv 0) (AA (Ge (v:=.ty "list") (by rfl) T.Cv PyProof.Rows.boot_list rfl) AD))))) (JJ (AR UT (AU (A7 (K:=K)) (by rfl) T.CO PySem.boot_len (AA (pv 0) AD)) (AU (A7 (K:=K)) (by rfl) T.CO PySem.boot_len (AA (pv 1) AD)) (Ab _)))))
    (AH (AQ FJ))
    Al)
    (AJ (BQ PassesOwn.never rfl (Fc (by rfl) T.DK (AA (AU (A7 (K:=K)) (by rfl) T.CO PySem.boot_len (AA (pv 1) AD)) AD)) (pgn 2 nd)
    (AJ (A0 (PW.pt (Kq (JK (FH (AU (DS (K:=K)) (by rfl) T.BC PyProof.Rows.boot_isinstance (AA (pxl K (pv 0) (pv 2)) (AA (Ge (v:=.ty "tuple") (by rfl) T.Ec PyProof.Rows.boot_tuple rfl) AD))))) (Kq (AR UT (AU (A7 (K:=K)) (by rfl) T.CO PySem.boot_len (AA (pxl K (pv 0) (pv 2)) AD)) AB (Ab _)) (JJ (JK (FH (AU (DS (K:=K)) (by rfl) T.BC PyProof.Rows.boot_isinstance (AA (pxt K (pxl K (pv 0) (pv 2)) AB) (AA (Ge (v:=.ty "list") (by rfl) T.Cv PyProof.Rows.boot_list rfl) AD)))))))))
    (AH (AQ FJ))
    Al)
    (AH (Bw (A0 (PW.pt (Kq (AR (Ny (K:=K) hr.units) (pxl K (pv 0) (pv 2)) (pxl K (pv 1) (pv 2)) (Ab _)) (JJ (AR (JU (K:=K) hr.Ih) (pcm (AL GW) [] trivial (AY (K:=K) (pxt K (pxl K (pv 0) (pv 2)) AB)) (fun _ _ _ _=>Dd (FH (AU (DS (K:=K)) (by rfl) T.BC PyProof.Rows.boot_isinstance (AA (pv 0) (AA (Ge (v:=.ty "bool") (by rfl) T.IZ PyProof.Rows.boot_bool rfl) AD))))) (fun _ _ _ _=>(pv 0))) (Ao AD) (Ab _)))))
    (AH (AQ FJ))
    Al)))))
    (AH (AQ FJ)))),?_⟩
  have sz:sizeLine=16777216:=sizeLine_eq
  have lx:=(AN px).1
  have ly:=(AN py).1
  refine fun _ _ _ _ z1=>⟨_,rfl,_, "list", _,true,rfl,.lst elf,rfl,_,rfl,ES ⟨_,rfl,lf,_,rfl,.inl (SqL.of elf),_,rfl,ld,_,rfl,.inl (SqL.of eld),rfl,_,rfl,SR (by rw [lx,ly];simp) (z1 _ _ ?_)⟩⟩
  refine fun _ _ _ _ z3=>⟨_,rfl,ld,_,rfl,.inl (SqL.of eld),_,rfl,by omega,by omega,Fh (lo:=0) (n:=((ys.length:Nat):Int).toNat) (fun i σ H'=>(∃o,σ=[some (.ref lf),some (.ref ld),o])/\AK H H') ⟨⟨none,rfl⟩,AK.refl _⟩ ?_ ?_⟩
  ·rintro i σ H2 hi ⟨⟨o,rfl⟩,s2⟩
   have hx:i<xs.length:=by omega
   have hy:i<ys.length:=by omega
   have ex:=List.getElem?_eq_getElem hx
   have ey:=List.getElem?_eq_getElem hy
   obtain ⟨q,eq,wx⟩:=WhA.ix px ex
   obtain ⟨q',eq',wy⟩:=WhA.ix py ey
   rw [eq] at eq'
   cases eq'
   have wx2:=wx.same s2
   have wy2:=wy.same s2
   have hq:=rok q (List.mem_of_getElem? eq)
   obtain ⟨a,ra,la,ea0,ea,err,_,ela⟩:=id wx2
   have ax:atI xs (0+(i:Int))=some (.ref a):=by rw [Int.zero_add,←ea0];exact AF ex
   have ay:atI ys (0+(i:Int))=some ys[i]:=by rw [Int.zero_add];exact AF ey
   have ef2:SqL K H2 lf xs:=SqL.of (s2 _ _ elf)
   have ed2:SqL K H2 ld ys:=SqL.of (s2 _ _ eld)
   rw [ea0] at wx2
   refine fun _ _ _ _ z4=>⟨_,rfl,_,rfl,lf,_,_,_,rfl,rfl,ef2,ax,_, "tuple", _,true,rfl,.tup ea,rfl,_,rfl,ES ⟨_,rfl,_,rfl,lf,_,_,_,rfl,rfl,ef2,ax,a,_,rfl,.inr (SqT.of ea),rfl,_,rfl,SR (by show (!decide (V.int 2=V.int 2))=false;simp) ⟨_,rfl,_,rfl,lf,_,_,_,rfl,rfl,ef2,ax,a,_,_,_,rfl,rfl,SqT.of ea,AF (j:=1) rfl,_, "list", _,true,rfl,.lst ela,rfl,_,rfl,ES (z4 _ _ ?_)⟩⟩⟩
   refine fun _ _ _ _ z6=>⟨_,rfl,_,rfl,lf,_,_,_,rfl,rfl,ef2,ax,_,rfl,_,rfl,ld,_,_,_,rfl,rfl,ed2,ay,Je wx2.dv wy2.dv (Ph hq) ⟨_,rfl,ES ⟨_,rfl,_,rfl,lf,_,_,_,rfl,rfl,ef2,ax,a,_,_,_,rfl,rfl,SqT.of ea,AF (j:=1) rfl,la,rfl,⟨_,SqL.of ela⟩,?_⟩⟩⟩
   have lr:=Ml q.2
   refine Jv (K:=K) (fun _=>false) id (SqL.of ela) (by rw [List.length_map];omega) (fun x R hx r=>?_) (fun x R hx h _=>by cases h) fun D hD=>?_
   ·obtain ⟨c,_,rfl⟩:=List.mem_map.mp hx
    exact ⟨_,rfl,_, "bool", _,false,rfl,.int _,rfl,_,rfl,r⟩
   have efl:(((Dc q.2).map V.int).filter fun _=>false).map id=[]:=by rw [List.filter_eq_nil_iff.mpr (fun _ _=>Bool.false_ne_true)];rfl
   rw [efl]
   refine An (o:=.lst []) hD fun H3 s3 eD=>?_
   refine ⟨Nat.zero_le _,fun n4 hn4=>?_⟩
   have s4:=AK.Ay (o:=.lst []) hn4
   exact ⟨D,n4,[],rfl,rfl,SqL.of (s4 _ _ eD),SqL.of AE,_,rfl,ES (z6 _ _ ⟨⟨_,rfl⟩,s2.trans (s3.trans s4)⟩)⟩
  ·rintro σ H2 ⟨⟨o,rfl⟩,s2⟩
   exact z3 _ _ (k _ s2)
def EvG (e:Ev):Prop:=(0≤e.1/\e.1≤2000000000)/\PyData.strOk e.2.1=true/\PyData.strOk e.2.2.1=true
def RF (K:W.Frag):Sp:=fun vs H Q _=>∃(a lp:Addr) (ns:List Int) (many:Nat) (tk:Int) (ps:List V) (ss:List Stp),vs=[.ref a,.ref lp,.int (many:Int),.int tk]/\SqL K H a (ns.map V.int)/\ns.length≤63/\many≤20/\1≤tk/\tk≤30000000/\H lp=some (.lst ps)/\Ba H ps ss/\ss.length≤20/\(∀s∈ss,∀t∈s.odd,PyData.strOk t=true) /\
 ∀l H' xs (evs:List Ev),AK H H'→H l=none→H' l=some (.lst xs)→Rws H' xs (evs.map evK)→evs.length=many→(∀e∈evs,EvG e)→Q (.ref l) H'
theorem P4 (T:Tx K mg ad):BM P w K mg base CX0 2 ad.C5 ad.Dh ["_law_script", "_law_plan_here", "_law_many_here", "_law_tick"] (RF K):=by
 have G_ucell_at:=BA.weak (BA.mk (Rw (P:=P) (w:=w) (base:=base) T) T.GF T.Bi.kp T.GJ) Il
 have G_uname:=BA.weak (BA.mk (Ol (P:=P) (w:=w) (base:=base) T) T.Ot T.EG.kp T.PF) Ik
 refine T.DF.ok Iu (fun vs H Q E h=>?_) (fun cdv A outer s H vs Q E hr h=>?_)
 ·obtain ⟨a,lp,ns,many,tk,ps,ss,rfl,_⟩:=h
  rfl
 ·obtain ⟨a,lp,ns,many,tk,ps,ss,rfl,hS,hl,hm,t0,t1,elp,pr,lss,odd,k⟩:=h
  have nd:=Iu.nd
  refine ⟨_,(AJ (psl 4 nd (AG FL (pcm (AL EM) [] trivial (AY (K:=K) (pvC 1)) (fun _ _ _ _=>Dd (AR BE (Aj K (pvC 0) AB) Ak (Ab _))) (fun _ _ _ _=>(Aj K (pvC 0) AB))) (Ao (AA Ak AD))))
    (AJ (psl 5 nd (BX K (Ao (AA (Ao (AA Ak (AA Ak (AA Ak AD)))) (AA (Ao (AA Ak (AA Ak (AA Ak AD)))) (AA (Ao (AA Ak (AA Ak (AA Ak AD)))) AD)))) (AG AZ (AG Af (AI G_ucell_at hr (AA (pvC 0) (AA AB AD))) AB) AB)))
    (AJ (HQ (A0 (AR BE (AG AZ (AG Af (AI G_ucell_at hr (AA (pvC 0) (AA AB AD))) AB) AB) AB (Ab _))
    (AH (IP (i:=5) (osc:=AL EM) [("_law_script", 0)] nd rfl (Or.inl rfl) rfl (Fc (by rfl) T.DK (AA AB AD)) rfl rfl (by decide +kernel) (by decide +kernel) (by decide +kernel) ⟨rfl,rfl,trivial⟩ rfl (by decide +kernel) (fun _ _ _ _=>Bc) (fun _ _ _ _=>(AI G_uname hr (AA (AG Af (AI G_ucell_at hr (AA (pvC 1) (AA AB AD))) AB) (AA (pvC 0) AD))))))
    Al))
    (AJ (psl 5 nd (Aq (Ci (K:=K)) (pvC 5) A6 (Au (AG Cn AB (AG BD AB (Bm Hj (by rfl) T.IW PyProof.Rows.boot_int (AA (Gd BE (AG AZ (AG Af (AI G_ucell_at hr (AA (pvC 0) (AA AB AD))) AB) AB) AB (Ab _)) AD)))))))
    (AJ (psl 6 nd (Ao AD))
    (AJ (BQ PassesOwn.never rfl (Fc (by rfl) T.DK (AA (pvC 2) AD)) (pgn 7 nd)
    (AJ (psl 8 nd (AG AZ (AG BD (AG Az (AI G_ucell_at hr (AA (pvC 0) (AA (AG Az AB (pvC 7)) AD))) (AG BD AB (pvC 7))) AB) AB))
    (AJ (psl 9 nd (AG BD (AG AZ (pvC 8) AB) (pvC 3)))
    (AJ (psl 10 nd (AG BD (AG Cn (AG AZ (AG Af (pvC 8) AB) AB) AB) (BX K (Ao (AA AB (AA (AG U8 AB AB) AD))) (AG Af (AG AZ (AG Af (pvC 8) AB) AB) AB))))
    (AH (Bw (Br (pap K (pvC 6) (AA (Am (AA (pvC 9) (AA (BX K (pvC 4) (AG AZ (AG Af (pvC 8) AB) (AU (BF (K:=K)) (by rfl) T.CO PySem.boot_len (AA (pvC 4) AD)))) (AA (BX K (pvC 5) (AG AZ (AG Af (pvC 8) AB) (AU (BF (K:=K)) (by rfl) T.CO PySem.boot_len (AA (pvC 5) AD)))) (AA (pvC 10) AD))))) AD)))))))))
    (AH (AQ (pvC 6))))))))),?_⟩
  have sz:sizeLine=16777216:=sizeLine_eq
  have lps:=pr.len
  refine fun _ _ _ _ z1=>⟨lp,rfl,⟨_,SqL.of elp⟩,?_⟩
  refine C1 (K:=K) (xs:=ps) (fun j τ acc H'=>(∃o,τ=[o])/\H'=H/\∃zs:List Str,acc=zs.map V.str/\zs.length≤j/\∀z∈zs,PyData.strOk z=true) (by omega) ⟨⟨none,rfl⟩,rfl,[],rfl,Nat.le_refl _,fun z h=>by cases h⟩ (fun j τ acc H' ⟨_,e,_⟩=>by rw [e];exact SqL.of elp) ?_ ?_
  ·rintro j y τ acc H1 R1 R0 hy _ ⟨⟨o,rfl⟩,rfl,zs,rfl,lz,az⟩ k1 k0
   obtain ⟨p,st,rfl,es,ea⟩:=pr.at hy
   obtain ⟨w0,w1,w2⟩:=ea.word (K:=K)
   refine ⟨_,_,w0,w1,rfl,_,rfl,GG (i:=0) rfl (fun q=>?_) fun q=>k0 _ _ ⟨⟨_,rfl⟩,rfl,zs,rfl,by omega,az⟩⟩
   obtain ⟨nn,kd,rfl⟩:∃nn kd,st=.take nn kd:=by cases st <;> first|exact ⟨_,_,rfl⟩|cases q
   exact ⟨_,_,w0,AF (j:=2) rfl,k1 _ _ _ ⟨⟨_,rfl⟩,rfl,zs++[kd],by rw [List.map_append];rfl,by rw [List.length_append,List.length_singleton];omega,fun z hz=>(by
    rcases List.mem_append.mp hz with h|h
    ·exact az z h
    ·rw [List.mem_singleton.mp h];exact odd _ (List.mem_of_getElem? es) kd (.head _))⟩⟩
  rintro τ acc H1 la ⟨_,rfl,zs,rfl,lz,az⟩ D hD
  refine An (o:=.lst (zs.map V.str)) hD fun H2 s1 eD=>?_
  refine ⟨le1 rfl,fun l1 hl1=>?_⟩
  refine An (o:=.lst [.str "nokind"]) hl1 fun H3 s2 e1=>?_
  refine ⟨D,l1,_,_,rfl,rfl,s2 _ _ eD,e1,by rw [List.length_map];simp;omega,fun lk hlk=>z1 _ _ ?_⟩
  rw [show zs.map V.str++[V.str "nokind"]=(zs++[("nokind" : Str)]).map V.str by rw [List.map_append];rfl]
  refine An (o:=.lst ((zs++[("nokind" : Str)]).map V.str)) hlk fun H5 s4 elk=>?_
  have kne:zs++[("nokind" : Str)]≠[]:=by simp
  have kok:∀z∈zs++[("nokind" : Str)],PyData.strOk z=true:=fun z hz=>by
   rcases List.mem_append.mp hz with h|h
   ·exact az z h
   ·rw [List.mem_singleton.mp h];decide +kernel
  generalize zs++[("nokind" : Str)]=ks at elk kne kok
  have S5:=s1.trans (s2.trans s4)
  refine fun _ _ _ _ z2=>⟨le1 rfl,fun k1 hk1=>⟨le1 rfl,fun k2 hk2=>⟨le1 rfl,fun k3 hk3=>⟨le1 rfl,fun k4 hk4=>?_⟩⟩⟩⟩
  have g1:=AK.Ay (o:=.lst [.str "key", .str "kez", .str "qey"]) hk1
  have f1:(upd H5 k1 (.lst [.str "key", .str "kez", .str "qey"])) k1=some (.lst [.str "key", .str "kez", .str "qey"]):=AE
  generalize upd H5 k1 (.lst [.str "key", .str "kez", .str "qey"])=G1 at g1 f1 hk2 hk3 hk4 ⊢
  have g2:=AK.Ay (o:=.lst [.str "k", .str "ke", .str "kek"]) hk2
  have f2:(upd G1 k2 (.lst [.str "k", .str "ke", .str "kek"])) k2=some (.lst [.str "k", .str "ke", .str "kek"]):=AE
  generalize upd G1 k2 (.lst [.str "k", .str "ke", .str "kek"])=G2 at g2 f2 hk3 hk4 ⊢
  have g3:=AK.Ay (o:=.lst [.str "tea", .str "eat", .str "ate"]) hk3
  have f3:(upd G2 k3 (.lst [.str "tea", .str "eat", .str "ate"])) k3=some (.lst [.str "tea", .str "eat", .str "ate"]):=AE
  generalize upd G2 k3 (.lst [.str "tea", .str "eat", .str "ate"])=G3 at g3 f3 hk4 ⊢
  refine An (o:=.lst [.ref k1,.ref k2,.ref k3]) hk4 fun H6 g4 f4=>?_
  have s56:=g1.trans (g2.trans (g3.trans g4))
  have S6:=S5.trans s56
  refine ⟨ns,S6.seq hS,by decide,hl,fun c=>?_⟩
  obtain ⟨v,hv,mv⟩:=Bs [V.ref k1,V.ref k2,V.ref k3] 3 rfl (by decide) (c / 5)
  obtain ⟨kl,k3s,rfl,ekl,lk3,ok3⟩:∃(kl:Addr) (k3s:List Str),v=.ref kl/\H6 kl=some (.lst (k3s.map V.str))/\k3s.length=3/\∀z∈k3s,PyData.strOk z=true:=by
   simp only [List.mem_cons,List.not_mem_nil,or_false] at mv
   rcases mv with rfl|rfl|rfl
   ·exact ⟨k1,["key", "kez", "qey"],rfl,(g2.trans (g3.trans g4)) _ _ f1,rfl,by decide +kernel⟩
   ·exact ⟨k2,["k", "ke", "kek"],rfl,(g3.trans g4) _ _ f2,rfl,by decide +kernel⟩
   ·exact ⟨k3,["tea", "eat", "ate"],rfl,g4 _ _ f3,rfl,by decide +kernel⟩
  refine ⟨⟨by decide,by decide⟩,(by decide:(0:Int)<3),_,_,SqL.of f4,hv,z2 _ _ ?_⟩
  have elk6:=s56 _ _ elk
  refine fun _ _ _ _ z3=>LC (fun σ' H'=>∃(kl:Addr) (k3s:List Str),σ'=[some (.ref a),some (.ref lp),some (.int (many:Int)),some (.int tk),some (.ref lk),some (.ref kl),none,none,none,none,none]/\AK H6 H'/\H' kl=some (.lst (k3s.map V.str))/\k3s.length=3/\∀z∈k3s,PyData.strOk z=true) ?_ ?_
  ·refine ⟨ns,S6.seq hS,by decide,hl,fun c3=>⟨⟨by decide,by decide⟩,(by decide:(0:Int)<3),rfl,_,rfl,Gq (fun _=>?_) fun _=>⟨kl,k3s,rfl,AK.refl _,ekl,lk3,ok3⟩⟩⟩
   refine ⟨3,rfl,by decide,by decide,NV (n:=3) (fun i τ acc H'=>(∃o,τ=[o,some (.ref a)])/\H'=H6/\∃zs:List Str,acc=zs.map V.str/\zs.length=i/\∀z∈zs,PyData.strOk z=true) (by omega) ⟨⟨none,rfl⟩,rfl,[],rfl,rfl,fun z hz=>by cases hz⟩ ?_ ?_⟩
   ·rintro i τ acc H7 R1 hi _ ⟨⟨o,rfl⟩,rfl,zs,rfl,lz,az⟩ k1'
    refine ⟨ns,S6.seq hS,by decide,hl,fun c4=>⟨⟨by decide,by decide⟩,k1' _ _ _ ⟨⟨_,rfl⟩,rfl,zs++[AX (c4 / 5) (0+(i:Int))],by rw [List.map_append];rfl,by rw [List.length_append,lz];rfl,fun z hz=>?_⟩⟩⟩
    rcases List.mem_append.mp hz with h|h
    ·exact az z h
    ·rw [List.mem_singleton.mp h];exact (FN _ _).ok
   ·rintro τ acc H7 la' ⟨_,rfl,zs,rfl,lz,az⟩ D2 hD2
    exact ⟨D2,zs,rfl,AK.Ay hD2,AE,lz,az⟩
  ·rintro σ' H7 ⟨kl,k3s,rfl,s7,ekl,lk3,ok3⟩
   have S7:=S6.trans s7
   have elk7:=s7 _ _ elk6
   refine z3 _ _ ?_
   clear z1 z2 z3
   refine fun _ _ _ _ z5=>⟨ns,S7.seq hS,by decide,hl,fun c5=>?_⟩
   refine ⟨⟨by decide,by decide⟩,(by decide:(0:Int)<3),rfl,.inr ⟨_,rfl,.inl ⟨by decide,by decide⟩,_,rfl,kl,_,rfl,SqL.of ekl,fun kq hkq=>z5 _ _ ?_⟩⟩
   obtain ⟨qs,eqs,qne,okq⟩:∃qs:List Str,CK (k3s.map V.str) none (some (3-2 * (if decide (V.int (c5 / 23 % 3)=V.int 1)=true then 1 else 0)))=qs.map V.str/\qs≠[]/\∀z∈qs,PyData.strOk z=true:=by
    match k3s,lk3 with
    | [x,y,z],_ =>
     by_cases h:decide (V.int (c5 / 23 % 3)=V.int 1)=true
     ·rw [if_pos h]
      exact ⟨[x],rfl,by simp,fun w hw=>ok3 w (by rw [List.mem_singleton.mp hw];exact .head _)⟩
     ·rw [if_neg h]
      exact ⟨[x,y,z],rfl,by simp,ok3⟩
   rw [eqs]
   refine An (o:=.lst (qs.map V.str)) hkq fun H8 s8 ekq=>?_
   have S8:=S7.trans s8
   have elk8:=s8 _ _ elk7
   refine fun _ _ _ _ z6=>⟨Nat.zero_le _,fun fl hfl=>z6 _ _ ?_⟩
   have s9:=AK.Ay (o:=.lst []) hfl
   have efl:(upd H8 fl (.lst [])) fl=some (.lst []):=AE
   have nlf:lk≠fl:=AM elk8 hfl
   have nqf:kq≠fl:=AM ekq hfl
   have hf0:H1 fl=none:=S8.free hfl
   generalize upd H8 fl (.lst [])=H9 at s9 efl ⊢
   have S9:=S8.trans s9
   have pos:(0:Int)<((ks.map V.str).length:Int):=by rw [List.length_map];have:=List.length_pos_iff.mpr kne;omega
   have posq:(0:Int)<((qs.map V.str).length:Int):=by rw [List.length_map];have:=List.length_pos_iff.mpr qne;omega
   refine fun _ _ _ _ z7=>⟨(many:Int),rfl,by omega,by omega,Fh (lo:=0) (n:=(many:Int).toNat) (fun i σ H'=>∃(o7 o8 o9 o10:Option V) (xs:List V) (evs:List Ev),σ=[some (.ref a),some (.ref lp),some (.int (many:Int)),some (.int tk),some (.ref lk),some (.ref kq),some (.ref fl),o7,o8,o9,o10]/\Fz fl H9 H'/\H' fl=some (.lst xs)/\Rws H' xs (evs.map evK)/\evs.length=i/\∀e∈evs,EvG e) ⟨none,none,none,none,[],[],rfl,(AK.refl _).x _,efl,D9 _,rfl,fun e h=>by cases h⟩ ?_ ?_⟩
   ·rintro i σ G hi ⟨o7,o8,o9,o10,xs,evs,rfl,xG,efG,hw,le,ge⟩
    have hi20:i<20:=by omega
    have s1G:AK H1 G:=fun b o e=>xG _ _ (AM e hf0) (S9 _ _ e)
    have lx:xs.length=i:=by rw [hw.len,List.length_map];exact le
    refine fun _ _ _ _ z8=>⟨ns,s1G.seq hS,by omega,hl,fun c2=>⟨.inl ⟨by decide,by decide⟩,.inr ⟨by decide,by decide⟩,(by decide:(0:Int)<2147483647),z8 [some (.ref a),some (.ref lp),some (.int (many:Int)),some (.int tk),some (.ref lk),some (.ref kq),some (.ref fl),some (.int (0+(i:Int))),some (.int ((c2+7919 * (0+(i:Int))) * 48271 % 2147483647)),o9,o10] _ ?_⟩⟩
    generalize (c2+7919 * (0+(i:Int))) * 48271 % 2147483647=M
    have elkG:=xG _ _ nlf (s9 _ _ elk8)
    have ekqG:=xG _ _ nqf (s9 _ _ ekq)
    have b0:0≤M % 30:=Int.emod_nonneg _ (by decide)
    have b1:M % 30<30:=Int.emod_lt_of_pos _ (by decide)
    have b2:0≤M % 30 * tk:=Int.mul_nonneg b0 (by omega)
    have b3:M % 30 * tk≤29 * tk:=Int.mul_le_mul_of_nonneg_right (by omega) (by omega)
    refine fun _ _ _ _ z9=>⟨(by decide:(0:Int)<30),.inl ⟨by omega,by omega⟩,z9 [some (.ref a),some (.ref lp),some (.int (many:Int)),some (.int tk),some (.ref lk),some (.ref kq),some (.ref fl),some (.int (0+(i:Int))),some (.int M),some (.int (M % 30 * tk)),o10] _ ?_⟩
    have q0:0≤M / 30 % 13:=Int.emod_nonneg _ (by decide)
    have q1:M / 30 % 13<13:=Int.emod_lt_of_pos _ (by decide)
    obtain ⟨A2,hA2⟩:∃A2:Int,atI [V.int 1,V.int (10 ^ 8)] (M / 390 % 7 / 6)=some (.int A2):=by
     have b5:0≤M / 390 % 7/\M / 390 % 7<7:=⟨Int.emod_nonneg _ (by decide),Int.emod_lt_of_pos _ (by decide)⟩
     rcases (by omega:M / 390 % 7 / 6=0\/M / 390 % 7 / 6=1) with e5|e5
     ·rw [e5];exact ⟨1,AF (j:=0) rfl⟩
     ·rw [e5];exact ⟨10 ^ 8,AF (j:=1) rfl⟩
    refine fun _ _ _ _ z10=>⟨⟨by decide,by decide⟩,(by decide:(0:Int)<13),_,_,rfl,rfl,⟨by decide,by decide,by decide⟩,le1 rfl,fun q2 hq2=>?_⟩
    have u1:AK G (upd G q2 (.lst [.int 1,.int (10 ^ 8)])):=AK.Ay hq2
    have eq2:(upd G q2 (.lst [.int 1,.int (10 ^ 8)])) q2=some (.lst [.int 1,.int (10 ^ 8)]):=AE
    refine ⟨⟨by decide,by decide⟩,(by decide:(0:Int)<7),⟨by decide,by decide⟩,_,_,SqL.of eq2,hA2,.inl ⟨by omega,by omega⟩,z10 [some (.ref a),some (.ref lp),some (.int (many:Int)),some (.int tk),some (.ref lk),some (.ref kq),some (.ref fl),some (.int (0+(i:Int))),some (.int M),some (.int (M % 30 * tk)),some (.int ((M / 30 % 13-6) * A2))] (upd G q2 (.lst [.int 1,.int (10 ^ 8)])) ?_⟩
    generalize upd G q2 (.lst [.int 1,.int (10 ^ 8)])=G2 at u1 ⊢
    generalize (M / 30 % 13-6) * A2=am
    obtain ⟨v1,h1,m1⟩:=Bs (ks.map V.str) (((ks.map V.str).length:Nat):Int) rfl pos (M / 2730)
    obtain ⟨kd,mkd,rfl⟩:=List.mem_map.mp m1
    obtain ⟨v2,h2,m2⟩:=Bs (qs.map V.str) (((qs.map V.str).length:Nat):Int) rfl posq (M / 27300)
    obtain ⟨ky,mky,rfl⟩:=List.mem_map.mp m2
    have elk2:=u1 _ _ elkG
    have ekq2:=u1 _ _ ekqG
    have ef2:=u1 _ _ efG
    refine fun _ _ _ _ z11=>⟨.inl ⟨rfl,_,SqL.of ef2⟩,⟨by decide,by decide⟩,_,.inl (SqL.of elk2),pos,_,_,SqL.of elk2,h1,⟨by decide,by decide⟩,_,.inl (SqL.of ekq2),posq,_,_,SqL.of ekq2,h2,le1 rfl,fun p hp=>?_⟩
    have s3:=AK.Ay (o:=.tup ((evK (M % 30 * tk,kd,ky,am)).map kV)) hp
    have e3:(upd G2 p (.tup ((evK (M % 30 * tk,kd,ky,am)).map kV))) p=some (.tup ((evK (M % 30 * tk,kd,ky,am)).map kV)):=AE
    have u13:=u1.trans s3
    have ef3:=u13 _ _ efG
    have tp:Tp (upd G2 p (.tup ((evK (M % 30 * tk,kd,ky,am)).map kV))) (upd (upd G2 p (.tup ((evK (M % 30 * tk,kd,ky,am)).map kV))) fl (.lst (xs++[.ref p]))):=(Tp.refl _).upd ef3 fun xs=>by intro z;cases z
    refine ⟨fl,_,_,rfl,rfl,ef3,by omega,z11 _ _ ⟨_,_,_,_,xs++[.ref p],evs++[(M % 30 * tk,kd,ky,am)],rfl,fun b o nb e=>by rw [AO nb];exact u13 _ _ (xG b o nb e),AE,?_,by rw [List.length_append,le];rfl,fun e he=>?_⟩⟩
    ·rw [List.map_append]
     exact (hw.keep (u13.tp.trans tp)).snoc (tp _ _ e3)
    ·rcases List.mem_append.mp he with he|he
     ·exact ge e he
     ·rw [List.mem_singleton.mp he]
      exact ⟨⟨b2,by show M % 30 * tk≤2000000000;omega⟩,kok kd mkd,okq ky mky⟩
   ·rintro σ G ⟨o7,o8,o9,o10,xs,evs,rfl,xG,efG,hw,le,ge⟩
    have s1G:AK H1 G:=fun b o e=>xG _ _ (AM e hf0) (S9 _ _ e)
    exact z7 _ _ (k fl G xs evs s1G hf0 efG hw (by omega) ge)
def Tag (b:Int) (n:Str) (t:Nat):Prop:=t<26/\n=AX b (t:Int)
theorem OX {b:Int}{n:Str}{t t':Nat}(h:Tag b n t) (h':Tag b n t'):t=t':=by
 have e:=P6 (h.2.symm.trans h'.2)
 have:=h.1
 have:=h'.1
 omega
def szK (sn:List Str) (z:Str→Nat):List (Key×V):=sn.map fun a=>(.inr a,.int (z a:Int))
theorem Sx {sn:List Str}{z:Str→Nat}{a:Str}(h:a∈sn):BL (szK sn z) (.inr a)=some (.int (z a:Int)):=by
 unfold BL szK
 rw [List.find?_map]
 have hs:(sn.find? ((fun kv:Key×V=>decide (kv.1=.inr a)) ∘ fun a=>((.inr a:Key),V.int (z a:Int)))).isSome=true:=by
  rw [List.find?_isSome]
  exact ⟨a,h,by simp⟩
 obtain ⟨b,hb⟩:=Option.isSome_iff_exists.mp hs
 have e:=List.find?_some hb
 have e:b=a:=by simpa using e
 rw [hb,e]
 rfl
def ID (z:Str→Nat) (n:Str) (m:Nat):Str→Nat:=fun a=>if a=n then m else z a
theorem Lo {z:Str→Nat}{n:Str}{m:Nat}:ID z n m n=m:=if_pos rfl
theorem Ef {z:Str→Nat}{n a:Str}{m:Nat}(h:a≠n):ID z n m a=z a:=if_neg h
theorem TZ {sn:List Str}{z:Str→Nat}{n:Str}(h:n∉sn):putK (szK sn z) (.inr n) (.int (z n:Int))=szK (sn++[n]) z:=by
 unfold putK
 rw [if_neg]
 ·unfold szK
  rw [List.map_append]
  rfl
 ·intro q
  obtain ⟨kv,hk,e⟩:=List.any_eq_true.mp q
  obtain ⟨a,ha,rfl⟩:=List.mem_map.mp hk
  have e:a=n:=by simpa using e
  exact h (by rw [←e];exact ha)
theorem Ma (sn:List Str) (z:Str→Nat):(szK sn z).map (fun p=>kV p.1)=sn.map V.str:=by
 unfold szK
 rw [List.map_map]
 rfl
theorem PY {sn:List Str}{z z':Str→Nat}(h:∀a∈sn,z a=z' a):szK sn z=szK sn z':=by
 unfold szK
 exact List.map_congr_left fun a ha=>by rw [h a ha]
theorem Eo {s:Stp}{z z':Str→Nat}{m:Nat}(h:∀a∈s.As,z' a=z a):CL s z' m=CL s z m:=by
 cases s with
 | take=>rfl
 | only n a=>exact h a (.head _)
 | turn n a=>exact h a (.head _)
 | gap n a=>exact h a (.head _)
 | each n a=>exact h a (.head _)
 | both n a b=>show z' a+z' b=z a+z b;rw [h a (.head _),h b (.tail _ (.head _))]
 | join n a b=>show z' a * z' b=z a * z b;rw [h a (.head _),h b (.tail _ (.head _))]
structure Dy (b:Int) (many:Nat) (ss:List Stp) (ts:List Nat) (z:Str→Nat) (sn:List Str):Prop where
 tag:Paired (fun s t=>Tag b s.nm t) ss ts
 tnd:ts.Nodup
 fed:∀(i:Nat) s a,ss[i]?=some s→a∈s.As→∃(i':Nat) (s':Stp),i'<i/\ss[i']?=some s'/\s'.nm=a/\s'.tell=false
 ok:∀s∈ss,KC s
 str:∀a∈sn,∃(i:Nat) (s:Stp),ss[i]?=some s/\s.nm=a/\s.tell=false
 siz:∀s∈ss,CL s z many≤z s.nm/\z s.nm≤60
theorem Dy.Tb {b:Int}{many:Nat}{ss:List Stp}{ts:List Nat}{z:Str→Nat}{sn:List Str}(h:Dy b many ss ts z sn):FV ss:=by
 refine ⟨fun i i' s s' e e' q=>?_,h.fed,h.ok⟩
 obtain ⟨l,f⟩:=AN h.tag
 have hi:=(List.getElem?_eq_some_iff.mp e).1
 have hi':=(List.getElem?_eq_some_iff.mp e').1
 have t1:=List.getElem?_eq_getElem (show i<ts.length by omega)
 have t2:=List.getElem?_eq_getElem (show i'<ts.length by omega)
 have g1:=f i s _ e t1
 have g2:=f i' s' _ e' t2
 rw [q] at g1
 exact (List.getElem_inj h.tnd).mp (OX g1 g2)
theorem Ld {α:Type}{l:List α}{x y:α}{i:Nat}(h:(l++[x])[i]?=some y):l[i]?=some y\/(i=l.length/\y=x):=by
 rcases Nat.lt_trichotomy i l.length with q|q|q
 ·rw [List.getElem?_append_left q] at h;exact .inl h
 ·subst q
  rw [List.getElem?_append_right (Nat.le_refl _),Nat.sub_self] at h
  exact .inr ⟨rfl,(Option.some.inj h).symm⟩
 ·rw [List.getElem?_eq_none (by rw [List.length_append];show l.length+1≤i;omega)] at h;cases h
theorem HA {α:Type}{l:List α}{x y:α}{i:Nat}(h:l[i]?=some y):(l++[x])[i]?=some y:=by
 rw [List.getElem?_append_left (List.getElem?_eq_some_iff.mp h).1];exact h
theorem Dy.new {b:Int}{many:Nat}{ss:List Stp}{ts:List Nat}{z:Str→Nat}{sn:List Str}(h:Dy b many ss ts z sn) {n:Str}{t:Nat}(ht:Tag b n t) (hn:t∉ts):∀s∈ss,s.nm≠n:=fun s hs e=>by
 obtain ⟨i,ei⟩:=List.mem_iff_getElem?.mp hs
 obtain ⟨l,f⟩:=AN h.tag
 have hi:=(List.getElem?_eq_some_iff.mp ei).1
 have t1:=List.getElem?_eq_getElem (show i<ts.length by omega)
 have g1:=f i s _ ei t1
 rw [e] at g1
 exact hn (by rw [OX ht g1];exact List.getElem_mem _)
theorem Dy.snoc {b:Int}{many:Nat}{ss:List Stp}{ts:List Nat}{z:Str→Nat}{sn:List Str}(h:Dy b many ss ts z sn) {s:Stp}{t:Nat}(ht:Tag b s.nm t) (hn:t∉ts) (g:∀a∈s.As,a∈sn) (go:KC s) (hb:CL s z many≤60):Dy b many (ss++[s]) (ts++[t]) (ID z s.nm (CL s z many)) sn:=by
 have nw:=h.new ht hn
 have strn:∀a∈sn,a≠s.nm:=fun a ha e=>by
  obtain ⟨i,s',ei,en,_⟩:=h.str a ha
  exact nw s' (List.mem_of_getElem? ei) (en.trans e)
 have zf:∀s'∈ss,CL s' (ID z s.nm (CL s z many)) many=CL s' z many:=fun s' hs=>Eo fun a ha=>by
  obtain ⟨i,ei⟩:=List.mem_iff_getElem?.mp hs
  obtain ⟨i',s2,_,e2,en,_⟩:=h.fed i s' a ei ha
  exact Ef fun e=>nw s2 (List.mem_of_getElem? e2) (en.trans e)
 refine ⟨AW h.tag (.cons ht .nil),?_,fun i s' a ei ha=>?_,fun s' hs=>?_,fun a ha=>?_,fun s' hs=>?_⟩
 ·rw [List.nodup_append]
  exact ⟨h.tnd,by simp,fun a ha c hc=>by rw [List.mem_singleton.mp hc];exact fun e=>hn (by rw [←e];exact ha)⟩
 ·rcases Ld ei with ei|⟨rfl,rfl⟩
  ·obtain ⟨i',s2,l,e2,q⟩:=h.fed i s' a ei ha
   exact ⟨i',s2,l,HA e2,q⟩
  ·obtain ⟨i',s2,e2,q⟩:=h.str a (g a ha)
   exact ⟨i',s2,(List.getElem?_eq_some_iff.mp e2).1,HA e2,q⟩
 ·rcases List.mem_append.mp hs with hs|hs
  ·exact h.ok s' hs
  ·rw [List.mem_singleton.mp hs];exact go
 ·obtain ⟨i,s',ei,q⟩:=h.str a ha
  exact ⟨i,s',HA ei,q⟩
 ·rcases List.mem_append.mp hs with hs|hs
  ·rw [zf s' hs,Ef (nw s' hs)]
   exact h.siz s' hs
  ·rw [List.mem_singleton.mp hs,Lo,Eo (z:=z) fun a ha=>Ef (strn a (g a ha))]
   exact ⟨Nat.le_refl _,hb⟩
theorem Dy.add {b:Int}{many:Nat}{ss:List Stp}{ts:List Nat}{z:Str→Nat}{sn:List Str}(h:Dy b many ss ts z sn) {i:Nat}{s:Stp}(ei:ss[i]?=some s) (ht:s.tell=false):Dy b many ss ts z (sn++[s.nm]) :=
 { h with
  str:=fun a ha=>(by
   rcases List.mem_append.mp ha with ha|ha
   ·exact h.str a ha
   ·rw [List.mem_singleton.mp ha];exact ⟨i,s,ei,rfl,ht⟩) }
theorem Dy.szs {b:Int}{many:Nat}{ss:List Stp}{ts:List Nat}{z:Str→Nat}{sn:List Str}(h:Dy b many ss ts z sn):∀a∈sn,z a≤60:=fun a ha=>by
 obtain ⟨i,s,ei,rfl,_⟩:=h.str a ha
 exact (h.siz s (List.mem_of_getElem? ei)).2
theorem PV (k:Str) (evs:List Ev):(D5 k evs).length≤evs.length:=by
 have:∀ps:List (Ev×Nat),(ps.flatMap fun p=>(Cs k p.1).map fun x=>(x,[(p.2:Int)])).length≤ps.length:=fun ps=>by
  induction ps with
  | nil=>exact Nat.le_refl _
  | cons p ps ih =>
   rw [List.flatMap_cons,List.length_append,List.length_map,List.length_cons]
   have:=Kf k p.1
   omega
 exact Nat.le_trans (this _) (by rw [List.length_zipIdx];exact Nat.le_refl _)
theorem Ju (wi:Int) (B:List It4):∀A:List It4,(Bq wi A B).length≤A.length * B.length
 | []=>Nat.zero_le _
 | i::A=>by
  have ih:=Ju wi B A
  unfold Bq at *
  rw [List.flatMap_cons,List.length_append,List.length_map,List.length_cons,Nat.succ_mul]
  have:=List.length_filter_le (fun j:It4=>CI wi i.1 j.1) B
  omega
theorem P9 {s:Stp}{L:Str→List It4}{evs:List Ev}{z:Str→Nat}{m:Nat}(he:evs.length≤m) (h:∀a∈s.As,(L a).length≤z a):(Cw s L evs).length≤CL s z m:=by
 cases s with
 | take n k=>exact Nat.le_trans (PV k evs) he
 | only n a lo hi=>exact Nat.le_trans (List.length_filter_le _ _) (h a (.head _))
 | turn n a f g=>show ((L a).map _).length≤_;rw [List.length_map];exact h a (.head _)
 | both n a b=>show (L a++L b).length≤z a+z b;rw [List.length_append];have:=h a (.head _);have:=h b (.tail _ (.head _));omega
 | join n a b wi=>exact Nat.le_trans (Ju wi (L b) (L a)) (Nat.mul_le_mul (h a (.head _)) (h b (.tail _ (.head _))))
 | gap n a s m=>exact h a (.head _)
 | each n a s z d=>exact h a (.head _)
theorem Dy.names {b:Int}{many:Nat}{ss:List Stp}{ts:List Nat}{z:Str→Nat}{sn:List Str}(h:Dy b many ss ts z sn):∀s∈ss,PyData.strOk s.nm=true:=fun s hs=>by
 obtain ⟨i,ei⟩:=List.mem_iff_getElem?.mp hs
 obtain ⟨l,f⟩:=AN h.tag
 have hi:=(List.getElem?_eq_some_iff.mp ei).1
 have g1:=f i s _ ei (List.getElem?_eq_getElem (show i<ts.length by omega))
 rw [g1.2]
 exact (FN _ _).ok
structure GP (many:Nat) (ss:List Stp):Prop where
 nd:(ss.map Stp.nm).Nodup
 fed:∀(i:Nat) s a,ss[i]?=some s→a∈s.As→∃(i':Nat) (s':Stp),i'<i/\ss[i']?=some s'/\s'.nm=a/\s'.tell=false
 ok:∀s∈ss,KC s
 tel:∀s∈ss,EL s
 nm:∀s∈ss,PyData.strOk s.nm=true
 siz:∃z:Str→Nat,∀s∈ss,CL s z many≤z s.nm/\z s.nm≤60
theorem GP.Tb {many:Nat}{ss:List Stp}(h:GP many ss):FV ss:=by
 refine ⟨fun i i' s s' e e' q=>?_,h.fed,h.ok⟩
 obtain ⟨h1,g1⟩:=List.getElem?_eq_some_iff.mp (show (ss.map Stp.nm)[i]?=some s.nm by rw [List.getElem?_map,e];rfl)
 obtain ⟨h2,g2⟩:=List.getElem?_eq_some_iff.mp (show (ss.map Stp.nm)[i']?=some s'.nm by rw [List.getElem?_map,e'];rfl)
 exact (List.getElem_inj h.nd).mp (by rw [g1,g2,q])
theorem GP.pr {many:Nat}{ss:List Stp}(h:GP many ss) (hs:ss.length≤20) (hm:many≤20) {evs:List Ev}(he:evs.length≤many) (tm:∀e∈evs,0≤e.1/\e.1≤2000000000):∃L,Pr ss L evs:=by
 obtain ⟨L,hL⟩:=Lp h.Tb evs
 obtain ⟨z,siz⟩:=h.siz
 refine ⟨L,h.Tb,hs,by omega,?_,h.tel,tm⟩
 have key:∀(i:Nat) s,ss[i]?=some s→(L s.nm).length≤z s.nm:=by
  intro i
  induction i using Nat.strongRecOn with
  | ind i ih =>
   intro s ei
   have hs:=List.mem_of_getElem? ei
   rw [hL s hs]
   refine Nat.le_trans (P9 he fun a ha=>?_) (siz s hs).1
   obtain ⟨i',s',li,ei',rfl,_⟩:=h.fed i s a ei ha
   exact ih i' li s' ei'
 intro s hs
 obtain ⟨i,ei⟩:=List.mem_iff_getElem?.mp hs
 exact ⟨hL s hs,Nat.le_trans (key i s ei) (Nat.le_trans (siz s hs).2 (by decide))⟩
theorem IV {ss:List Stp}{s:Stp}{n i:Nat}(hn:n≤ss.length):(ss.take n++[s]++ss.drop n)[i]?=if i<n then ss[i]? else if i=n then some s else ss[i-1]?:=by
 have l1:(ss.take n).length=n:=by rw [List.length_take];omega
 rcases Nat.lt_trichotomy i n with q|q|q
 ·rw [if_pos q,List.append_assoc,List.getElem?_append_left (by omega),List.getElem?_take,if_pos q]
 ·subst q
  rw [if_neg (Nat.lt_irrefl _),if_pos rfl,List.append_assoc,List.getElem?_append_right (by omega),l1,Nat.sub_self]
  rfl
 ·rw [if_neg (by omega),if_neg (by omega),List.getElem?_append_right (by rw [List.length_append,l1];show n+1≤i;omega),List.length_append,l1,List.getElem?_drop]
  congr 1
  show n+(i-(n+1))=i-1
  omega
theorem GP.Ww {many:Nat}{ss:List Stp}{s:Stp}{n:Nat}(h:GP many ss) (hn:n≤ss.length) (new:s.nm∉ss.map Stp.nm) (tl:s.tell=true) (fd:∀a∈s.As,∃(i:Nat) (s':Stp),i<n/\ss[i]?=some s'/\s'.nm=a/\s'.tell=false) (gt:EL s) (gn:PyData.strOk s.nm=true):GP many (ss.take n++[s]++ss.drop n):=by
 have mem:∀x,x∈ss.take n++[s]++ss.drop n↔x∈ss\/x=s:=fun x=>by
  rw [List.mem_append,List.mem_append,List.mem_singleton]
  have:x∈ss↔x∈ss.take n\/x∈ss.drop n:=by rw [←List.mem_append,List.take_append_drop]
  rw [this]
  constructor
  ·rintro ((h|h)|h)
   ·exact .inl (.inl h)
   ·exact .inr h
   ·exact .inl (.inr h)
  ·rintro ((h|h)|h)
   ·exact .inl (.inl h)
   ·exact .inr h
   ·exact .inl (.inr h)
 have sp:∀{R:Stp→Prop},(∀x∈ss,R x)→R s→∀x∈ss.take n++[s]++ss.drop n,R x:=fun a b x hx=>by
  rcases (mem x).mp hx with h|h
  ·exact a x h
  ·rw [h];exact b
 obtain ⟨z,siz⟩:=h.siz
 have go:KC s:=by cases s <;> first|trivial|cases tl
 have zf:∀x∈ss,∀a∈x.As,ID z s.nm (CL s z many) a=z a:=fun x hx a ha=>by
  obtain ⟨i,ei⟩:=List.mem_iff_getElem?.mp hx
  obtain ⟨i',s',_,e',en,_⟩:=h.fed i x a ei ha
  exact Ef fun e=>new (List.mem_map.mpr ⟨s',List.mem_of_getElem? e',en.trans e⟩)
 have sf:∀a∈s.As,a≠s.nm/\z a≤60:=fun a ha=>by
  obtain ⟨i,s',_,e',rfl,_⟩:=fd a ha
  exact ⟨fun e=>new (List.mem_map.mpr ⟨s',List.mem_of_getElem? e',e⟩),(siz s' (List.mem_of_getElem? e')).2⟩
 refine ⟨?_,fun i x a ei ha=>?_,sp h.ok go,sp h.tel gt,sp h.nm gn,ID z s.nm (CL s z many),sp (fun x hx=>?_) ?_⟩
 ·have p:(ss.take n++[s]++ss.drop n).Perm (s::ss):=by
   have:=(List.perm_append_comm (l₁:=ss.take n) (l₂:=[s])).append_right (ss.drop n)
   refine this.trans ?_
   show (s::(ss.take n++ss.drop n)).Perm (s::ss)
   rw [List.take_append_drop]
  exact (p.map Stp.nm).nodup_iff.mpr (List.nodup_cons.mpr ⟨new,h.nd⟩)
 ·rw [IV hn] at ei
  have up:∀{j:Nat} {y:Stp},ss[j]?=some y→∃j',j≤j'/\j'≤j+1/\(j<n→j'=j)/\(ss.take n++[s]++ss.drop n)[j']?=some y:=fun {j y} ej=>by
   by_cases q:j<n
   ·exact ⟨j,Nat.le_refl _,by omega,fun _=>rfl,by rw [IV hn,if_pos q];exact ej⟩
   ·exact ⟨j+1,by omega,Nat.le_refl _,fun c=>absurd c q,by rw [IV hn,if_neg (by omega),if_neg (by omega)];exact ej⟩
  split at ei
  ·rename_i q
   obtain ⟨i',s',li,e',r⟩:=h.fed i x a ei ha
   obtain ⟨j,j1,j2,j3,ej⟩:=up e'
   exact ⟨j,s',by have:=j3 (by omega);omega,ej,r⟩
  ·split at ei
   ·rename_i q1 q2
    cases ei
    obtain ⟨i',s',li,e',r⟩:=fd a ha
    obtain ⟨j,j1,j2,j3,ej⟩:=up e'
    exact ⟨j,s',by have:=j3 li;omega,ej,r⟩
   ·rename_i q1 q2
    obtain ⟨i',s',li,e',r⟩:=h.fed (i-1) x a ei ha
    obtain ⟨j,j1,j2,j3,ej⟩:=up e'
    exact ⟨j,s',by omega,ej,r⟩
 ·have ne:x.nm≠s.nm:=fun e=>new (List.mem_map.mpr ⟨x,hx,e⟩)
  rw [Eo (z:=z) (zf x hx),Ef ne]
  exact siz x hx
 ·rw [Lo,Eo (z:=z) fun a ha=>Ef (sf a ha).1]
  refine ⟨Nat.le_refl _,?_⟩
  cases s with
  | each n a so zz d=>exact (sf a (.head _)).2
  | gap n a so m=>exact (sf a (.head _)).2
  | take n k=>cases tl
  | only n a lo hi=>cases tl
  | turn n a f g=>cases tl
  | both n a b=>cases tl
  | join n a b wi=>cases tl
theorem GP.init {many:Nat}{ss:List Stp}(h:GP many ss) (n:Nat):GP many (ss.take n):=by
 have g:∀{i:Nat} {s:Stp},(ss.take n)[i]?=some s→ss[i]?=some s:=fun {i s} e=>by
  rw [List.getElem?_take] at e
  split at e
  ·exact e
  ·cases e
 obtain ⟨z,siz⟩:=h.siz
 refine ⟨by rw [List.map_take];exact h.nd.sublist (List.take_sublist _ _),fun i s a e ha=>?_,fun s hs=>h.ok s (List.mem_of_mem_take hs),fun s hs=>h.tel s (List.mem_of_mem_take hs),fun s hs=>h.nm s (List.mem_of_mem_take hs),z,fun s hs=>siz s (List.mem_of_mem_take hs)⟩
 obtain ⟨i',s',li,e',q⟩:=h.fed i s a (g e) ha
 refine ⟨i',s',li,?_,q⟩
 have hi:=(List.getElem?_eq_some_iff.mp e).1
 rw [List.length_take] at hi
 rw [List.getElem?_take,if_pos (by omega)]
 exact e'
theorem Dy.gp {b:Int}{many:Nat}{ss:List Stp}{ts:List Nat}{z:Str→Nat}{sn:List Str}(h:Dy b many ss ts z sn) (tel:∀s∈ss,EL s):GP many ss:=by
 refine ⟨?_,h.fed,h.ok,tel,h.names,z,h.siz⟩
 rw [List.Nodup,List.pairwise_iff_getElem]
 intro i j hi hj lt e
 rw [List.length_map] at hi hj
 rw [List.getElem_map,List.getElem_map] at e
 have:=h.Tb.apart i j _ _ (List.getElem?_eq_getElem hi) (List.getElem?_eq_getElem hj) e
 omega
theorem Ov:∀{a b:List (List Key)},a.Pairwise (fun x y=>A4 x y=true)→b.Pairwise (fun x y=>A4 x y=true)→(∀k,k∈a↔k∈b)→a=b
 | [],[],_,_,_=>rfl
 | [],y::b,_,_,h=>absurd ((h y).mpr List.mem_cons_self) (by simp)
 | x::a,[],_,_,h=>absurd ((h x).mp List.mem_cons_self) (by simp)
 | x::a,y::b,pa,pb,h=>by
  obtain ⟨a1,a2⟩:=List.pairwise_cons.mp pa
  obtain ⟨b1,b2⟩:=List.pairwise_cons.mp pb
  have no:∀{u v:List Key},A4 u v=true→A4 v u=true→False:=fun p q=>by
   have:=Ei p q
   rw [ER] at this
   cases this
  have irr:∀{u:List Key},A4 u u=true→False:=fun p=>by rw [ER] at p;cases p
  have e:x=y:=by
   rcases List.mem_cons.mp ((h x).mp List.mem_cons_self) with q|q
   ·exact q
   ·rcases List.mem_cons.mp ((h y).mpr List.mem_cons_self) with r|r
    ·exact r.symm
    ·exact (no (b1 x q) (a1 y r)).elim
  subst e
  rw [Ov a2 b2 fun k=>?_]
  constructor
  ·intro hk
   rcases List.mem_cons.mp ((h k).mp (List.mem_cons_of_mem _ hk)) with q|q
   ·exact (irr (q ▸ a1 k hk)).elim
   ·exact q
  ·intro hk
   rcases List.mem_cons.mp ((h k).mpr (List.mem_cons_of_mem _ hk)) with q|q
   ·exact (irr (q ▸ b1 k hk)).elim
   ·exact q
theorem Kh {a:List (List Key)}(nd:a.Nodup) (so:a.Pairwise fun x y=>A4 y x=false):a.Pairwise fun x y=>A4 x y=true :=
 (nd.and so).imp fun {x y} h=>by
  cases q:A4 x y with
  | true=>rfl
  | false=>exact absurd (Ej q h.2) h.1
theorem Qz {ss:List Stp}{L:Str→List It4}{qs qs':List MkI}(t:TI ss L (fun _ _=>True) qs) (t':TI ss L (fun _ _=>True) qs') (so:(qs.map k4K).Pairwise fun a b=>A4 b a=false) (so':(qs'.map k4K).Pairwise fun a b=>A4 b a=false):Paired (fun q q'=>q.1=q'.1/\q.2.Perm q'.2) qs qs':=by
 have half:∀{qs qs':List MkI},TI ss L (fun _ _=>True) qs→TI ss L (fun _ _=>True) qs'→∀k∈qs.map k4K,k∈qs'.map k4K:=fun {qs qs'} t t' k hk=>by
  obtain ⟨q,hq,rfl⟩:=List.mem_map.mp hk
  obtain ⟨⟨s,f,es,ht,hf,wp,_⟩,_⟩:=t.is q hq
  obtain ⟨q',hq',e1,e2,e3⟩:=t'.all _ s f _ _ _ trivial es ht hf wp
  have e3:(q'.1.2.2.2.1,q'.1.1)=(q.1.2.2.2.1,q.1.1):=e3
  refine List.mem_map.mpr ⟨q',hq',?_⟩
  unfold k4K
  rw [e1,e2,(Prod.mk.inj e3).1,(Prod.mk.inj e3).2]
 have e:qs.map k4K=qs'.map k4K:=Ov (Kh t.ap so) (Kh t'.ap so') fun k=>⟨half t t' k,half t' t k⟩
 have le:qs.length=qs'.length:=by have:=congrArg List.length e;simpa using this
 refine Ax le fun i q q' eq eq'=>?_
 have hk:k4K q=k4K q':=by
  have h1:(qs.map k4K)[i]?=some (k4K q):=by rw [List.getElem?_map,eq];rfl
  have h2:(qs'.map k4K)[i]?=some (k4K q'):=by rw [List.getElem?_map,eq'];rfl
  rw [e,h2] at h1
  exact (Option.some.inj h1).symm
 have h1:=List.cons.inj hk
 have h2:=List.cons.inj h1.2
 have h3:=List.cons.inj h2.2
 have h4:=List.cons.inj h3.2
 have d1:q.1.1=q'.1.1:=Sum.inl.inj h1.1
 have d2:q.1.2.1=q'.1.2.1:=by have:=Sum.inl.inj h2.1;omega
 have d3:q.1.2.2.1=q'.1.2.2.1:=Sum.inr.inj h3.1
 have d4:q.1.2.2.2.1=q'.1.2.2.2.1:=Sum.inl.inj h4.1
 obtain ⟨⟨s,f,es,ht,hf,_,p,as⟩,_⟩:=t.is q (List.mem_of_getElem? eq)
 obtain ⟨⟨s',f',es',ht',hf',_,p',as'⟩,_⟩:=t'.is q' (List.mem_of_getElem? eq')
 rw [←d2,es] at es'
 cases es'
 rw [hf] at hf'
 cases hf'
 rw [←d1,←d3,←d4] at p'
 have pp:=p.trans p'.symm
 have d5:q.1.2.2.2.2=q'.1.2.2.2.2:=LP as as' (pp.map _)
 exact ⟨Prod.ext d1 (Prod.ext d2 (Prod.ext d3 (Prod.ext d4 d5))),pp⟩
def snF (b:Int) (n:Nat):List Str:=(List.range n).map fun t:Nat=>AX b (t:Int)
theorem Ob (b:Int) (n:Nat):(snF b n).length=n:=by unfold snF;rw [List.length_map,List.length_range]
theorem Im (b:Int) (n:Nat):snF b (n+1)=snF b n++[AX b (n:Int)]:=by unfold snF;rw [List.range_succ,List.map_append];rfl
theorem RH {b:Int}{n j:Nat}(h:j<n):(snF b n)[j]?=some (AX b (j:Int)):=by
 unfold snF
 rw [List.getElem?_map,List.getElem?_range h]
 rfl
theorem Le {b:Int}{n j:Nat}(h:j<n):AX b (j:Int)∈snF b n:=List.mem_of_getElem? (RH h)
theorem Ub {s:Stp}(h:s.tell=false):EL s:=by
 cases s <;> first|trivial|cases h
structure SPI (H0 H:Hp) (b:Int) (many:Nat) (lp d:Addr) (ps:List V) (ss:List Stp) (n:Nat) (z:Str→Nat):Prop where
 same:AK H0 H
 l0:H0 lp=none
 d0:H0 d=none
 elp:H lp=some (.lst ps)
 pr:Ba H ps ss
 pl:Dy b many ss (List.range n) z (snF b n)
 ed:H d=some (.dK (szK (snF b n) z))
 lss:ss.length=n
 str:∀s∈ss,s.tell=false
 odd:∀s∈ss,∀t∈s.odd,PyData.strOk t=true
section
variable {H0 H H':Hp}{b:Int}{many:Nat}{lp d:Addr}{ps:List V}{ss:List Stp}{n:Nat}{z:Str→Nat}
theorem SPI.next (I:SPI H0 H b many lp d ps ss n z) (s:AK H H'):SPI H0 H' b many lp d ps ss n z :=
 { I with same:=I.same.trans s,elp:=s _ _ I.elp,pr:=I.pr.keep s.tp,ed:=s _ _ I.ed }
theorem SPI.ne (I:SPI H0 H b many lp d ps ss n z):d≠lp:=fun q=>by have:=I.ed;rw [q,I.elp] at this;cases this
theorem SPI.push (I:SPI H0 H b many lp d ps ss n z) {p:Addr}{s:Stp}(es:StA H p s) (hn:n<26) (nm:s.nm=AX b (n:Int)) (g:∀a∈s.As,a∈snF b n) (go:KC s) (tl:s.tell=false) (hb:CL s z many≤60) (od:∀t∈s.odd,PyData.strOk t=true) :
  SPI H0 (upd (upd H d (.dK (putK (szK (snF b n) z) (.inr s.nm) (.int (CL s z many:Int))))) lp (.lst (ps++[.ref p]))) b many lp d (ps++[.ref p]) (ss++[s]) (n+1) (ID z s.nm (CL s z many)):=by
 have ht:Tag b s.nm n:=⟨hn,nm⟩
 have hnew:n∉List.range n:=fun h=>by have:=List.mem_range.mp h;omega
 have t1:Tp H (upd H d (.dK (putK (szK (snF b n) z) (.inr s.nm) (.int (CL s z many:Int))))):=(Tp.refl H).upd I.ed fun ys=>by intro q;cases q
 have e1:(upd H d (.dK (putK (szK (snF b n) z) (.inr s.nm) (.int (CL s z many:Int))))) lp=some (.lst ps):=by rw [AO I.ne.symm];exact I.elp
 have t2:Tp (upd H d (.dK (putK (szK (snF b n) z) (.inr s.nm) (.int (CL s z many:Int))))) (upd (upd H d (.dK (putK (szK (snF b n) z) (.inr s.nm) (.int (CL s z many:Int))))) lp (.lst (ps++[.ref p]))):=(Tp.refl _).upd e1 fun ys=>by intro q;cases q
 have tp:=t1.trans t2
 have nw:=I.pl.new ht hnew
 have nsn:s.nm∉snF b n:=fun h=>by
  obtain ⟨i,s',ei,en,_⟩:=I.pl.str _ h
  exact nw s' (List.mem_of_getElem? ei) en
 have ez:szK (snF b n) z=szK (snF b n) (ID z s.nm (CL s z many)):=PY fun a ha=>(Ef fun e=>nsn (by rw [←e];exact ha)).symm
 have ez2:putK (szK (snF b n) z) (.inr s.nm) (.int (CL s z many:Int))=szK (snF b (n+1)) (ID z s.nm (CL s z many)):=by
  have h:=TZ (z:=ID z s.nm (CL s z many)) nsn
  rw [Lo] at h
  rw [ez,Im,←nm]
  exact h
 have pl2:=(I.pl.snoc ht hnew g go hb).add (i:=ss.length) (s:=s) (by rw [List.getElem?_append_right (Nat.le_refl _),Nat.sub_self];rfl) tl
 have pl3:Dy b many (ss++[s]) (List.range (n+1)) (ID z s.nm (CL s z many)) (snF b (n+1)):=by
  rw [Im,←nm,List.range_succ]
  exact pl2
 have two:∀{R:Stp→Prop},(∀x∈ss,R x)→R s→∀x∈ss++[s],R x:=fun h1 h2 x hx=>by
  rcases List.mem_append.mp hx with hx|hx
  ·exact h1 x hx
  ·rw [List.mem_singleton.mp hx];exact h2
 exact { same:=(I.same.F0 I.d0).F0 I.l0,l0:=I.l0,d0:=I.d0,elp:=AE,pr:=(AW (I.pr.keep tp) (.cons ⟨p,rfl,es.tp tp⟩ .nil)),pl:=pl3,ed:=(by rw [AO I.ne,AE,ez2]),lss:=(by rw [List.length_append,I.lss];rfl),str:=two I.str tl,odd:=two I.odd od }
theorem SPI.vals (I:SPI H0 H b many lp d ps ss n z) {s:Stp}(g:∀a∈s.As,a∈snF b n):∀a∈s.As,BL (szK (snF b n) z) (.inr a)=some (.int (z a:Int))/\z a≤1000:=fun a ha=>⟨Sx (g a ha),Nat.le_trans (I.pl.szs a (g a ha)) (by decide)⟩
end
inductive PlP (H0 H:Hp) (a lk lp d:Addr) (b:Int) (many:Nat) (tk:Int) (k0 k1:Str) (cr:Bool) (i:Nat):L2.St→Prop
 | mk (o8 o9 o10 o11:Option V) (ps:List V) (ss:List Stp) (z:Str→Nat) (I:SPI H0 H b many lp d ps ss (i+1) z) (elk:H lk=some (.lst [.str k0,.str k1])) (nlk:lk≠lp):PlP H0 H a lk lp d b many tk k0 k1 cr i [some (.ref a),some (.int (many:Int)),some (.int tk),some (.int b),some (.ref lk),some (.ref lp),some (.ref d),some (.bl cr),o8,o9,o10,o11,none,none,none,none,none,none]
theorem Pg {b:Int}{m:Nat}:HV [] [(.inr (AX b 0),.int (m:Int))]=szK (snF b 1) (fun _=>m):=rfl
theorem Pb {b:Int}{m:Nat}{k0:Str}(hm:m≤20):Dy b m [.take (AX b 0) k0] (List.range 1) (fun _=>m) (snF b 1):=by
 have t0:Tag b (AX b 0) 0:=⟨by decide,rfl⟩
 refine ⟨.cons t0 .nil,by decide,fun i s a e ha=>?_,fun s hs=>?_,fun a ha=>?_,fun s hs=>?_⟩
 ·have hs:=List.mem_of_getElem? e
  rw [List.mem_singleton.mp hs] at ha
  cases ha
 ·rw [List.mem_singleton.mp hs];trivial
 ·have ha:a∈[AX b 0]:=ha
  rw [List.mem_singleton.mp ha]
  exact ⟨0,_,rfl,rfl,rfl⟩
 ·rw [List.mem_singleton.mp hs]
  exact ⟨Nat.le_refl _,by show m≤60;omega⟩
abbrev SO4:List V:=[.str "count", .str "sum", .str "least", .str "greatest"]
theorem Nr {v:V}(h:v∈SO4):∃t,v=.str t/\t∈SRT/\PyData.strOk t=true:=by
 simp only [List.mem_cons,List.not_mem_nil,or_false] at h
 rcases h with rfl|rfl|rfl|rfl <;> exact ⟨_,rfl,by decide +kernel,by decide +kernel⟩
theorem Kg {H0 H:Hp}{b:Int}{many:Nat}{lp p:Addr}{ps:List V}{ss:List Stp}{ts:List Nat}{z:Str→Nat}{sn:List Str}{s:Stp}{t:Nat}(same:AK H0 H) (l0:H0 lp=none) (elp:H lp=some (.lst ps)) (pr:Ba H ps ss) (pl:Dy b many ss ts z sn) (tel:∀s∈ss,EL s) (es:StA H p s) (ht:Tag b s.nm t) (hn:t∉ts) (g:∀a∈s.As,a∈sn) (gt:EL s) (tl:s.tell=true) :
  AK H0 (upd H lp (.lst (ps++[.ref p])))/\Tp H (upd H lp (.lst (ps++[.ref p])))/\Ba (upd H lp (.lst (ps++[.ref p]))) (ps++[.ref p]) (ss++[s])/\Dy b many (ss++[s]) (ts++[t]) (ID z s.nm (CL s z many)) sn/\∀s'∈ss++[s],EL s':=by
 have tp:Tp H (upd H lp (.lst (ps++[.ref p]))):=(Tp.refl H).upd elp fun ys=>by intro q;cases q
 have go:KC s:=by cases s <;> first|trivial|cases tl
 have hb:CL s z many≤60:=by
  cases s with
  | each n a so zz d=>exact pl.szs a (g a (.head _))
  | gap n a so m=>exact pl.szs a (g a (.head _))
  | take n k=>cases tl
  | only n a lo hi=>cases tl
  | turn n a f g=>cases tl
  | both n a b=>cases tl
  | join n a b wi=>cases tl
 refine ⟨same.F0 l0,tp,AW (pr.keep tp) (.cons ⟨p,rfl,es.tp tp⟩ .nil),pl.snoc ht hn g go hb,fun s' hs=>?_⟩
 rcases List.mem_append.mp hs with hs|hs
 ·exact tel s' hs
 ·rw [List.mem_singleton.mp hs];exact gt
def Jf (c1:Int) (cr:Bool) (many:Nat):Int:=1+(if c1 % 5 > 2 * (if cr=true then 1 else 0) then c1 % 5 else 2 * (if cr=true then 1 else 0)) * (if decide ((many:Int)<9)=true then 1 else 0)
theorem R6 (c1:Int) (cr:Bool) (many:Nat):1≤Jf c1 cr many/\Jf c1 cr many≤5:=by
 unfold Jf
 have h0:0≤c1 % 5:=Int.emod_nonneg _ (by decide)
 have h1:c1 % 5<5:=Int.emod_lt_of_pos _ (by decide)
 generalize c1 % 5=c at *
 generalize decide ((many:Int)<9)=m
 cases cr <;> cases m <;> simp <;> split <;> omega
theorem Vc (xs:List V) (c:Nat) (h:c≤xs.length):CK xs none (some (c:Int))=xs.take c:=by
 unfold CK
 rw [HT.Ll]
 show (xs.drop 0).take (min c xs.length-0)=_
 rw [List.drop_zero,Nat.sub_zero,Nat.min_eq_left h]
theorem Jt (xs:List V) (c:Nat) (h:c≤xs.length):CK xs (some (c:Int)) none=xs.drop c:=by
 unfold CK
 rw [HT.Ll]
 show (xs.drop (min c xs.length)).take (xs.length-min c xs.length)=_
 rw [Nat.min_eq_left h,List.take_of_length_le (by rw [List.length_drop];exact Nat.le_refl _)]
theorem Si (xs:List V):CK xs none (some (-1))=xs.take (xs.length-1):=by
 unfold CK
 have e:HT.sIx xs.length xs.length (some (-1))=xs.length-1:=by
  show (if (-1:Int)<0 then ((-1:Int)+(xs.length:Int)).toNat else min (-1:Int).toNat xs.length)=_
  rw [if_pos (by decide)]
  omega
 rw [e]
 rfl
theorem To (m:Int) {n:Nat}(h:0<n):∃j:Nat,m % (n:Int)=(j:Int)/\j<n:=by
 have h0:0≤m % (n:Int):=Int.emod_nonneg _ (by omega)
 have h1:=Int.emod_lt_of_pos m (show (0:Int)<(n:Int) by omega)
 exact ⟨(m % (n:Int)).toNat,by omega,by omega⟩
theorem Ba.cut {H:Hp}{ps:List V}{ss:List Stp}(h:Ba H ps ss) (n:Nat):Ba H (ps.take n) (ss.take n)/\Ba H (ps.drop n) (ss.drop n):=by
 unfold Ba at *
 induction h generalizing n with
 | nil=>rw [List.take_nil,List.take_nil,List.drop_nil,List.drop_nil];exact ⟨.nil,.nil⟩
 | cons a r ih =>
  cases n with
  | zero=>exact ⟨.nil,.cons a r⟩
  | succ n=>exact ⟨.cons a (ih n).1,(ih n).2⟩
theorem Kv (c k:Int):(AX c k).length≤5:=by
 obtain ⟨_,_,p3,p4⟩:=Hg (Hl c).1 (Int.le_refl _) (Hl c).2 (Jo c).1
 have fl:=(Jo c).2.1
 have l1:(ltr (c / 7+5 * k)).length=1:=rfl
 have:=Hl c
 unfold AX
 rw [PySem.Str.length_append,PySem.Str.length_append,l1]
 omega
theorem Dy.Ws {b:Int}{many:Nat}{ss:List Stp}{ts:List Nat}{z:Str→Nat}{sn:List Str}(h:Dy b many ss ts z sn):∀s∈ss,s.nm.length≤5:=fun s hs=>by
 obtain ⟨i,ei⟩:=List.mem_iff_getElem?.mp hs
 obtain ⟨l,f⟩:=AN h.tag
 have hi:=(List.getElem?_eq_some_iff.mp ei).1
 have g1:=f i s _ ei (List.getElem?_eq_getElem (show i<ts.length by omega))
 rw [g1.2]
 exact Kv _ _
structure PlG (H:Hp) (many:Nat) (l:Addr) (ps:List V) (ss:List Stp):Prop where
 el:H l=some (.lst ps)
 pr:Ba H ps ss
 gp:GP many ss
 len:ss.length≤8
 pos:1≤ss.length
 at5:∀(i:Nat) s,ss[i]?=some s→s.tell=false→i≤5
 odd:∀s∈ss,∀t∈s.odd,PyData.strOk t=true
 nl:∀s∈ss,s.nm.length≤5
theorem PlG.next {H H':Hp}{many:Nat}{l:Addr}{ps:List V}{ss:List Stp}(h:PlG H many l ps ss) (s:AK H H'):PlG H' many l ps ss:={ h with el:=s _ _ h.el,pr:=h.pr.keep s.tp }
theorem PlG.drop {H:Hp}{many:Nat}{l l':Addr}{ps:List V}{ss:List Stp}(h:PlG H many l ps ss) (h2:2≤ss.length) (e:H l'=some (.lst (ps.take (ps.length-1)))):PlG H many l' (ps.take (ps.length-1)) (ss.take (ps.length-1)):=by
 have lp:=h.pr.len
 refine ⟨e,(h.pr.cut _).1,h.gp.init _,?_,?_,fun i s ei=>?_,fun s hs=>h.odd s (List.mem_of_mem_take hs),fun s hs=>h.nl s (List.mem_of_mem_take hs)⟩
 ·have:=h.len
  rw [List.length_take];omega
 ·rw [List.length_take];omega
 ·rw [List.getElem?_take] at ei
  split at ei
  ·exact h.at5 i s ei
  ·cases ei
section
open PySem.Spec PyProof.Rows
variable {X:Cx}
def TQ (K:W.Frag):R2:=fun x y H Q=>∃p ys ds dx,y=.ref p/\SqL K H p ys/\Dvs K H ys ds/\Dv K H x dx/\(∀d∈ds,SeqAt.shaped d=true)/\SeqAt.shaped dx=true/\Q (.bl (!(ds.any fun d=>PyData.eqv d dx))) H
open Classical in
unseal OpR in
theorem Pw {K:W.Frag}(hu:X.A.in1.units+64<cLine) (hK:X.K=K:=by rfl):OpR X (compareOp .NotIn) (TQ K):=by
 subst hK
 intro pins s σ H x y v u Q I rx ry h
 obtain ⟨p,ys,ds,dx,rfl,hq,hds,hdx,sds,sdx,q⟩:=h
 cases ry
 obtain ⟨as,r1⟩:=hdx.reads I rx
 obtain ⟨its,rv,pl,hz⟩:=I.list hq
 obtain ⟨ps,e,e',hp⟩:=O5 I hds rv
 have ev:∀w∈its,∃p∈ps,p.1=w/\PyData.eqv p.2 dx=decide (∃p∈ps,p.1=w/\PyData.eqv p.2 dx=true):=fun w hw=>by
  by_cases c:∃p∈ps,p.1=w/\PyData.eqv p.2 dx=true
  ·obtain ⟨p,m,e1,e2⟩:=id c
   exact ⟨p,m,e1,by rw [e2,decide_eq_true c]⟩
  ·rw [←e] at hw
   obtain ⟨p,m,e1⟩:=List.mem_map.mp hw
   refine ⟨p,m,e1,?_⟩
   rw [decide_eq_false c]
   exact Bool.eq_false_iff.mpr fun z=>c ⟨p,m,e1,z⟩
 refine SeqAt.notIn_listAt (fun w=>decide (∃p∈ps,p.1=w/\PyData.eqv p.2 dx=true)) pl.isList (fun w hw=>?_) ⟨.bl _,H,I,rfl,?_⟩
 ·obtain ⟨p,m,e1,e2⟩:=ev w (by simpa using hw)
  obtain ⟨as',r2⟩:=hp _ m
  have md:p.2∈ds:=by rw [←e'];exact List.mem_map.mpr ⟨p,m,rfl⟩
  show SeqAt.EqAt _ _ _ _ (decide _)
  rw [←e2]
  subst e1
  exact SeqAt.eqAt_reads p.2 dx _ s p.1 v as' as r2 r1 (SeqAt.canLay_of_shaped (sds _ md)) (SeqAt.canLay_of_shaped sdx) (SeqAt.room_of_shaped (sds _ md) hu)
 ·have ea:(its.toArray.any fun w=>decide (∃p∈ps,p.1=w/\PyData.eqv p.2 dx=true))=ds.any fun d=>PyData.eqv d dx:=by
   rw [Bool.eq_iff_iff,List.any_eq_true,Array.any_eq_true']
   constructor
   ·rintro ⟨w,_,z⟩
    obtain ⟨p,m,_,z⟩:=of_decide_eq_true z
    exact ⟨p.2,by rw [←e'];exact List.mem_map.mpr ⟨p,m,rfl⟩,z⟩
   ·rintro ⟨d,hd,z⟩
    rw [←e'] at hd
    obtain ⟨p,m,rfl⟩:=List.mem_map.mp hd
    exact ⟨p.1,by rw [←e];simpa using ⟨p.2,m⟩,decide_eq_true ⟨p,m,rfl,z⟩⟩
  rw [ea]
  exact q
end
theorem T2 {s:Stp}(n:PyData.strOk s.nm=true) (f:∀a∈s.As,PyData.strOk a=true) (o:∀t∈s.odd,PyData.strOk t=true):Ek s.key=true:=by
 have w:PyData.strOk s.word=true:=(by decide +kernel:∀z∈wordAt,PyData.strOk z=true) _ (List.mem_of_getElem? (LR s))
 refine List.all_eq_true.mpr fun k hk=>?_
 cases k with
 | inl _=>rfl
 | inr t =>
  show PyData.strOk t=true
  have:t=s.word\/t=s.nm\/t∈s.As\/t∈s.odd:=by cases s <;> simpa [Stp.key,Stp.word,Stp.nm,Stp.As,Stp.odd,or_assoc] using hk
  rcases this with rfl|rfl|h|h
  ·exact w
  ·exact n
  ·exact f t h
  ·exact o t h
theorem PlG.kok {H:Hp}{many:Nat}{l:Addr}{ps:List V}{ss:List Stp}(h:PlG H many l ps ss):∀ks∈ss.map Stp.key,Ek ks=true:=fun ks hk=>by
 obtain ⟨s,hs,rfl⟩:=List.mem_map.mp hk
 refine T2 (h.gp.nm s hs) (fun a ha=>?_) (h.odd s hs)
 obtain ⟨i,ei⟩:=List.mem_iff_getElem?.mp hs
 obtain ⟨i',s',_,ei',rfl,_⟩:=h.gp.fed i s a ei ha
 exact h.gp.nm s' (List.mem_of_getElem? ei')
theorem VZ {evs:List Ev}(h:∀e∈evs,EvG e):∀ks∈evs.map evK,Ek ks=true:=fun ks hk=>by
 obtain ⟨e,he,rfl⟩:=List.mem_map.mp hk
 obtain ⟨_,h1,h2⟩:=h e he
 show (kOk (Sum.inl e.1)&&(kOk (Sum.inr e.2.1)&&(kOk (Sum.inr e.2.2.1)&&(kOk (Sum.inl e.2.2.2)&&true))))=true
 have a:kOk (Sum.inr e.2.1)=true:=h1
 have b:kOk (Sum.inr e.2.2.1)=true:=h2
 rw [a,b]
 rfl
theorem Ng {a b:List (List Key)}(ha:∀ks∈a,Ek ks=true) (hb:∀ks∈b,Ek ks=true):SeqAt.shaped (.list [.list (a.map ktD),.list (b.map ktD)])=true:=by
 obtain ⟨c,d⟩:=Jn a ha
 obtain ⟨e,f⟩:=Jn b hb
 simp [SeqAt.shaped,PyData.canLay0,PyData.canLayAll0,PyData.depth,PyData.depthAll,c,e]
 omega
theorem lay_ints (ns:List Int):PyData.canLayAll0 (ns.map PyData.int)=true/\PyData.depthAll (ns.map PyData.int)=0:=by
 induction ns with
 | nil=>exact ⟨rfl,rfl⟩
 | cons n ns ih=>simp [PyData.canLayAll0,PyData.canLay0,PyData.depthAll,PyData.depth,ih.1,ih.2]
theorem SK {ss:List Stp}:∀qs:List MkI,(∀q∈qs,Ek (Ck ss q)=true)→PyData.canLayAll0 (qs.map (whD ss))=true/\PyData.depthAll (qs.map (whD ss))≤5
 | [],_=>⟨rfl,Nat.zero_le _⟩
 | q::r,h=>by
  obtain ⟨a,b⟩:=SK r fun z hz=>h z (List.mem_cons_of_mem _ hz)
  obtain ⟨c,d⟩:=FQ _ (h q List.mem_cons_self)
  obtain ⟨e,f⟩:=lay_ints (Dc q.2)
  refine ⟨by simp [whD,ktD,PyData.canLayAll0,PyData.canLay0,a,c,e],?_⟩
  simp [whD,ktD,PyData.depthAll,PyData.depth,d,f]
  omega
theorem Nt {ss:List Stp}{qs:List MkI}(h:∀q∈qs,Ek (Ck ss q)=true):SeqAt.shaped (.list (qs.map (whD ss)))=true:=by
 obtain ⟨a,b⟩:=SK qs h
 simp [SeqAt.shaped,PyData.canLay0,PyData.depth,a]
 omega
theorem OM {ss:List Stp}{H0 H:Hp}:∀{xs:List V}{qs:List MkI},Paired (WhA ss H0 H) xs qs→Dvs K H xs (qs.map (whD ss))
 | _,_,.nil=>.nil
 | _,_,.cons a r=>.cons a.dv (OM r)
theorem LU {ss:List Stp}{H0 H:Hp}:∀{xs:List V}{qs qs':List MkI},Paired (WhA ss H0 H) xs qs→Paired (fun q q'=>q.1=q'.1/\q.2.Perm q'.2) qs qs'→Paired (WhA ss H0 H) xs qs'
 | _,_,_,.nil,.nil=>.nil
 | _,_,_,.cons a r,.cons b r'=>.cons (by
   obtain ⟨x,ra,la,e,e1,e2,e3,e4⟩:=a
   refine ⟨x,ra,la,e,e1,?_,e3,?_⟩
   ·unfold Ck at *
    rw [←b.1]
    exact e2
   ·rw [←Kp b.2]
    exact e4) (LU r r')
theorem Ua {ss:List Stp}{L:Str→List It4}{q q':MkI}(ok:FV ss) (h:IsM ss L q) (h':IsM ss L q') (e:Ck ss q=Ck ss q'):Dc q.2=Dc q'.2:=by
 obtain ⟨s,f,es,ht,hf,_,p,_⟩:=h
 obtain ⟨s',f',es',ht',hf',_,p',_⟩:=h'
 have h1:=List.cons.inj e
 have h2:=List.cons.inj h1.2
 have h3:=List.cons.inj h2.2
 have h4:=List.cons.inj h3.2
 have d2:nmF ss q.1.2.1=nmF ss q'.1.2.1:=Sum.inr.inj h1.1
 have d3:q.1.2.2.1=q'.1.2.2.1:=Sum.inr.inj h2.1
 have d4:q.1.2.2.2.1=q'.1.2.2.2.1:=Sum.inl.inj h3.1
 have d1:q.1.1=q'.1.1:=Sum.inl.inj h4.1
 unfold nmF at d2
 rw [es,es'] at d2
 have dp:=ok.apart _ _ s s' es es' d2
 rw [←dp,es] at es'
 cases es'
 rw [hf] at hf'
 cases hf'
 rw [←d1,←d3,←d4] at p'
 exact Kp (p.trans p'.symm)
theorem Q0 {ss:List Stp}{L:Str→List It4}{qs qs':List MkI}(t:TI ss L (fun _ _=>True) qs) (t':TI ss L (fun _ _=>True) qs') {q:MkI}(hq:q∈qs):∃q'∈qs',Ck ss q'=Ck ss q:=by
 obtain ⟨⟨s,f,es,ht,hf,wp,p,as⟩,_⟩:=t.is q hq
 obtain ⟨q',hq',e1,e2,e3⟩:=t'.all _ s f _ _ _ trivial es ht hf wp
 have e3:(q'.1.2.2.2.1,q'.1.1)=(q.1.2.2.2.1,q.1.1):=e3
 have e4:=(Prod.mk.inj e3).1
 have e5:=(Prod.mk.inj e3).2
 obtain ⟨⟨s',f',es',ht',hf',_,p',as'⟩,_⟩:=t'.is q' hq'
 rw [e1,es] at es'
 cases es'
 rw [hf] at hf'
 cases hf'
 rw [e2,e4,e5] at p'
 have e6:q'.1.2.2.2.2=q.1.2.2.2.2:=LP as' as ((p'.trans p.symm).map _)
 refine ⟨q',hq',?_⟩
 unfold Ck
 rw [e1,e2,e4,e5,e6]
theorem PZ {a b:Str}(ha:PyData.strOk a=true) (hb:PyData.strOk b=true):PyData.strOk (a++b)=true:=by
 unfold PyData.strOk at *
 rw [←Array.all_toList,List.all_eq_true] at *
 intro c hc
 rw [MH] at hc
 rcases List.mem_append.mp hc with h|h
 ·exact ha c h
 ·exact hb c h
theorem any_rows (kss:List (List Key)) (ks:List Key):((kss.map ktD).any fun d=>PyData.eqv d (ktD ks))=true↔ks∈kss:=by
 rw [List.any_eq_true]
 constructor
 ·rintro ⟨d,hd,e⟩
  obtain ⟨js,hj,rfl⟩:=List.mem_map.mp hd
  rw [IS] at e
  rw [←of_decide_eq_true e]
  exact hj
 ·intro h
  exact ⟨_,List.mem_map.mpr ⟨ks,h,rfl⟩,by rw [IS];exact decide_eq_true rfl⟩
theorem DP {α β:Type}{F:α→β→Prop}:∀{l:List α}{m:List β},Paired F l m→∀n,Paired F (l.drop n) (m.drop n)
 | _,_,.nil,n=>by rw [List.drop_nil,List.drop_nil];exact .nil
 | _,_,.cons a r,0=>.cons a r
 | _,_,.cons a r,n+1=>DP r n
theorem Ux {ss:List Stp}{L:Str→List It4}{evs:List Ev}{qs:List MkI}{q:MkI}(h:Pr ss L evs) (t:TI ss L (fun _ _=>True) qs) (hq:q∈qs):Dc q.2≠[]:=by
 obtain ⟨mo,_⟩:=t.mok h hq
 obtain ⟨⟨s,f,es,ht,hf,wp,p,as⟩,_⟩:=t.is q hq
 obtain ⟨i',s',li,ei',rfl,_⟩:=h.ok.fed _ s f es (by rw [hf];exact .head _)
 have ms:=List.mem_of_getElem? ei'
 obtain ⟨t0,ht0,b1,b2⟩:=LS (h.tel s (List.mem_of_getElem? es)) (fun t ht=>by
  obtain ⟨j,hj,rfl⟩:=List.mem_map.mp ht
  exact h.times s' ms _ (List.mem_map.mpr ⟨j,(List.mem_filter.mp hj).1,rfl⟩)) wp
 obtain ⟨j,hj,rfl⟩:=List.mem_map.mp ht0
 have hj2:j∈q.2:=p.mem_iff.mpr (List.mem_filter.mpr ⟨hj,decide_eq_true ⟨b1,b2⟩⟩)
 obtain ⟨k,hk⟩:=List.exists_mem_of_ne_nil _ (mo j hj2).2.2
 intro e
 have:=(Jg mo).mpr ⟨j,hj2,hk⟩
 rw [e] at this
 cases this
theorem Pk {n z:Str}{b e v:Int}(h:Ek [.inr n,.inr z,.inl b,.inl e,.inl v]=true):PyData.strOk n=true/\PyData.strOk z=true:=by
 have h:(kOk (Sum.inr n)&&(kOk (Sum.inr z)&&true))=true:=h
 rw [Bool.and_true,Bool.and_eq_true] at h
 exact h
theorem FZ {n z:Str}(b e v:Int) (h1:PyData.strOk n=true) (h2:PyData.strOk z=true):Ek [.inr n,.inr z,.inl b,.inl e,.inl v]=true:=by
 show (kOk (Sum.inr n)&&(kOk (Sum.inr z)&&true))=true
 rw [Bool.and_true,Bool.and_eq_true]
 exact ⟨h1,h2⟩
theorem Mr {α β γ:Type}{F:α→γ→Prop}{f:β→γ}{as:List α}{bs:List β}(h:Paired (fun a b=>F a (f b)) as bs):Paired F as (bs.map f):=by
 induction h with
 | nil=>exact .nil
 | cons h1 _ ih=>exact .cons h1 ih
theorem RZ {H:Hp}{ps:List V}{ss:List Stp}(h:Ba H ps ss):Rws H ps (ss.map Stp.key):=Mr h
def Um (K:W.Frag):Sp:=fun vs H Q _=>∃(a:Addr) (ns:List Int) (many:Nat) (tk:Int),vs=[.ref a,.int (many:Int),.int tk]/\SqL K H a (ns.map V.int)/\ns.length≤63/\many≤20/\1≤tk/\tk≤30000000 /\
 ∀l H' ps ss,AK H H'→H l=none→PlG H' many l ps ss→Q (.ref l) H'
structure LpS (b:Int) (i:Nat) (st:Stp):Prop where
 nm:st.nm=AX b ((i+1:Nat):Int)
 fed:∀a∈st.As,a∈snF b (i+1)
 ok:KC st
 tel:st.tell=false
 odd:∀t∈st.odd,PyData.strOk t=true
theorem Th (T:Tx K mg ad):BM P w K mg base CX0 2 ad.Er ad.Fj ["_law_script", "_law_many_here", "_law_tick"] (Um K):=by
 have G_ucell_at:=BA.weak (BA.mk (Rw (P:=P) (w:=w) (base:=base) T) T.GF T.Bi.kp T.GJ) Il
 have G_uname:=BA.weak (BA.mk (Ol (P:=P) (w:=w) (base:=base) T) T.Ot T.EG.kp T.PF) Ik
 have G_ustream:=BA.mk (Pz (P:=P) (w:=w) (base:=base) T) T.QA T.DD.kp T.Qf
 have G_umany:=BA.mk (Rv (P:=P) (w:=w) (base:=base) T) T.Tt T.E1.kp T.UB
 refine T.Ez.ok Md (fun vs H Q E h=>?_) (fun cdv A outer s H vs Q E hr h=>?_)
 ·obtain ⟨a,ns,many,tk,rfl,_⟩:=h
  rfl
 ·obtain ⟨a,ns,many,tk,rfl,hS,hl,hm,t0,t1,k⟩:=h
  have nd:=Md.nd
  refine ⟨_,(AJ (psl 3 nd (AI G_ucell_at hr (AA (pvC 0) (AA AB AD))))
    (AJ (IP (i:=4) (osc:=AL IL) [("_law_base", 3)] nd rfl (Or.inl rfl) rfl (Og (K:=K) (Am (AA AB (AA AB AD)))) rfl rfl (by decide +kernel) (by decide +kernel) (by decide +kernel) ⟨rfl,rfl,trivial⟩ rfl (by decide +kernel) (fun _ _ _ _=>Bc) (fun _ _ _ _=>(AI G_uname hr (AA (AG Af (pvC 1) AB) (AA (pvC 0) AD)))))
    (AJ (psl 5 nd (Ao (AA (Am (AA Ak (AA (AI G_uname hr (AA (pvC 3) (AA AB AD))) (AA (BX K (pvC 4) AB) AD)))) AD)))
    (AJ (psl 6 nd (Td (RY (AI G_uname hr (AA (pvC 3) (AA AB AD))) (pvC 1) Ta) (by rfl) (by rfl) (by intro z;cases z) (by decide)))
    (AJ (psl 7 nd (Gd BE (AG AZ (AG Af (AI G_ucell_at hr (AA (pvC 0) (AA AB AD))) AB) AB) AB (Ab _)))
    (AJ (BQ PassesOwn.never rfl (Pu (by rfl) T.DK (AA AB (AA (AG Az AB (AG BD (AU (En rfl) (by rfl) T.Fp PyProof.Rows.boot_max (AA (AG BD AB (Bm Hj (by rfl) T.IW PyProof.Rows.boot_int (AA (pvC 7) AD))) (AA (AG AZ (AI G_ucell_at hr (AA (pvC 0) (AA AB AD))) AB) AD))) (Bm Hj (by rfl) T.IW PyProof.Rows.boot_int (AA (Gd N1 (pvC 1) AB (Ab _)) AD)))) AD))) (pgn 8 nd)
    (AJ (psl 9 nd (AG AZ (AG BD (AG Az (AI G_ucell_at hr (AA (pvC 0) (AA (AG Az AB (pvC 8)) AD))) (AG BD AB (pvC 8))) AB) AB))
    (AJ (psl 10 nd (AI G_ustream hr (AA (pvC 9) (AA (AI G_uname hr (AA (pvC 3) (AA (pvC 8) AD))) (AA (Bm (Jy (K:=K) rfl) (by rfl) T.Cv PyProof.Rows.boot_list (AA (pvC 6) AD)) (AA (pvC 4) (AA (pvC 2) AD)))))))
    (AJ (HQ (A0 (PW.pt (Ln (FH (pvC 7)) (IM (AR N1 (pvC 8) AB (Ab _)))))
    (Ac (psl 11 nd (Ao (AA (AI G_uname hr (AA (pvC 3) (AA AB AD))) (AA (AI G_uname hr (AA (pvC 3) (AA AB AD))) (AA (AG BD AB (AU (C2 rfl) (by rfl) T.E7 PyProof.Rows.boot_min (AA AB (AA (pvC 2) AD)))) AD)))))
    (AH (psl 10 nd (BX K (Ao (AA (Am (AA Ak (AA (AI G_uname hr (AA (pvC 3) (AA AB AD))) (AA (BX K (pvC 4) AB) AD)))) (AA (AG (Co) (Am (AA Ak (AA (AI G_uname hr (AA (pvC 3) (AA AB AD))) AD))) (Bm Fy (by rfl) T.Ec PyProof.Rows.boot_tuple (AA (pvC 11) AD))) AD))) (AG Cn (pvC 8) AB)))))
    Al))
    (AJ (HQ (A0 (AR VA (AI G_umany hr (AA (pvC 10) (AA (pvC 6) (AA (pvC 1) AD)))) AB (Ab _))
    (AH (psl 10 nd (Am (AA Ak (AA (AI G_uname hr (AA (pvC 3) (AA (pvC 8) AD))) (AA (BX K (pvC 4) AB) AD))))))
    Al))
    (AJ (Fb hr.u1 (pvC 6) (JP (T3 (K:=K)) (pvC 10) AB (fun _ _=>rfl)) (AI G_umany hr (AA (pvC 10) (AA (pvC 6) (AA (pvC 1) AD)))) rfl)
    (AH (Bw (Br (pap K (pvC 5) (AA (pvC 10) AD)))))))))))
    (AJ (psl 12 nd (Bm (Jy (K:=K) rfl) (by rfl) T.Cv PyProof.Rows.boot_list (AA (pvC 6) AD)))
    (AJ (psl 9 nd (AG AZ (AG BD (AG Az (AI G_ucell_at hr (AA (pvC 0) (AA AB AD))) AB) AB) AB))
    (AJ (psl 13 nd (Ao (AA Ak (AA Ak (AA Ak (AA Ak AD))))))
    (AJ (psl 10 nd (AU (C2 rfl) (by rfl) T.E7 PyProof.Rows.boot_min (AA AB (AA (AG BD (AG Az AB (AG AZ (AG Af (pvC 9) AB) AB)) (pvC 2)) AD))))
    (AJ (psl 14 nd (AU (C2 rfl) (by rfl) T.E7 PyProof.Rows.boot_min (AA AB (AA (AG Az (pvC 10) (AG Af (AG BD (AG AZ (AG Af (pvC 9) AB) AB) (pvC 10)) AB)) AD))))
    (AJ (Br (pap K (pvC 5) (AA (Am (AA Ak (AA (AI G_uname hr (AA (pvC 3) (AA AB AD))) (AA (BX K (pvC 12) (Ks LW AB)) (AA (BX K (pvC 13) (AG AZ (pvC 9) AB)) (AA (pvC 14) (AA (pvC 10) AD))))))) AD)))
    (AJ (psl 15 nd (AU (C2 rfl) (by rfl) T.E7 PyProof.Rows.boot_min (AA AB (AA (AG BD (AG AZ (AG Af (pvC 9) AB) AB) (pvC 2)) AD))))
    (AJ (Br (pap K (pvC 5) (AA (Am (AA Ak (AA (AI G_uname hr (AA (pvC 3) (AA AB AD))) (AA (BX K (pvC 12) (AG AZ (AG Af (pvC 9) AB) (AU (BF (K:=K)) (by rfl) T.CO PySem.boot_len (AA (pvC 12) AD)))) (AA (BX K (pvC 13) (AG AZ (AG Af (pvC 9) AB) AB)) (AA (pvC 15) AD)))))) AD)))
    (AJ (psl 9 nd (AG AZ (AG BD (AG Az (AI G_ucell_at hr (AA (pvC 0) (AA AB AD))) AB) AB) AB))
    (AJ (psl 16 nd (AG Az AB (AG AZ (pvC 9) (AU (BF (K:=K)) (by rfl) T.CO PySem.boot_len (AA (pvC 12) AD)))))
    (AJ (HQ (A0 (AR BE (AG AZ (AG Af (pvC 9) AB) AB) AB (Ab _))
    (Ac (psl 17 nd (Am (AA Ak (AA (AI G_uname hr (AA (pvC 3) (AA AB AD))) (AA (BX K (pvC 12) (AG AZ (AG Af (pvC 9) AB) (pvC 16))) (AA (BX K (pvC 13) (AG AZ (AG Af (pvC 9) AB) AB)) (AA (pvC 15) AD)))))))
    (AH (psl 5 nd (AG FL (AG FL (Aq (Ci (K:=K)) (pvC 5) A6 (Au (pvC 16))) (Ao (AA (pvC 17) AD))) (Aq (Ci (K:=K)) (pvC 5) (Au (pvC 16)) A6)))))
    Al))
    (Ac (A0 (AR BE (AG AZ (AG Af (pvC 9) AB) AB) AB (Ab _))
    (AH (psl 5 nd (Aq (Ci (K:=K)) (pvC 5) A6 (Au (Ks LW AB)))))
    Al)
    (AH (AQ (pvC 5))))))))))))))))))))),?_⟩
  have sz:sizeLine=16777216:=sizeLine_eq
  refine fun _ _ _ _ z1=>⟨ns,hS,by decide,hl,fun b=>z1 _ _ ?_⟩
  refine fun _ _ _ _ z2=>⟨le1 rfl,fun q hq=>⟨q,rfl,⟨_,SqT.of AE⟩,?_⟩⟩
  refine KP (K:=K) (fun _=>true) (fun x=>match x with|.int j=>.str (AX (b / 3) j)|_=>.non) (SqT.of AE) (by show 2≤sizeLine;omega) (fun x R _ q=>q) (fun x R hx _ q=>?_) fun lk hlk=>?_
  ·simp only [List.mem_cons,List.not_mem_nil,or_false] at hx
   rcases hx with rfl|rfl <;> exact ⟨⟨by decide,by decide⟩,q⟩
  have s0:=(AK.Ay (o:=.tup [.int 20,.int 21]) hq).trans (AK.Ay (o:=.lst [.str (AX (b / 3) 20),.str (AX (b / 3) 21)]) hlk)
  have elk:(upd (upd H q (.tup [.int 20,.int 21])) lk (.lst [.str (AX (b / 3) 20),.str (AX (b / 3) 21)])) lk=some (.lst [.str (AX (b / 3) 20),.str (AX (b / 3) 21)]):=AE
  refine z2 _ (upd (upd H q (.tup [.int 20,.int 21])) lk (.lst [.str (AX (b / 3) 20),.str (AX (b / 3) 21)])) ?_
  generalize upd (upd H q (.tup [.int 20,.int 21])) lk (.lst [.str (AX (b / 3) 20),.str (AX (b / 3) 21)])=H1 at s0 elk ⊢
  have ok0:=(FN (b / 3) 20).ok
  have ok1:=(FN (b / 3) 21).ok
  generalize AX (b / 3) 20=k0 at elk ok0
  generalize AX (b / 3) 21=k1 at elk ok1
  refine fun _ _ _ _ z3=>⟨_,_,SqL.of elk,AF (j:=0) rfl,le1 rfl,fun p1 hp1=>?_⟩
  refine An (o:=.tup [.str "take", .str (AX b 0),.str k0]) hp1 fun H2 s1 e1=>?_
  refine ⟨le1 rfl,fun lp hlp=>z3 _ _ ?_⟩
  have s3:=AK.Ay (o:=.lst [.ref p1]) hlp
  have elp:(upd H2 lp (.lst [.ref p1])) lp=some (.lst [.ref p1]):=AE
  have nlk:lk≠lp:=AM (s1 _ _ elk) hlp
  generalize upd H2 lp (.lst [.ref p1])=H4 at s3 elp ⊢
  have s04:=s0.trans (s1.trans s3)
  have l0:H lp=none:=(s0.trans s1).free hlp
  refine fun _ _ _ _ z4 d hd=>⟨AE,[(.inr (AX b 0),.int (many:Int))],rfl,le1 rfl,z4 _ _ ?_⟩
  rw [Pg]
  have s4:AK H4 (upd (upd H4 d (.dK [])) d (.dK (szK (snF b 1) fun _=>many))):=((AK.refl H4).F0 hd).F0 hd
  have ed:(upd (upd H4 d (.dK [])) d (.dK (szK (snF b 1) fun _=>many))) d=some (.dK (szK (snF b 1) fun _=>many)):=AE
  generalize upd (upd H4 d (.dK [])) d (.dK (szK (snF b 1) fun _=>many))=H5 at s4 ed ⊢
  have S5:=s04.trans s4
  have I5:SPI H H5 b many lp d [.ref p1] [.take (AX b 0) k0] 1 (fun _=>many) :=
   { same:=S5,l0:=l0,d0:=s04.free hd,elp:=s4 _ _ elp,pr:=.cons ⟨p1,rfl,(show StA H5 p1 (.take (AX b 0) k0) from (s3.trans s4) _ _ e1)⟩ .nil,pl:=Pb hm,ed:=ed,lss:=rfl,str:=fun s hs=>(by rw [List.mem_singleton.mp hs];rfl),odd:=fun s hs t ht=>(by rw [List.mem_singleton.mp hs] at ht;rw [List.mem_singleton.mp ht];exact ok0) }
  have elk5:=(s1.trans (s3.trans s4)) _ _ elk
  refine fun _ _ _ _ z5=>⟨ns,S5.seq hS,by decide,hl,fun c=>⟨⟨by decide,by decide⟩,(by decide:(0:Int)<3),rfl,z5 [some (.ref a),some (.int (many:Int)),some (.int tk),some (.int b),some (.ref lk),some (.ref lp),some (.ref d),some (.bl (decide (V.int (c / 23 % 3)=V.int 1))),none,none,none,none,none,none,none,none,none,none] _ ?_⟩⟩
  generalize decide (V.int (c / 23 % 3)=V.int 1)=cr
  clear z1 z2 z3 z4 z5
  refine fun _ _ _ _ z6=>(.inr ⟨_,rfl,.inl ⟨by decide,by decide⟩,ns,S5.seq hS,by decide,hl,fun c1=>⟨(by decide:(0:Int)<5),.inr ⟨_,rfl,.inr (by cases decide ((many:Int)<9) <;> exact ⟨by decide,by decide⟩),?_⟩⟩⟩)
  obtain ⟨n1,n2⟩:=R6 c1 cr many
  refine ⟨1,Jf c1 cr many,rfl,⟨by decide,by decide,by omega,by omega⟩,Fh (lo:=1) (n:=(Jf c1 cr many-1).toNat) (fun i σ H'=>PlP H H' a lk lp d b many tk k0 k1 cr i σ) (.mk none none none none _ _ _ I5 elk5 nlk) ?_ ?_⟩
  ·rintro i σ H6 hi ⟨o8,o9,o10,o11,ps,ss,z,I,elk,nlk⟩
   have hi4:i<4:=by omega
   refine fun _ _ _ _ z7=>⟨ns,I.same.seq hS,by omega,hl,fun c2=>⟨.inl ⟨by decide,by decide⟩,.inr ⟨by decide,by decide⟩,(by decide:(0:Int)<2147483647),z7 [some (.ref a),some (.int (many:Int)),some (.int tk),some (.int b),some (.ref lk),some (.ref lp),some (.ref d),some (.bl cr),some (.int (1+(i:Int))),some (.int ((c2+7919 * (1+(i:Int))) * 48271 % 2147483647)),o10,o11,none,none,none,none,none,none] _ ?_⟩⟩
   generalize (c2+7919 * (1+(i:Int))) * 48271 % 2147483647=M
   have ei1:1+(i:Int)=((i+1:Nat):Int):=by omega
   refine fun _ _ _ _ z8=>⟨d,_,rfl,I.ed,fun l3 hl3=>?_⟩
   rw [Ma]
   refine An (o:=.lst ((snF b (i+1)).map V.str)) hl3 fun H7 s7 el3=>?_
   have I7:=I.next s7
   have lsn:=Ob b (i+1)
   have lps:ps.length=i+1:=by rw [I.pr.len,I.lss]
   refine ⟨M,tk,_,l3,lk,snF b (i+1),k0,k1,rfl,el3,(fun e=>by rw [e,List.length_nil] at lsn;omega),by omega,s7 _ _ elk,by omega,t1,fun p st H8 s8 ea g go=>z8 _ _ ?_⟩
   have I8:=I7.next s8
   have elk8:=s8 _ _ (s7 _ _ elk)
   have gl:LpS b i st:=⟨by rw [g.nm,ei1],g.fed,g.ok,g.tel,fun t ht=>by rcases go t ht with rfl|rfl <;> assumption⟩
   clear g go s8 s7 hl3 el3 I7 z7 z8
   refine fun _ _ _ _ z9=>LC (fun σ' H'=>∃(p':Addr) (st':Stp) (o11:Option V),σ'=[some (.ref a),some (.int (many:Int)),some (.int tk),some (.int b),some (.ref lk),some (.ref lp),some (.ref d),some (.bl cr),some (.int (1+(i:Int))),some (.int M),some (.ref p'),o11,none,none,none,none,none,none]/\AK H8 H'/\StA H' p' st'/\LpS b i st') ?_ ?_
   ·refine ⟨_,rfl,OF (fun ecr=>?_) fun ecr=>ES ⟨p,st,_,rfl,AK.refl _,ea,gl⟩⟩
    refine ⟨_,rfl,He (fun lt=>?_) fun _=>⟨p,st,_,rfl,AK.refl _,ea,gl⟩⟩
    have lt:1+(i:Int)<3:=lt
    refine ⟨.inl ⟨by decide,by decide⟩,le1 rfl,fun lb hlb=>?_⟩
    have w0:0≤19 * (if tk<50000 then tk else 50000):=by split <;> omega
    refine An (o:=.lst [.str (AX b 0),.str (AX b 1),.int (19 * (if tk<50000 then tk else 50000))]) hlb fun G1 g1 f1=>?_
    generalize 19 * (if tk<50000 then tk else 50000)=W at w0 f1
    refine ⟨_,_,SqL.of (g1 _ _ elk8),AF (j:=1) rfl,le1 rfl,fun q1 hq1=>?_⟩
    refine An (o:=.tup [.str "take", .str (AX b 1),.str k1]) hq1 fun G2 g2 f2=>?_
    refine ⟨le1 rfl,fun q2 hq2=>?_⟩
    refine An (o:=.tup [.str "join", .str (AX b 2)]) hq2 fun G3 g3 f3=>?_
    refine ⟨lb,_,rfl,.inl ⟨SqL.of ((g2.trans g3) _ _ f1),fun q3 hq3=>?_⟩⟩
    refine An (o:=.tup [.str (AX b 0),.str (AX b 1),.int W]) hq3 fun G4 g4 f4=>?_
    refine ⟨q2,q3,_,_,rfl,rfl,g4 _ _ f3,f4,by show 5≤sizeLine;omega,fun q4 G5 g5 f5=>⟨le1 rfl,fun ll hll=>?_⟩⟩
    refine An (o:=.lst [.ref q1,.ref q4]) hll fun G6 g6 f6=>?_
    have gA:=g1.trans (g2.trans (g3.trans (g4.trans (g5.trans g6))))
    have f2':=(g3.trans (g4.trans (g5.trans g6))) _ _ f2
    have f5':=g6 _ _ f5
    obtain ⟨p',st',ep',ea',gl'⟩:∃p' st',[V.ref q1,V.ref q4][i]?=some (.ref p')/\StA G6 p' st'/\LpS b i st':=by
     rcases (by omega:i=0\/i=1) with rfl|rfl
     ·exact ⟨q1,.take (AX b 1) k1,rfl,f2',⟨rfl,fun a h=>(by cases h),trivial,rfl,fun t ht=>(by rw [List.mem_singleton.mp ht];exact ok1)⟩⟩
     ·refine ⟨q4,.join (AX b 2) (AX b 0) (AX b 1) W,rfl,f5',⟨rfl,fun a h=>?_,w0,rfl,fun t ht=>(by cases ht)⟩⟩
      rcases List.mem_cons.mp h with rfl|h
      ·exact Le (j:=0) (by decide)
      ·rw [List.mem_singleton.mp h]
       exact Le (j:=1) (by decide)
    exact ⟨_,_,SqL.of f6,(by rw [show (1+(i:Int)-1)=(i:Int) by omega];exact AF ep'),⟨p',st',_,rfl,gA,ea',gl'⟩⟩
   ·rintro σ' H8' ⟨p,st,o11,rfl,s8,ea,gl⟩
    have I8:=I8.next s8
    have elk8:=s8 _ _ elk8
    refine z9 _ _ ?_
    clear z9 s8
    refine fun _ _ _ _ z12=>LC (fun σ' H'=>∃(p':Addr) (st':Stp),σ'=[some (.ref a),some (.int (many:Int)),some (.int tk),some (.int b),some (.ref lk),some (.ref lp),some (.ref d),some (.bl cr),some (.int (1+(i:Int))),some (.int M),some (.ref p'),o11,none,none,none,none,none,none]/\AK H8' H'/\StA H' p' st'/\LpS b i st'/\CL st' z many≤60) ?_ ?_
    ·refine ⟨p,d,st,_,z,many,rfl,ea,I8.ed,I8.vals gl.fed,_,rfl,He (fun e=>?_) fun e=>?_⟩
     ·exact ⟨_,_,SqL.of elk8,AF (j:=1) rfl,le1 rfl,fun p2 hp2=>⟨p2,.take (AX b (1+(i:Int))) k1,rfl,AK.Ay hp2,AE,⟨(by rw [ei1];rfl),(fun a h=>by cases h),trivial,rfl,fun t ht=>(by rw [List.mem_singleton.mp ht];exact ok1)⟩,(by show many≤60;omega)⟩⟩
     ·have e:¬ ((CL st z many:Nat):Int) > 60:=e
      exact ⟨p,st,rfl,AK.refl _,ea,gl,by omega⟩
    ·rintro σ' H9 ⟨p',st',rfl,s9,ea',gl',bd'⟩
     have I9:=I8.next s9
     obtain ⟨w0,w1,w2⟩:=ea'.word (K:=K)
     have lz:(szK (snF b (i+1)) z).length+1≤sizeLine:=by unfold szK;rw [List.length_map];omega
     refine z12 _ _ ?_
     clear z12
     refine fun _ _ _ _ z14=>⟨p',d,st',_,z,many,rfl,ea',I9.ed,I9.vals gl'.fed,.inr (.inl ⟨p',_,_,_,rfl,rfl,w0,w2,d,_,rfl,KW.k (k:=.inr st'.nm) I9.ed lz,z14 _ _ ?_⟩)⟩
     have I10:=I9.push ea' (by omega) gl'.nm gl'.fed gl'.ok gl'.tel bd' gl'.odd
     have elp10:(upd H9 d (.dK (putK (szK (snF b (i+1)) z) (.inr st'.nm) (.int (CL st' z many:Int))))) lp=some (.lst ps):=by rw [AO I9.ne.symm];exact I9.elp
     have elk10:(upd (upd H9 d (.dK (putK (szK (snF b (i+1)) z) (.inr st'.nm) (.int (CL st' z many:Int))))) lp (.lst (ps++[.ref p']))) lk=some (.lst [.str k0,.str k1]):=by
      rw [AO nlk,AO (fun q=>by have:=s9 _ _ elk8;rw [q,I9.ed] at this;cases this)]
      exact s9 _ _ elk8
     exact fun _ _ _ _ z15=>⟨.inl ⟨rfl,_,SqL.of elp10⟩,lp,_,_,rfl,rfl,elp10,by omega,z15 _ _ (.mk _ _ _ _ _ _ _ I10 elk10 nlk)⟩
  ·rintro σ H6 ⟨o8,o9,o10,o11,ps,ss,z,I,elk,nlk⟩
   have hn4:(Jf c1 cr many-1).toNat≤4:=by omega
   generalize (Jf c1 cr many-1).toNat=n at hn4 I
   have lss:=I.lss
   have lps:ps.length=n+1:=by rw [I.pr.len,I.lss]
   have lsn:((snF b (n+1)).map V.str).length=n+1:=by rw [List.length_map];exact Ob b (n+1)
   refine z6 _ _ ?_
   clear z6
   refine fun _ _ _ _ z16=>⟨d,_,rfl,I.ed,fun l3 hl3=>z16 _ _ ?_⟩
   rw [Ma]
   have s7:=AK.Ay (o:=.lst ((snF b (n+1)).map V.str)) hl3
   have el3:(upd H6 l3 (.lst ((snF b (n+1)).map V.str))) l3=some (.lst ((snF b (n+1)).map V.str)):=AE
   have n3:l3≠lp:=(AM I.elp hl3).symm
   generalize upd H6 l3 (.lst ((snF b (n+1)).map V.str))=H7 at s7 el3 ⊢
   have I7:=I.next s7
   refine fun _ _ _ _ z17=>⟨ns,I7.same.seq hS,by decide,hl,fun c2=>⟨.inr ⟨by decide,by decide⟩,(by decide:(0:Int)<2147483629),z17 [some (.ref a),some (.int (many:Int)),some (.int tk),some (.int b),some (.ref lk),some (.ref lp),some (.ref d),some (.bl cr),o8,some (.int ((c2+5) * 69621 % 2147483629)),o10,o11,some (.ref l3),none,none,none,none,none] _ ?_⟩⟩
   generalize (c2+5) * 69621 % 2147483629=M
   refine fun _ _ _ _ z18=>⟨le1 rfl,fun lo hlo=>z18 _ _ ?_⟩
   have s8:=AK.Ay (o:=.lst SO4) hlo
   have elo:(upd H7 lo (.lst SO4)) lo=some (.lst SO4):=AE
   have no:lo≠lp:=(AM I7.elp hlo).symm
   generalize upd H7 lo (.lst SO4)=H8 at s8 elo ⊢
   have I8:=I7.next s8
   have el8:=s8 _ _ el3
   have b0:0≤M / 4 % 5:=Int.emod_nonneg _ (by decide)
   have b1:M / 4 % 5<5:=Int.emod_lt_of_pos _ (by decide)
   have b2:1 * tk≤(1+M / 4 % 5) * tk:=Int.mul_le_mul_of_nonneg_right (by omega) (by omega)
   have dB:1≤(if (1+M / 4 % 5) * tk<1000000 then (1+M / 4 % 5) * tk else 1000000)/\(if (1+M / 4 % 5) * tk<1000000 then (1+M / 4 % 5) * tk else 1000000)≤1000000:=by split <;> omega
   clear z16 z17 z18
   refine fun _ _ _ _ z19=>⟨⟨by decide,by decide⟩,(by decide:(0:Int)<5),.inl ⟨by omega,by omega⟩,z19 [some (.ref a),some (.int (many:Int)),some (.int tk),some (.int b),some (.ref lk),some (.ref lp),some (.ref d),some (.bl cr),o8,some (.int M),some (.int (if (1+M / 4 % 5) * tk<1000000 then (1+M / 4 % 5) * tk else 1000000)),o11,some (.ref l3),some (.ref lo),none,none,none,none] _ ?_⟩
   generalize (if (1+M / 4 % 5) * tk<1000000 then (1+M / 4 % 5) * tk else 1000000)=D at dB ⊢
   have q0:0≤M / 20 % 4:=Int.emod_nonneg _ (by decide)
   have q1:M / 20 % 4<4:=Int.emod_lt_of_pos _ (by decide)
   have q2:0≤M / 20 % 4 * D:=Int.mul_nonneg q0 (by omega)
   have q3:M / 20 % 4 * D≤3 * D:=Int.mul_le_mul_of_nonneg_right (by omega) (by omega)
   have zB:D≤(if D+M / 20 % 4 * D / 2<1000000 then D+M / 20 % 4 * D / 2 else 1000000)/\(if D+M / 20 % 4 * D / 2<1000000 then D+M / 20 % 4 * D / 2 else 1000000)≤1000000/\(if D+M / 20 % 4 * D / 2<1000000 then D+M / 20 % 4 * D / 2 else 1000000)≤20 * D:=by
    generalize M / 20 % 4 * D=X at q2 q3
    split <;> omega
   refine fun _ _ _ _ z20=>⟨⟨by decide,by decide⟩,(by decide:(0:Int)<4),.inl ⟨by omega,by omega⟩,⟨by decide,by decide⟩,z20 [some (.ref a),some (.int (many:Int)),some (.int tk),some (.int b),some (.ref lk),some (.ref lp),some (.ref d),some (.bl cr),o8,some (.int M),some (.int D),o11,some (.ref l3),some (.ref lo),some (.int (if D+M / 20 % 4 * D / 2<1000000 then D+M / 20 % 4 * D / 2 else 1000000)),none,none,none] _ ?_⟩
   generalize (if D+M / 20 % 4 * D / 2<1000000 then D+M / 20 % 4 * D / 2 else 1000000)=Z at zB ⊢
   have atl:atI ((snF b (n+1)).map V.str) (-1)=some (.str (AX b (n:Int))):=by rw [Im,List.map_append];exact HB _ _
   have mla:AX b (n:Int)∈snF b (n+1):=Le (by omega)
   generalize AX b (n:Int)=la at atl mla
   obtain ⟨v1,h1,m1⟩:=Bs SO4 4 rfl (by decide) M
   obtain ⟨so1,rfl,i1,j1⟩:=Nr m1
   clear z19
   refine fun _ _ _ _ z21=>⟨.inl ⟨rfl,_,SqL.of I8.elp⟩,_,_,SqL.of el8,atl,(by decide:(0:Int)<4),_,_,SqL.of elo,h1,le1 rfl,fun p1 hp1=>?_⟩
   refine An (o:=.tup [.str "each", .str (AX b 8),.str la,.str so1,.int Z,.int D]) hp1 fun H9 s9 e9=>?_
   have I9:=I8.next s9
   have htn:∀t,5≤t→t∉List.range (n+1):=fun t ht hm=>by have:=List.mem_range.mp hm;omega
   obtain ⟨sm,tp,prT,plT,teT⟩:=Kg (s:=.each (AX b 8) la so1 Z D) (t:=8) I9.same I9.l0 I9.elp I9.pr I9.pl (fun s hs=>Ub (I9.str s hs)) e9 ⟨by decide,rfl⟩ (htn 8 (by decide)) (fun a h=>by rw [List.mem_singleton.mp h];exact mla) ⟨i1,dB.1,dB.2,zB.1,zB.2.1,zB.2.2⟩ rfl
   refine ⟨lp,_,_,rfl,rfl,I9.elp,by omega,z21 _ _ ?_⟩
   clear z20 z21
   have elpT:(upd H9 lp (.lst (ps++[.ref p1]))) lp=some (.lst (ps++[.ref p1])):=AE
   have el9:(upd H9 lp (.lst (ps++[.ref p1]))) l3=some (.lst ((snF b (n+1)).map V.str)):=by rw [AO n3];exact s9 _ _ el8
   have eo9:(upd H9 lp (.lst (ps++[.ref p1]))) lo=some (.lst SO4):=by rw [AO no];exact s9 _ _ elo
   generalize upd H9 lp (.lst (ps++[.ref p1]))=H10 at sm tp prT elpT el9 eo9 ⊢
   have r0:0≤M / 80 % 4:=Int.emod_nonneg _ (by decide)
   have r1:M / 80 % 4<4:=Int.emod_lt_of_pos _ (by decide)
   have r2:0≤M / 80 % 4 * tk:=Int.mul_nonneg r0 (by omega)
   have mB:0≤(if M / 80 % 4 * tk<1000000 then M / 80 % 4 * tk else 1000000):=by split <;> omega
   refine fun _ _ _ _ z22=>⟨⟨by decide,by decide⟩,(by decide:(0:Int)<4),.inl ⟨by omega,by omega⟩,z22 [some (.ref a),some (.int (many:Int)),some (.int tk),some (.int b),some (.ref lk),some (.ref lp),some (.ref d),some (.bl cr),o8,some (.int M),some (.int D),o11,some (.ref l3),some (.ref lo),some (.int Z),some (.int (if M / 80 % 4 * tk<1000000 then M / 80 % 4 * tk else 1000000)),none,none] _ ?_⟩
   generalize (if M / 80 % 4 * tk<1000000 then M / 80 % 4 * tk else 1000000)=G at mB ⊢
   have pos:(0:Int)<(((snF b (n+1)).map V.str).length:Int):=by omega
   obtain ⟨v2,h2,m2⟩:=Bs ((snF b (n+1)).map V.str) ((((snF b (n+1)).map V.str).length:Nat):Int) rfl pos (M / 320)
   obtain ⟨fd,mfd,rfl⟩:=List.mem_map.mp m2
   obtain ⟨v3,h3,m3⟩:=Bs SO4 4 rfl (by decide) (M / 1920)
   obtain ⟨so2,rfl,i2,j2⟩:=Nr m3
   refine fun _ _ _ _ z23=>⟨.inl ⟨rfl,_,SqL.of elpT⟩,⟨by decide,by decide⟩,_,.inl (SqL.of el9),pos,_,_,SqL.of el9,h2,⟨by decide,by decide⟩,(by decide:(0:Int)<4),_,_,SqL.of eo9,h3,le1 rfl,fun p2 hp2=>?_⟩
   refine An (o:=.tup [.str "gap", .str (AX b 9),.str fd,.str so2,.int G]) hp2 fun H11 s11 e11=>?_
   have hts:∀t,5≤t→t≠8→t∉List.range (n+1)++[8]:=fun t h5 h8 hm=>by
    rcases List.mem_append.mp hm with q|q
    ·exact htn t h5 q
    ·exact h8 (List.mem_singleton.mp q)
   obtain ⟨sm2,_,pr2,pl2,te2⟩:=Kg (s:=.gap (AX b 9) fd so2 G) (t:=9) (sm.trans s11) I9.l0 (s11 _ _ elpT) (prT.keep s11.tp) plT teT e11 ⟨by decide,rfl⟩ (hts 9 (by decide) (by decide)) (fun a h=>by rw [List.mem_singleton.mp h];exact mfd) ⟨i2,mB⟩ rfl
   refine ⟨lp,_,_,rfl,rfl,s11 _ _ elpT,by rw [List.length_append];simp;omega,z23 _ _ ?_⟩
   clear z22 z23
   have el12:(upd H11 lp (.lst (ps++[.ref p1]++[.ref p2]))) lp=some (.lst (ps++[.ref p1]++[.ref p2])):=AE
   have es12:(upd H11 lp (.lst (ps++[.ref p1]++[.ref p2]))) l3=some (.lst ((snF b (n+1)).map V.str)):=by rw [AO n3];exact s11 _ _ el9
   have eo12:(upd H11 lp (.lst (ps++[.ref p1]++[.ref p2]))) lo=some (.lst SO4):=by rw [AO no];exact s11 _ _ eo9
   generalize upd H11 lp (.lst (ps++[.ref p1]++[.ref p2]))=H12 at sm2 pr2 el12 es12 eo12 ⊢
   have gp:=pl2.gp te2
   have nw7:=pl2.new (n:=AX b 7) (t:=7) ⟨by decide,rfl⟩ (fun hm=>by
    rcases List.mem_append.mp hm with q|q
    ·exact hts 7 (by decide) (by decide) q
    ·exact absurd (List.mem_singleton.mp q) (by decide))
   have lg:(ss++[Stp.each (AX b 8) la so1 Z D]++[Stp.gap (AX b 9) fd so2 G]).length=n+3:=by
    rw [List.length_append,List.length_append,lss];rfl
   have a4:∀(i:Nat) s,(ss++[Stp.each (AX b 8) la so1 Z D]++[Stp.gap (AX b 9) fd so2 G])[i]?=some s→s.tell=false→i≤4:=fun i s ei tl=>by
    rcases Ld ei with ei|⟨_,rfl⟩
    ·rcases Ld ei with ei|⟨_,rfl⟩
     ·have:=(List.getElem?_eq_some_iff.mp ei).1
      omega
     ·cases tl
    ·cases tl
   have od2:∀s∈ss++[Stp.each (AX b 8) la so1 Z D]++[Stp.gap (AX b 9) fd so2 G],∀t∈s.odd,PyData.strOk t=true:=fun s hs t ht=>by
    rcases List.mem_append.mp hs with hs|hs
    ·rcases List.mem_append.mp hs with hs|hs
     ·exact I.odd s hs t ht
     ·rw [List.mem_singleton.mp hs] at ht
      rw [List.mem_singleton.mp ht]
      exact j1
    ·rw [List.mem_singleton.mp hs] at ht
     rw [List.mem_singleton.mp ht]
     exact j2
   have feed:∀j,j<n+1→∃s',(ss++[Stp.each (AX b 8) la so1 Z D]++[Stp.gap (AX b 9) fd so2 G])[j]?=some s'/\s'.nm=AX b (j:Int)/\s'.tell=false:=fun j hj=>by
    have ej:=List.getElem?_eq_getElem (show j<ss.length by omega)
    have tg:=(AN I.pl.tag).2 j _ j ej (List.getElem?_range hj)
    exact ⟨_,HA (HA ej),tg.2,I.str _ (List.mem_of_getElem? ej)⟩
   have l0:=I.l0
   have nl2:=pl2.Ws
   generalize ss++[Stp.each (AX b 8) la so1 Z D]++[Stp.gap (AX b 9) fd so2 G]=sg at pr2 pl2 te2 gp nw7 lg a4 od2 feed nl2
   generalize ps++[V.ref p1]++[V.ref p2]=pg at pr2 el12
   have lpg:pg.length=n+3:=by rw [pr2.len];exact lg
   have P12:PlG H12 many lp pg sg:=⟨el12,pr2,gp,by omega,by omega,fun i s ei tl=>Nat.le_succ_of_le (a4 i s ei tl),od2,nl2⟩
   clear I7 I8 I9 I plT teT prT sm e9 e11 s9 s11 hp1 hp2 elpT el9 eo9 el8 elo el3 tp h1 h2 h3 m1 m2 m3 mla mfd atl
   refine fun _ _ _ _ z24=>⟨ns,sm2.seq hS,by decide,hl,fun c3=>⟨.inr ⟨by decide,by decide⟩,(by decide:(0:Int)<2147483647),z24 [some (.ref a),some (.int (many:Int)),some (.int tk),some (.int b),some (.ref lk),some (.ref lp),some (.ref d),some (.bl cr),o8,some (.int ((c3+77) * 48271 % 2147483647)),some (.int D),o11,some (.ref l3),some (.ref lo),some (.int Z),some (.int G),none,none] _ ?_⟩⟩
   generalize (c3+77) * 48271 % 2147483647=N
   refine fun _ _ _ _ z25=>⟨_,.inl (SqL.of es12),pos,z25 [some (.ref a),some (.int (many:Int)),some (.int tk),some (.int b),some (.ref lk),some (.ref lp),some (.ref d),some (.bl cr),o8,some (.int N),some (.int D),o11,some (.ref l3),some (.ref lo),some (.int Z),some (.int G),some (.int (1+N % (((snF b (n+1)).map V.str).length:Int))),none] _ ?_⟩
   have x0:1≤1+N % (((snF b (n+1)).map V.str).length:Int)/\1+N % (((snF b (n+1)).map V.str).length:Int)≤n+1:=by
    have y0:=Int.emod_nonneg N (show (((snF b (n+1)).map V.str).length:Int)≠0 by omega)
    have y1:=Int.emod_lt_of_pos N pos
    omega
   generalize 1+N % (((snF b (n+1)).map V.str).length:Int)=Ai at x0 ⊢
   obtain ⟨A,rfl⟩:=Int.eq_ofNat_of_zero_le (show 0≤Ai by omega)
   clear z24 z25
   refine fun _ _ _ _ z26=>LC (fun σ' H'=>∃(l:Addr) (ps:List V) (ss:List Stp) (o17:Option V),σ'=[some (.ref a),some (.int (many:Int)),some (.int tk),some (.int b),some (.ref lk),some (.ref l),some (.ref d),some (.bl cr),o8,some (.int N),some (.int D),o11,some (.ref l3),some (.ref lo),some (.int Z),some (.int G),some (.int (A:Int)),o17]/\AK H H'/\H l=none/\PlG H' many l ps ss/\2≤ss.length) ?_ ?_
   ·refine ⟨⟨by decide,by decide⟩,(by decide:(0:Int)<2),rfl,_,rfl,Gq (fun _=>?_) fun _=>⟨lp,pg,sg,_,rfl,sm2,l0,P12,by omega⟩⟩
    obtain ⟨j,ej,hj⟩:=To (N / 8) (show 0<A by omega)
    have aj:atI ((snF b (n+1)).map V.str) (N / 8 % (A:Int))=some (.str (AX b (j:Int))):=by
     rw [ej]
     exact AF (by rw [List.getElem?_map,RH (by omega)];rfl)
    obtain ⟨v4,h4,m4⟩:=Bs SO4 4 rfl (by decide) (N / 512)
    obtain ⟨so3,rfl,i3,j3⟩:=Nr m4
    obtain ⟨sj,fj1,fj2,fj3⟩:=feed j (by omega)
    generalize AX b (j:Int)=fj at aj fj2
    refine ⟨⟨by decide,by decide⟩,(show (0:Int)<(A:Int) by omega),_,_,SqL.of es12,aj,⟨by decide,by decide⟩,(by decide:(0:Int)<4),_,_,SqL.of eo12,h4,le1 rfl,fun pA hpA=>?_⟩
    refine An (o:=.tup [.str "gap", .str (AX b 7),.str fj,.str so3,.int G]) hpA fun G1 g1 f1=>?_
    refine ⟨_,rfl,lp,_,rfl,SqL.of (g1 _ _ el12),fun c1 hc1=>?_⟩
    rw [Vc pg A (by omega)]
    refine An (o:=.lst (pg.take A)) hc1 fun G2 g2 f2=>?_
    refine ⟨le1 rfl,fun c2' hc2=>?_⟩
    refine An (o:=.lst [.ref pA]) hc2 fun G3 g3 f3=>?_
    refine ⟨c1,c2',_,_,rfl,rfl,g3 _ _ f2,f3,by rw [List.length_take];simp;omega,fun c4 hc4=>?_⟩
    have g4:=AK.Ay (o:=.lst (pg.take A++[.ref pA])) hc4
    have f4:(upd G3 c4 (.lst (pg.take A++[.ref pA]))) c4=some (.lst (pg.take A++[.ref pA])):=AE
    generalize upd G3 c4 (.lst (pg.take A++[.ref pA]))=G4 at g4 f4 ⊢
    have g14:=g1.trans (g2.trans (g3.trans g4))
    refine ⟨_,rfl,lp,_,rfl,SqL.of (g14 _ _ el12),fun c5 hc5=>?_⟩
    rw [Jt pg A (by omega)]
    refine An (o:=.lst (pg.drop A)) hc5 fun G5 g5 f5=>?_
    refine ⟨c4,c5,_,_,rfl,rfl,g5 _ _ f4,f5,by rw [List.length_append,List.length_take,List.length_drop];simp;omega,fun c6 hc6=>?_⟩
    have g6:=AK.Ay (o:=.lst (pg.take A++[.ref pA]++pg.drop A)) hc6
    have f6:(upd G5 c6 (.lst (pg.take A++[.ref pA]++pg.drop A))) c6=some (.lst (pg.take A++[.ref pA]++pg.drop A)):=AE
    have g15:=g14.trans g5
    have gA:=g15.trans g6
    have f1':=(g2.trans (g3.trans (g4.trans (g5.trans g6)))) _ _ f1
    generalize upd G5 c6 (.lst (pg.take A++[.ref pA]++pg.drop A))=G6 at f6 gA f1' ⊢
    have prc:=(pr2.keep gA.tp).cut A
    have hA:A≤sg.length:=by omega
    have lsg:(sg.take A++[Stp.gap (AX b 7) fj so3 G]++sg.drop A).length=n+4:=by
     rw [List.length_append,List.length_append,List.length_take,List.length_drop]
     simp
     omega
    refine ⟨c6,_,sg.take A++[Stp.gap (AX b 7) fj so3 G]++sg.drop A,_,rfl,sm2.trans gA,(sm2.trans g15).free hc6,⟨f6,AW (AW prc.1 (.cons ⟨pA,rfl,f1'⟩ .nil)) prc.2,gp.Ww hA (fun hm=>?_) rfl (fun x hx=>?_) ⟨i3,mB⟩ (FN _ _).ok,by omega,by omega,fun i s ei tl=>?_,fun s hs t ht=>?_,fun s hs=>?_⟩,by omega⟩
    ·obtain ⟨s',hs',en⟩:=List.mem_map.mp hm
     exact nw7 s' hs' en
    ·rw [List.mem_singleton.mp hx]
     exact ⟨j,sj,hj,fj1,fj2,fj3⟩
    ·rw [IV hA] at ei
     split at ei
     ·exact Nat.le_succ_of_le (a4 i s ei tl)
     ·split at ei
      ·cases ei;cases tl
      ·have:=a4 (i-1) s ei tl
       omega
    ·rcases List.mem_append.mp hs with hs|hs
     ·rcases List.mem_append.mp hs with hs|hs
      ·exact od2 s (List.mem_of_mem_take hs) t ht
      ·rw [List.mem_singleton.mp hs] at ht
       rw [List.mem_singleton.mp ht]
       exact j3
     ·exact od2 s (List.mem_of_mem_drop hs) t ht
    ·rcases List.mem_append.mp hs with hs|hs
     ·rcases List.mem_append.mp hs with hs|hs
      ·exact nl2 s (List.mem_of_mem_take hs)
      ·rw [List.mem_singleton.mp hs]
       exact Kv _ _
     ·exact nl2 s (List.mem_of_mem_drop hs)
   ·rintro σ' H13 ⟨l,ps',ss',o17,rfl,s13,hl0,P13,two⟩
    refine z26 _ _ ?_
    clear z26
    refine ⟨⟨by decide,by decide⟩,(by decide:(0:Int)<4),rfl,_,rfl,Gq (fun _=>?_) fun _=>(k l H13 ps' ss' s13 hl0 P13)⟩
    refine ⟨_,rfl,l,_,rfl,SqL.of P13.el,fun c1 hc1=>?_⟩
    rw [Si]
    exact (k c1 _ _ _ (s13.upd hc1) (s13.free hc1) ((P13.next (AK.Ay hc1)).drop two AE))
theorem VG (T:Tx K mg ad):BM P w K mg base CX0 depth ad.J5 ad.Js ["_law_script"] (Lc K):=by
 have G_ucell_at:=BA.weak (BA.mk (Rw (P:=P) (w:=w) (base:=base) T) T.GF T.Bi.kp T.GJ) Il
 have G_uplan:=BA.mk (Th (P:=P) (w:=w) (base:=base) T) T.Ts T.Ez.kp T.UA
 have G_uevents:=BA.mk (P4 (P:=P) (w:=w) (base:=base) T) T.QC T.DF.kp T.Qh
 have G_ureason:=BA.mk (N6 (P:=P) (w:=w) (base:=base) T) T.QB T.DE.kp T.Qg
 have G_uright:=BA.mk (Ru (P:=P) (w:=w) (base:=base) T) T.SD T.Dz.kp T.Sm
 have G_told_once:=BA.mk (L0 (P:=P) (w:=w) (base:=base) T) T.NA T.B7.kp T.NY
 have G_told_why:=BA.mk (Mw (P:=P) (w:=w) (base:=base) T) T.OA T.CV.kp T.OR
 have G_why:=BA.mk (VF (P:=P) (w:=w) (base:=base) T) T.WE T.J7.kp T.WO
 refine T.J8.ok RL (fun vs H Q E h=>?_) (fun cdv A outer s H vs Q E hr h=>?_)
 ·obtain ⟨a,ns,rfl,_⟩:=h
  rfl
 ·obtain ⟨a,ns,rfl,eS,hl,k⟩:=h
  have nd:=RL.nd
  refine ⟨_,(AJ (psl 1 nd (AG Az AB (AG AZ (AG Af (AI G_ucell_at hr (AA (pvC 0) (AA AB AD))) AB) AB)))
    (AJ (HQ (A0 (AR BE (AG AZ (AG Af (AI G_ucell_at hr (AA (pvC 0) (AA AB AD))) AB) AB) AB (Ab _))
    (AH (psl 1 nd (AG Az AB (AG AZ (AG Af (AI G_ucell_at hr (AA (pvC 0) (AA AB AD))) AB) AB))))
    Al))
    (AJ (psl 2 nd (BX K (Ao (AA AB (AA AB (AA AB AD)))) (AG AZ (AG Af (AI G_ucell_at hr (AA (pvC 0) (AA AB AD))) AB) AB)))
    (AJ (psl 3 nd (AI G_uplan hr (AA (pvC 0) (AA (pvC 1) (AA (pvC 2) AD)))))
    (AJ (psl 4 nd (AI G_uevents hr (AA (pvC 0) (AA (pvC 3) (AA (pvC 1) (AA (pvC 2) AD))))))
    (AJ (psl 5 nd (Ao (AA (Bm (EI (K:=K)) (by rfl) T.Cv PyProof.Rows.boot_list (AA (pvC 3) AD)) (AA (Bm (EI (K:=K)) (by rfl) T.Cv PyProof.Rows.boot_list (AA (pvC 4) AD)) AD))))
    (AJ (IP (i:=6) (osc:=AL Ko) [("_law_plan_here", 3),("_law_events_here", 4)] nd rfl (Or.inl rfl) rfl (AY (K:=K) (AI G_told_once hr (AA (pvC 3) (AA (pvC 4) AD)))) rfl rfl (by decide +kernel) (by decide +kernel) (by decide +kernel) ⟨rfl,rfl,rfl,rfl,trivial⟩ rfl (by decide +kernel) (fun _ _ _ _=>Bc) (fun _ _ _ _=>(Am (AA (pvC 0) (AA (AI G_ureason hr (AA (pvC 1) (AA (pvC 0) (AA (pvC 2) AD)))) AD)))))
    (AJ (psl 7 nd (AI G_told_why hr (AA (BX K (pvC 5) AB) (AA (BX K (pvC 5) AB) AD))))
    (AJ (A0 (JK (FH (AI G_uright hr (AA (pvC 7) (AA (pvC 6) AD)))))
    (AH (AQ FJ))
    Al)
    (AJ (A0 (AR (JU (K:=K) hr.Ih) (pcm (AL Ko) [] trivial (AY (K:=K) (pvC 6)) (fun _ _ _ _=>Dd (AR (Rp (K:=K) hr.Ih) (Aj K (pvC 0) AB) (Ao AD) (Ab _))) (fun _ _ _ _=>(pvC 0))) (Ao AD) (Ab _))
    (AH (AQ FJ))
    Al)
    (AJ (BQ PassesOwn.never rfl (AY (K:=K) (Aq (Ci (K:=K)) (Aq (Ci (K:=K)) (pvC 6) (Au (AG AZ (AI G_ucell_at hr (AA (pvC 0) (AA AB AD))) (AU (En rfl) (by rfl) T.Fp PyProof.Rows.boot_max (AA AB (AA (AU (BF (K:=K)) (by rfl) T.CO PySem.boot_len (AA (pvC 6) AD)) AD))))) A6) A6 (Au AB))) (F8 rfl (A3 (pgn 8 nd) (A3 (pgn 9 nd) Eg)))
    (AJ (psl 10 nd (AI G_why hr (AA (BX K (pvC 5) AB) (AA (BX K (pvC 5) AB) (AA (pvC 8) AD)))))
    (AJ (A0 (PW.pt (Kq (JK (FH (AU (DS (K:=K)) (by rfl) T.BC PyProof.Rows.boot_isinstance (AA (pvC 10) (AA (Ge (v:=.ty "list") (by rfl) T.Cv PyProof.Rows.boot_list rfl) AD))))) (JJ (AR (Ny (K:=K) hr.units) (pv 10) (pv 9) (Ab _)))))
    (AH (AQ FJ))
    Al)
    (AJ (Br (pap K (pvC 10) (AA AB AD)))
    (AJ (psl 11 nd (Ao (AA (HR (AG (Co) (Aq (CQ (K:=K)) (pvC 8) A6 (Au AB)) (Am (AA (AG Az (Aj K (pvC 8) AB) AB) AD)))) (AA (HR (AG (Co) (AG (Co) (Aq (CQ (K:=K)) (pvC 8) A6 (Au AB)) (Am (AA (AG Cn (Aj K (pvC 8) AB) AB) AD))) (Aq (CQ (K:=K)) (pvC 8) (Au AB) A6))) (AA (HR (AG (Co) (AG (Co) (Aq (CQ (K:=K)) (pvC 8) A6 (Au AB)) (Am (AA Ak AD))) (Aq (CQ (K:=K)) (pvC 8) (Au AB) A6))) AD)))))
    (AJ (psl 11 nd (AG FL (pvC 11) (Ao (AA (HR (AG (Co) (AG (Co) (Aq (CQ (K:=K)) (pvC 8) A6 (Au AB)) (Am (AA (AG Az (Aj K (pvC 8) AB) AB) AD))) (Aq (CQ (K:=K)) (pvC 8) (Au AB) A6))) (AA (HR (AG (Co) (Am (AA (AG F9 (Aj K (pvC 8) AB) Ak) AD)) (Aq (CQ (K:=K)) (pvC 8) (Au AB) A6))) (AA (HR (AG (Co) (Am (AA (Aj K (BX K (pvC 3) (Ks LW AB)) AB) AD)) (Aq (CQ (K:=K)) (pvC 8) (Au AB) A6))) AD))))))
    (AJ (psl 12 nd (BX K (pvC 11) (AG AZ (AG Af (AI G_ucell_at hr (AA (pvC 0) (AA AB AD))) AB) AB)))
    (AH (Bw (A0 (PW.pt (Ln (AR (Pw (K:=K) (DC.UY hr)) (pvC 12) (pcm (AL Ko) [] trivial (AY (K:=K) (pvC 6)) (fun _ _ _ _=>Bc) (fun _ _ _ _=>(Aj K (pvC 0) AB))) (by with_unfolding_all rfl)) (IM (AR (JU (K:=K) hr.Ih) (AI G_why hr (AA (BX K (pvC 5) AB) (AA (BX K (pvC 5) AB) (AA (pvC 12) AD)))) (Ao AD) (Ab _)))))
    (AH (AQ FJ))
    Al))))))))))
    (AJ (BQ PassesOwn.never rfl (Fc (by rfl) T.DK (AA (AU (BF (K:=K)) (by rfl) T.CO PySem.boot_len (AA (pvC 7) AD)) AD)) (pgn 13 nd)
    (AJ (Br (Oi (K:=K) F.plainAttrs_list F.slot_list_clear F.type_list_clear M3 (Aj K (BX K (pvC 7) (pvC 13)) AB)))
    (AH (Bw (A0 (AR (Ny (K:=K) hr.units) (Aq (Ci (K:=K)) (pvC 7) (Au (AG Az (pvC 13) AB)) A6) (Aq (Ci (K:=K)) (pvC 6) (Au (AG Az (pvC 13) AB)) A6) (Ab _))
    (AH (AQ FJ))
    Al)))))
    (AJ (Br (Oi (K:=K) F.plainAttrs_list F.slot_list_clear F.type_list_clear M3 (pvC 7)))
    (AH (AQ (U7 (AI G_uright hr (AA (AI G_told_why hr (AA (BX K (pvC 5) AB) (AA (BX K (pvC 5) AB) AD))) (AA (pvC 6) AD))) (U5 (Gd (Rq (K:=K) hr.units) (pvC 5) (Ao (AA (pvC 3) (AA (pvC 4) AD))) (Ab _))))))))))))))))))),?_⟩
  have sz:sizeLine=16777216:=sizeLine_eq
  refine fun _ _ _ _ z1=>⟨ns,eS,by decide,hl,fun c1=>⟨⟨by decide,by decide⟩,(by decide:(0:Int)<8),z1 [some (.ref a),some (.int (1+c1 / 10 % 8)),none,none,none,none,none,none,none,none,none,none,none,none] _ ?_⟩⟩
  obtain ⟨many0,em,m0⟩:∃many:Nat,1+c1 / 10 % 8=(many:Int)/\many≤20:=by
   have h0:0≤c1 / 10 % 8:=Int.emod_nonneg _ (by decide)
   have h1:c1 / 10 % 8<8:=Int.emod_lt_of_pos _ (by decide)
   exact ⟨(1+c1 / 10 % 8).toNat,by omega,by omega⟩
  rw [em]
  refine fun _ _ _ _ z2=>LC (fun σ' H'=>∃many:Nat,σ'=[some (.ref a),some (.int (many:Int)),none,none,none,none,none,none,none,none,none,none,none,none]/\H'=H/\many≤20) ?_ ?_
  ·refine ⟨ns,eS,by decide,hl,fun c2=>⟨⟨by decide,by decide⟩,(by decide:(0:Int)<9),rfl,_,rfl,Gq (fun _=>?_) fun _=>⟨many0,rfl,rfl,m0⟩⟩⟩
   refine ⟨ns,eS,by decide,hl,fun c3=>⟨⟨by decide,by decide⟩,(by decide:(0:Int)<9),?_⟩⟩
   have h0:0≤c3 / 2160 % 9:=Int.emod_nonneg _ (by decide)
   have h1:c3 / 2160 % 9<9:=Int.emod_lt_of_pos _ (by decide)
   exact ⟨(12+c3 / 2160 % 9).toNat,congrArg (fun v:Int=>([some (.ref a),some (.int v),none,none,none,none,none,none,none,none,none,none,none,none]:L2.St)) (Int.toNat_of_nonneg (by omega)).symm,rfl,by omega⟩
  rintro σ0 H0 ⟨many,rfl,rfl,m20⟩
  refine z2 _ _ ?_
  clear z1 z2 em m0
  refine fun _ _ _ _ z4=>⟨le1 rfl,fun l0 hl0=>?_⟩
  refine An (o:=.lst [V.int 1,V.int 1,V.int 30000000]) hl0 fun H1 s0 e0=>?_
  refine ⟨ns,s0.seq eS,by decide,hl,fun c2=>?_⟩
  obtain ⟨v,hv,mv⟩:=Bs [V.int 1,V.int 1,V.int 30000000] 3 rfl (by decide) (c2 / 80)
  obtain ⟨tk,rfl,t0,t1⟩:∃tk:Int,v=.int tk/\1≤tk/\tk≤30000000:=by
   simp only [List.mem_cons,List.not_mem_nil,or_false] at mv
   rcases mv with rfl|rfl|rfl <;> exact ⟨_,rfl,by decide,by decide⟩
  refine ⟨⟨by decide,by decide⟩,(by decide:(0:Int)<3),_,_,SqL.of e0,hv,z4 _ _ ?_⟩
  refine fun _ _ _ _ z5=>⟨a,ns,many,tk,rfl,s0.seq eS,hl,m20,t0,t1,fun lp H2 ps ss s2 hlp pg=>z5 _ _ ?_⟩
  have S2:=s0.trans s2
  have lss:ss.length≤8:=pg.len
  refine fun _ _ _ _ z6=>⟨a,lp,ns,many,tk,ps,ss,rfl,S2.seq eS,hl,m20,t0,t1,pg.el,pg.pr,by omega,pg.odd,fun le H3 xe evs s3 hle ele hwe lev gev=>z6 _ _ ?_⟩
  have S3:=S2.trans s3
  have tmE:∀e∈evs,0≤e.1/\e.1≤2000000000:=fun e he=>(gev e he).1
  have kyE:∀e∈evs,PyData.strOk e.2.2.1=true:=fun e he=>(gev e he).2.2
  obtain ⟨L,okL⟩:=pg.gp.pr (by omega) m20 (evs:=evs) (by omega) tmE
  have nmO:=pg.gp.nm
  have elp3:=s3 _ _ pg.el
  have pr3:=pg.pr.keep s3.tp
  clear z4 z5 z6
  refine fun _ _ _ _ z7=>⟨lp,_,rfl,.inl (SqL.of elp3),fun lp2 hlp2=>?_⟩
  refine An (o:=.lst ps) hlp2 fun H4 s4 elp4=>?_
  refine ⟨le,_,rfl,.inl (SqL.of (s4 _ _ ele)),fun le2 hle2=>?_⟩
  refine An (o:=.lst xe) hle2 fun H5 s5 ele5=>?_
  refine ⟨le1 rfl,fun lh hlh=>z7 _ _ ?_⟩
  refine An (o:=.lst [.ref lp2,.ref le2]) hlh fun H6 s6 elh6=>?_
  have s36:=s4.trans (s5.trans s6)
  have elp6:=s36 _ _ elp3
  have pr6:=pr3.keep s36.tp
  have ev6:IJ H6 le evs:=⟨xe,s36 _ _ ele,hwe.keep s36.tp⟩
  refine fun _ _ _ _ z8=>⟨lp,le,ps,ss,evs,L,rfl,elp6,pr6,ev6,okL,fun H7 lo yo qd s7 hlo elo hwo tid sod lqd=>⟨lo,rfl,⟨_,SqL.of elo⟩,?_⟩⟩
  have lyo:yo.length=qd.length:=by rw [hwo.len,List.length_map]
  have s37:=s36.trans s7
  refine A5 (K:=K) (xs:=yo) (fun j τ acc H'=>(∃o,τ=[o,some (.ref lp),some (.ref le)])/\AK H7 H'/\Paired (WhA ss H7 H') acc (qd.take j)) (by omega) ⟨⟨none,rfl⟩,AK.refl _,.nil⟩ (fun j τ acc H' ⟨_,s',_⟩=>SqL.of (s' _ _ elo)) ?_ ?_
  ·rintro j y τ acc H8 R1 hy _ ⟨⟨o,rfl⟩,s8,hw⟩ k1
   have hj:=(List.getElem?_eq_some_iff.mp hy).1
   have eq:=List.getElem?_eq_getElem (show j<qd.length by omega)
   obtain ⟨ra,rfl,era⟩:=(AN hwo).2 j y _ hy (by rw [List.getElem?_map,eq];rfl)
   have s38:=s37.trans s8
   refine ⟨lp,ra,le,ps,ss,evs,L,qd[j],rfl,s38 _ _ elp3,pr3.keep s38.tp,⟨xe,s38 _ _ ele,hwe.keep s38.tp⟩,okL,s8 _ _ era,(tid.is _ (List.mem_of_getElem? eq)).1,pg.at5,fun r H9 s9 hr9 er9=>⟨le1 rfl,fun b hb=>k1 _ _ _ ⟨⟨_,rfl⟩,s8.trans (s9.upd hb),?_⟩⟩⟩
   rw [List.take_add_one,eq]
   have s10:=AK.Ay (o:=.tup [.ref ra,.ref r]) hb
   exact AW (AV (fun x q h=>h.same (s9.trans s10)) hw) (.cons ⟨b,ra,r,rfl,AE,(s9.trans s10) _ _ (s8 _ _ era),s8.free hr9,s10 _ _ er9⟩ .nil)
  rintro τ yd H8 _ ⟨_,s8,pd⟩ ld hld
  rw [lyo,List.take_of_length_le (Nat.le_refl _)] at pd
  refine z8 _ _ ?_
  refine An (o:=.lst yd) hld fun Hd s9 eld=>?_
  have s6d:=s7.trans (s8.trans s9)
  have s3d:=s36.trans s6d
  have Sd:=S3.trans s3d
  have elh:=s6d _ _ elh6
  have elp2:=(s5.trans (s6.trans s6d)) _ _ elp4
  have ele2:=(s6.trans s6d) _ _ ele5
  have elpd:=s3d _ _ elp3
  have eled:=s3d _ _ ele
  have prd:=pr3.keep s3d.tp
  have hwd:=hwe.keep s3d.tp
  have pdd:Paired (WhA ss H7 Hd) yd qd:=AV (fun x q h=>h.same s9) pd
  have lyd:yd.length=qd.length:=(AN pdd).1
  have rokd:∀q∈qd,Ek (Ck ss q)=true:=fun q hq=>RN okL kyE nmO tid hq
  clear z7 z8 pd s9 hld s8 s6d s3d elh6 ele5 elp4 hlo elo hwo s37 ev6 pr6 elp6 s36 s4 s5 s6 hlh hle2 hlp2 pr3 elp3 s7
  refine fun _ _ _ _ z9=>⟨_,_,SqL.of elh,AF (j:=0) rfl,_,_,SqL.of elh,AF (j:=1) rfl,lp2,le2,ps,ss,evs,L,rfl,elp2,prd,⟨xe,ele2,hwd⟩,okL,fun H10 lf yf qf las s10 hlf elf pf plas ndl tif sof lqf=>z9 _ _ ?_⟩
  have pf2:=LU pf (Qz tif tid sof sod)
  have lyf:yf.length=qd.length:=(AN pf2).1
  clear pf tif sof lqf qf
  refine fun _ _ _ _ z10=>⟨lf,ld,Hd,H7,ss,yf,yd,qd,rfl,elf,s10 _ _ eld,pf2,AV (fun x q h=>h.same s10) pdd,rokd,lqd,fun H11 s11=>⟨_,rfl,ES (z10 _ _ ?_)⟩⟩
  have sd11:=s10.trans s11
  refine fun _ _ _ _ z12=>⟨ld,rfl,⟨_,SqL.of (sd11 _ _ eld)⟩,?_⟩
  refine C1 (K:=K) (xs:=yd) (fun j τ acc H'=>(∃o,τ=[o])/\AK H11 H'/\acc=[]) (by omega) ⟨⟨none,rfl⟩,AK.refl _,rfl⟩ (fun j τ acc H' ⟨_,s',_⟩=>SqL.of (s' _ _ (sd11 _ _ eld))) ?_ ?_
  ·rintro j y τ acc H12 R1 R0 hy _ ⟨⟨o,rfl⟩,s12,rfl⟩ k1 k0
   obtain ⟨q,eq,wh⟩:=WhA.ix pdd hy
   obtain ⟨b,ra,la,rfl,eb,era,_,ela⟩:=wh.same (sd11.trans s12)
   have rne:=Ux okL tid (List.mem_of_getElem? eq)
   refine ⟨_,_,SqT.of eb,AF (j:=1) rfl,Nat.zero_le _,fun n1 hn1=>?_⟩
   have s13:=AK.Ay (o:=.lst []) hn1
   exact ⟨la,n1,_,rfl,rfl,SqL.of (s13 _ _ ela),SqL.of AE,_,rfl,SR (by cases h:Dc q.2 with|nil=>exact absurd h rne|cons x r=>rfl) (k0 _ _ ⟨⟨_,rfl⟩,s12.trans s13,rfl⟩)⟩
  rintro τ acc H12 _ ⟨_,s12,rfl⟩ D hD
  refine An (o:=.lst []) hD fun H13 s13 eD=>?_
  refine ⟨Nat.zero_le _,fun n1 hn1=>?_⟩
  have s14:=AK.Ay (o:=.lst []) hn1
  refine ⟨D,n1,[],rfl,rfl,SqL.of (s14 _ _ eD),SqL.of AE,_,rfl,ES (z12 _ _ ?_)⟩
  have s11':=s11.trans (s12.trans (s13.trans s14))
  generalize upd H13 n1 (.lst [])=H14 at s11' ⊢
  have sd14:=s10.trans s11'
  clear z9 z10 z12 s12 s13 s14 eD hn1 hD s11 sd11
  refine fun _ _ _ _ z14=>⟨ns,(Sd.trans sd14).seq eS,by decide,hl,fun c7=>⟨_,.inl (SqL.of (sd14 _ _ eld)),(show (0:Int)<(if ((yd.length:Nat):Int) > 1 then ((yd.length:Nat):Int) else 1) by split <;> omega),_,rfl,ld,_,rfl,SqL.of (sd14 _ _ eld),fun d1 hd1=>?_⟩⟩
  generalize c7 % (if ((yd.length:Nat):Int) > 1 then ((yd.length:Nat):Int) else 1)=cs
  refine An (o:=.lst (CK yd (some cs) none)) hd1 fun H15 s15 e15=>?_
  refine ⟨_,rfl,d1,_,rfl,SqL.of e15,fun d2 hd2=>?_⟩
  refine An (o:=.lst (CK (CK yd (some cs) none) none (some 1))) hd2 fun H16 s16 e16=>?_
  have mz:∀y∈CK (CK yd (some cs) none) none (some 1),y∈yd:=fun y hy=>M8 (M8 hy)
  generalize CK (CK yd (some cs) none) none (some 1)=zs at e16 mz
  have s11'':=s11'.trans (s15.trans s16)
  have sd16:=s10.trans s11''
  clear s15 s16 e15 hd1 hd2 sd14 s11'
  refine ⟨d2,rfl,⟨_,SqL.of e16⟩,BO (K:=K) (xs:=zs) (fun n σ H'=>(∃(o8 o9 o10 o11 o12:Option V),σ=[some (.ref a),some (.int (many:Int)),some (.int tk),some (.ref lp),some (.ref le),some (.ref lh),some (.ref ld),some (.ref lf),o8,o9,o10,o11,o12,none])/\AK H16 H') ⟨⟨none,none,none,none,none,rfl⟩,AK.refl _⟩ (fun n σ H' _ ⟨_,s'⟩=>SqL.of (s' _ _ e16)) ?_ ?_⟩
  ·rintro n y σ G hy ⟨⟨o8,o9,o10,o11,o12,rfl⟩,s17⟩
   obtain ⟨i,ei⟩:=List.mem_iff_getElem?.mp (mz y (List.mem_of_getElem? hy))
   obtain ⟨q,eq,wh⟩:=WhA.ix pdd ei
   have sdG:=sd16.trans s17
   obtain ⟨b,ra,la,rfl,eb,era,_,ela⟩:=wh.same sdG
   have hq:=List.mem_of_getElem? eq
   have rok:=rokd q hq
   have isq:=(tid.is q hq).1
   obtain ⟨sq,fq,esq,_⟩:=id isq
   have nln:(nmF ss q.1.2.1).length≤5:=by
    unfold nmF
    rw [esq]
    exact pg.nl _ (List.mem_of_getElem? esq)
   refine ⟨b,_,rfl,SqT.of eb,rfl,_,_,rfl,_,_,rfl,rfl,?_⟩
   refine fun _ _ _ _ z15=>⟨_,_,SqL.of (sdG _ _ elh),AF (j:=0) rfl,_,_,SqL.of (sdG _ _ elh),AF (j:=1) rfl,lp2,le2,ra,ps,ss,evs,L,Ck ss q,rfl,sdG _ _ elp2,prd.keep sdG.tp,⟨xe,sdG _ _ ele2,hwd.keep sdG.tp⟩,okL,era,rok,kyE,nmO,fun G1 lt qs9 rs g1 hlt elt ti9 alt=>z15 _ _ ?_⟩
   have ers:rs=Dc q.2:=by
    rcases alt with ⟨q',hq',er,en⟩|⟨no,_⟩
    ·rw [en]
     exact Ua okL.ok (ti9.is q' hq').1 isq er
    ·obtain ⟨q',hq',er⟩:=Q0 tid ti9 hq
     exact absurd er (no q' hq')
   subst ers
   refine fun _ _ _ _ z16=>⟨_, "list", _,true,rfl,.lst elt,rfl,_,rfl,ES ⟨_,rfl,_,rfl,Je (.lst (SqL.of elt) (Gv _)) (.lst (SqL.of (g1 _ _ ela)) (Gv _)) (shaped_ints _) ⟨_,rfl,ES (z16 _ _ ?_)⟩⟩⟩
   have lr:=Ml q.2
   refine fun _ _ _ _ z18=>⟨.inl ⟨rfl,_,SqL.of elt⟩,lt,_,_,rfl,rfl,elt,by rw [List.length_map];omega,z18 _ _ ?_⟩
   have g2:AK G (upd G1 lt (.lst ((Dc q.2).map V.int++[.int 0]))):=g1.F0 hlt
   generalize upd G1 lt (.lst ((Dc q.2).map V.int++[.int 0]))=G2 at g2 ⊢
   clear z15 z16 z18 g1 elt alt ti9
   have eraG:=g2 _ _ era
   obtain ⟨n,z,tb,te,tv,erow⟩:∃n z tb te tv,Ck ss q=[.inr n,.inr z,.inl tb,.inl te,.inl tv]/\n.length≤5:=⟨_,_,_,_,_,rfl,nln⟩
   obtain ⟨erow,nln⟩:=erow
   rw [erow] at eraG rok
   have eraG:G2 ra=some (.tup [.str n,.str z,.int tb,.int te,.int tv]):=eraG
   obtain ⟨okn,okz⟩:=Pk rok
   refine fun _ _ _ _ z19=>?_
   refine fun _ yk=>?_
   refine ⟨_,rfl,ra,_,rfl,SqT.of eraG,(fun h=>absurd h.2 (show ¬ HT.sIx 5 5 (some 4)=5 by decide)),fun c1 hc1=>?_⟩
   rw [show CK [V.str n,V.str z,V.int tb,V.int te,V.int tv] none (some 4)=[V.str n,V.str z,V.int tb,V.int te] from rfl]
   refine An (o:=.tup [V.str n,V.str z,V.int tb,V.int te]) hc1 fun G3 g3 f3=>?_
   have eraG:=g3 _ _ eraG
   refine ⟨_,_,SqT.of eraG,AF (j:=4) rfl,le1 rfl,fun c2 hc2=>?_⟩
   refine An (o:=.tup [V.int (tv+1)]) hc2 fun G4 g4 f4=>?_
   have eraG:=g4 _ _ eraG
   refine ⟨c1,c2,_,_,rfl,rfl,(g4 _ _ f3),f4,by show 5≤sizeLine;omega,fun c3 G5 g5 f5=>yk _ _ ?_⟩
   have f5:G5 c3=some (.tup [V.str n,V.str z,V.int tb,V.int te,V.int (tv+1)]):=f5
   have eraG:=g5 _ _ eraG
   refine fun _ yk=>?_
   refine ⟨_,rfl,ra,_,rfl,SqT.of eraG,(fun h=>absurd h.2 (show ¬ HT.sIx 5 5 (some 2)=5 by decide)),fun c4 hc4=>?_⟩
   rw [show CK [V.str n,V.str z,V.int tb,V.int te,V.int tv] none (some 2)=[V.str n,V.str z] from rfl]
   refine An (o:=.tup [V.str n,V.str z]) hc4 fun G6 g6 f6=>?_
   have eraG:=g6 _ _ eraG
   refine ⟨_,_,SqT.of eraG,AF (j:=2) rfl,le1 rfl,fun c5 hc5=>?_⟩
   refine An (o:=.tup [V.int (tb-1)]) hc5 fun G7 g7 f7=>?_
   have eraG:=g7 _ _ eraG
   refine ⟨c4,c5,_,_,rfl,rfl,(g7 _ _ f6),f7,by show 3≤sizeLine;omega,fun c6 G8 g8 f8=>?_⟩
   have f8:G8 c6=some (.tup [V.str n,V.str z,V.int (tb-1)]):=f8
   have eraG:=g8 _ _ eraG
   refine ⟨_,rfl,ra,_,rfl,SqT.of eraG,(fun h=>absurd h.1 (show ¬ HT.sIx 5 0 (some 3)=0 by decide)),fun c7 hc7=>?_⟩
   rw [show CK [V.str n,V.str z,V.int tb,V.int te,V.int tv] (some 3) none=[V.int te,V.int tv] from rfl]
   refine An (o:=.tup [V.int te,V.int tv]) hc7 fun G9 g9 f9=>?_
   have eraG:=g9 _ _ eraG
   refine ⟨c6,c7,_,_,rfl,rfl,(g9 _ _ f8),f9,by show 5≤sizeLine;omega,fun c8 G10 g10 f10=>yk _ _ ?_⟩
   have f10:G10 c8=some (.tup [V.str n,V.str z,V.int (tb-1),V.int te,V.int tv]):=f10
   have eraG:=g10 _ _ eraG
   refine fun _ yk=>?_
   refine ⟨_,rfl,ra,_,rfl,SqT.of eraG,(fun h=>absurd h.2 (show ¬ HT.sIx 5 5 (some 1)=5 by decide)),fun c9 hc9=>?_⟩
   rw [show CK [V.str n,V.str z,V.int tb,V.int te,V.int tv] none (some 1)=[V.str n] from rfl]
   refine An (o:=.tup [V.str n]) hc9 fun G11 g11 f11=>?_
   have eraG:=g11 _ _ eraG
   refine ⟨le1 rfl,fun c10 hc10=>?_⟩
   refine An (o:=.tup [V.str "none"]) hc10 fun G12 g12 f12=>?_
   have eraG:=g12 _ _ eraG
   refine ⟨c9,c10,_,_,rfl,rfl,(g12 _ _ f11),f12,by show 2≤sizeLine;omega,fun c11 G13 g13 f13=>?_⟩
   have f13:G13 c11=some (.tup [V.str n,V.str "none"]):=f13
   have eraG:=g13 _ _ eraG
   refine ⟨_,rfl,ra,_,rfl,SqT.of eraG,(fun h=>absurd h.1 (show ¬ HT.sIx 5 0 (some 2)=0 by decide)),fun c12 hc12=>?_⟩
   rw [show CK [V.str n,V.str z,V.int tb,V.int te,V.int tv] (some 2) none=[V.int tb,V.int te,V.int tv] from rfl]
   refine An (o:=.tup [V.int tb,V.int te,V.int tv]) hc12 fun G14 g14 f14=>?_
   have eraG:=g14 _ _ eraG
   refine ⟨c11,c12,_,_,rfl,rfl,(g14 _ _ f13),f14,by show 5≤sizeLine;omega,fun c13 G15 g15 f15=>yk _ _ ?_⟩
   have f15:G15 c13=some (.tup [V.str n,V.str "none", V.int tb,V.int te,V.int tv]):=f15
   have eraG:=g15 _ _ eraG
   refine ⟨le1 rfl,fun ls hls=>z19 _ _ ?_⟩
   refine An (o:=.lst [V.ref c3,V.ref c8,V.ref c13]) hls fun G16 g16 f16=>?_
   have eraG:=g16 _ _ eraG
   refine fun _ _ _ _ z20=>?_
   refine fun _ yk=>?_
   refine ⟨_,rfl,ra,_,rfl,SqT.of eraG,(fun h=>absurd h.2 (show ¬ HT.sIx 5 5 (some 3)=5 by decide)),fun c14 hc14=>?_⟩
   rw [show CK [V.str n,V.str z,V.int tb,V.int te,V.int tv] none (some 3)=[V.str n,V.str z,V.int tb] from rfl]
   refine An (o:=.tup [V.str n,V.str z,V.int tb]) hc14 fun G17 g17 f17=>?_
   have eraG:=g17 _ _ eraG
   refine ⟨_,_,SqT.of eraG,AF (j:=3) rfl,le1 rfl,fun c15 hc15=>?_⟩
   refine An (o:=.tup [V.int (te+1)]) hc15 fun G18 g18 f18=>?_
   have eraG:=g18 _ _ eraG
   refine ⟨c14,c15,_,_,rfl,rfl,(g18 _ _ f17),f18,by show 4≤sizeLine;omega,fun c16 G19 g19 f19=>?_⟩
   have f19:G19 c16=some (.tup [V.str n,V.str z,V.int tb,V.int (te+1)]):=f19
   have eraG:=g19 _ _ eraG
   refine ⟨_,rfl,ra,_,rfl,SqT.of eraG,(fun h=>absurd h.1 (show ¬ HT.sIx 5 0 (some 4)=0 by decide)),fun c17 hc17=>?_⟩
   rw [show CK [V.str n,V.str z,V.int tb,V.int te,V.int tv] (some 4) none=[V.int tv] from rfl]
   refine An (o:=.tup [V.int tv]) hc17 fun G20 g20 f20=>?_
   have eraG:=g20 _ _ eraG
   refine ⟨c16,c17,_,_,rfl,rfl,(g20 _ _ f19),f20,by show 5≤sizeLine;omega,fun c18 G21 g21 f21=>yk _ _ ?_⟩
   have f21:G21 c18=some (.tup [V.str n,V.str z,V.int tb,V.int (te+1),V.int tv]):=f21
   have eraG:=g21 _ _ eraG
   refine fun _ yk=>?_
   refine ⟨_,_,SqT.of eraG,AF (j:=0) rfl,_,_,rfl,rfl,(show n.length+("x" : Str).length≤sizeLine by have:("x" : Str).length=1:=rfl;omega),le1 rfl,fun c19 hc19=>?_⟩
   have g22:=AK.Ay (o:=.tup [V.str (n ++ "x")]) hc19
   have f22:(upd G21 c19 (.tup [V.str (n ++ "x")])) c19=some (.tup [V.str (n ++ "x")]):=AE
   generalize upd G21 c19 (.tup [V.str (n ++ "x")])=G22 at g22 f22 ⊢
   have eraG:=g22 _ _ eraG
   refine ⟨_,rfl,ra,_,rfl,SqT.of eraG,(fun h=>absurd h.1 (show ¬ HT.sIx 5 0 (some 1)=0 by decide)),fun c20 hc20=>?_⟩
   rw [show CK [V.str n,V.str z,V.int tb,V.int te,V.int tv] (some 1) none=[V.str z,V.int tb,V.int te,V.int tv] from rfl]
   refine An (o:=.tup [V.str z,V.int tb,V.int te,V.int tv]) hc20 fun G23 g23 f23=>?_
   have eraG:=g23 _ _ eraG
   refine ⟨c19,c20,_,_,rfl,rfl,(g23 _ _ f22),f23,by show 5≤sizeLine;omega,fun c21 G24 g24 f24=>yk _ _ ?_⟩
   have f24:G24 c21=some (.tup [V.str (n ++ "x"),V.str z,V.int tb,V.int te,V.int tv]):=f24
   have eraG:=g24 _ _ eraG
   obtain ⟨pl',sl,pls,pll,esl⟩:∃(pl':Addr) (sl:Stp),sl∈ss/\atI ps (-1)=some (.ref pl')/\StA Hd pl' sl:=by
    have lps:=prd.len
    have p1:=pg.pos
    rcases List.eq_nil_or_concat ps with e|⟨ps',x,e⟩
    ·rw [e,List.length_nil] at lps;omega
    ·rw [List.concat_eq_append] at e
     obtain ⟨pa,sa,ex,ea,sta⟩:=prd.at (i:=ps'.length) (x:=x) (by rw [e];simp)
     exact ⟨pa,sa,List.mem_of_getElem? ea,by rw [e,ex];exact HB _ _,sta⟩
   have sd2:=sdG.trans g2
   have eslG:=(sd2.trans (g3.trans (g4.trans (g5.trans (g6.trans (g7.trans (g8.trans (g9.trans (g10.trans (g11.trans (g12.trans (g13.trans (g14.trans (g15.trans (g16.trans (g17.trans (g18.trans (g19.trans (g20.trans (g21.trans (g22.trans (g23.trans (g24))))))))))))))))))))))) _ _ esl
   have elpG:=(sd2.trans (g3.trans (g4.trans (g5.trans (g6.trans (g7.trans (g8.trans (g9.trans (g10.trans (g11.trans (g12.trans (g13.trans (g14.trans (g15.trans (g16.trans (g17.trans (g18.trans (g19.trans (g20.trans (g21.trans (g22.trans (g23.trans (g24))))))))))))))))))))))) _ _ elpd
   have wsl:=(StA.word (K:=K) eslG).2.2
   refine fun _ yk=>?_
   refine ⟨_,_,SqL.of elpG,pll,_,_,SqT.of eslG,wsl,le1 rfl,fun c22 hc22=>?_⟩
   refine An (o:=.tup [V.str sl.nm]) hc22 fun G25 g25 f25=>?_
   have eraG:=g25 _ _ eraG
   refine ⟨_,rfl,ra,_,rfl,SqT.of eraG,(fun h=>absurd h.1 (show ¬ HT.sIx 5 0 (some 1)=0 by decide)),fun c23 hc23=>?_⟩
   rw [show CK [V.str n,V.str z,V.int tb,V.int te,V.int tv] (some 1) none=[V.str z,V.int tb,V.int te,V.int tv] from rfl]
   refine An (o:=.tup [V.str z,V.int tb,V.int te,V.int tv]) hc23 fun G26 g26 f26=>?_
   have eraG:=g26 _ _ eraG
   refine ⟨c22,c23,_,_,rfl,rfl,(g26 _ _ f25),f26,by show 5≤sizeLine;omega,fun c24 G27 g27 f27=>yk _ _ ?_⟩
   have f27:G27 c24=some (.tup [V.str sl.nm,V.str z,V.int tb,V.int te,V.int tv]):=f27
   have eraG:=g27 _ _ eraG
   refine ⟨le1 rfl,fun ls2 hls2=>?_⟩
   refine An (o:=.lst [V.ref c18,V.ref c21,V.ref c24]) hls2 fun G28 g28 f28=>?_
   have eraG:=g28 _ _ eraG
   refine ⟨ls,ls2,_,_,rfl,rfl,((g17.trans (g18.trans (g19.trans (g20.trans (g21.trans (g22.trans (g23.trans (g24.trans (g25.trans (g26.trans (g27.trans g28))))))))))) _ _ f16),f28,by show 6≤sizeLine;omega,fun ls3 hls3=>z20 _ _ ?_⟩
   rw [show [V.ref c3,V.ref c8,V.ref c13]++[V.ref c18,V.ref c21,V.ref c24]=[V.ref c3,V.ref c8,V.ref c13,V.ref c18,V.ref c21,V.ref c24] from rfl]
   refine An (o:=.lst [V.ref c3,V.ref c8,V.ref c13,V.ref c18,V.ref c21,V.ref c24]) hls3 fun G29 g29 f29=>?_
   have eraG:=g29 _ _ eraG
   have sC:AK G2 G29:=g3.trans (g4.trans (g5.trans (g6.trans (g7.trans (g8.trans (g9.trans (g10.trans (g11.trans (g12.trans (g13.trans (g14.trans (g15.trans (g16.trans (g17.trans (g18.trans (g19.trans (g20.trans (g21.trans (g22.trans (g23.trans (g24.trans (g25.trans (g26.trans (g27.trans (g28.trans (g29))))))))))))))))))))))))))
   have odds:∀x∈[V.ref c3,V.ref c8,V.ref c13,V.ref c18,V.ref c21,V.ref c24],∃(p:Addr) (ks:List Key),x=.ref p/\G29 p=some (.tup (ks.map kV))/\Ek ks=true:=by
    intro x hx
    simp only [List.mem_cons,List.not_mem_nil,or_false] at hx
    rcases hx with rfl|rfl|rfl|rfl|rfl|rfl
    ·exact ⟨_,[.inr n,.inr z,.inl tb,.inl te,.inl (tv+1)],rfl,((g6.trans (g7.trans (g8.trans (g9.trans (g10.trans (g11.trans (g12.trans (g13.trans (g14.trans (g15.trans (g16.trans (g17.trans (g18.trans (g19.trans (g20.trans (g21.trans (g22.trans (g23.trans (g24.trans (g25.trans (g26.trans (g27.trans (g28.trans g29))))))))))))))))))))))) _ _ f5),FZ _ _ _ okn okz⟩
    ·exact ⟨_,[.inr n,.inr z,.inl (tb-1),.inl te,.inl tv],rfl,((g11.trans (g12.trans (g13.trans (g14.trans (g15.trans (g16.trans (g17.trans (g18.trans (g19.trans (g20.trans (g21.trans (g22.trans (g23.trans (g24.trans (g25.trans (g26.trans (g27.trans (g28.trans g29)))))))))))))))))) _ _ f10),FZ _ _ _ okn okz⟩
    ·exact ⟨_,[.inr n,.inr "none", .inl tb,.inl te,.inl tv],rfl,((g16.trans (g17.trans (g18.trans (g19.trans (g20.trans (g21.trans (g22.trans (g23.trans (g24.trans (g25.trans (g26.trans (g27.trans (g28.trans g29))))))))))))) _ _ f15),FZ _ _ _ okn (by decide +kernel)⟩
    ·exact ⟨_,[.inr n,.inr z,.inl tb,.inl (te+1),.inl tv],rfl,((g22.trans (g23.trans (g24.trans (g25.trans (g26.trans (g27.trans (g28.trans g29))))))) _ _ f21),FZ _ _ _ okn okz⟩
    ·exact ⟨_,[.inr (n ++ "x"),.inr z,.inl tb,.inl te,.inl tv],rfl,((g25.trans (g26.trans (g27.trans (g28.trans g29)))) _ _ f24),FZ _ _ _ (PZ okn (by decide +kernel)) okz⟩
    ·exact ⟨_,[.inr sl.nm,.inr z,.inl tb,.inl te,.inl tv],rfl,((g28.trans g29) _ _ f27),FZ _ _ _ (nmO _ pls) okz⟩
   have els3:=f29
   have sGC:=g2.trans sC
   clear g29 f29 g28 f28 g27 f27 g26 f26 g25 f25 g24 f24 g23 f23 g22 f22 g21 f21 g20 f20 g19 f19 g18 f18 g17 f17 g16 f16 g15 f15 g14 f14 g13 f13 g12 f12 g11 f11 g10 f10 g9 f9 g8 f8 g7 f7 g6 f6 g5 f5 g4 f4 g3 f3 sC eslG elpG wsl eraG g2 sd2 z19 z20
   have sdC:=sdG.trans sGC
   have s16C:=s17.trans sGC
   refine fun _ _ _ _ z21=>⟨ns,(Sd.trans sdC).seq eS,by decide,hl,fun cell8=>?_⟩
   obtain ⟨vx,hvx,mvx⟩:=Bs [V.ref c3,V.ref c8,V.ref c13,V.ref c18,V.ref c21,V.ref c24] 6 rfl (by decide) (cell8 / 50)
   obtain ⟨po,ks,rfl,epo,okk⟩:=odds vx mvx
   refine ⟨⟨by decide,by decide⟩,(by decide:(0:Int)<6),_,_,SqL.of els3,hvx,z21 _ _ ?_⟩
   clear z21 odds mvx hvx els3
   have eldC:=sdC _ _ eld
   have pdC:Paired (WhA ss H7 G29) yd qd:=AV (fun x q h=>h.same sdC) pdd
   refine fun _ _ _ _ z22=>⟨ld,rfl,⟨_,SqL.of eldC⟩,?_⟩
   refine A5 (K:=K) (xs:=yd) (fun j τ acc H'=>(∃o,τ=[o])/\H'=G29/\Rws G29 acc ((qd.take j).map (Ck ss))) (by omega) ⟨⟨none,rfl⟩,rfl,D9 _⟩ (fun j τ acc H' ⟨_,e,_⟩=>by rw [e];exact SqL.of eldC) ?_ ?_
   ·rintro j y τ acc Gx R1 hy _ ⟨⟨o,rfl⟩,rfl,hw⟩ k1
    obtain ⟨q',eq',wh'⟩:=WhA.ix pdC hy
    obtain ⟨b',ra',la',rfl,eb',era',_,_⟩:=wh'
    refine ⟨_,_,SqT.of eb',AF (j:=0) rfl,k1 _ _ _ ⟨⟨_,rfl⟩,rfl,?_⟩⟩
    rw [List.take_add_one,eq',List.map_append]
    exact hw.snoc era'
   rintro τ rws Gx _ ⟨_,rfl,hw⟩ D2 hD2
   rw [lyd,List.take_of_length_le (Nat.le_refl _)] at hw
   refine An (o:=.lst rws) hD2 fun K1 h1 eD2=>?_
   have hw1:=hw.keep h1.tp
   have sdK:=sdC.trans h1
   refine ⟨D2,rws,(qd.map (Ck ss)).map ktD,ktD ks,rfl,SqL.of eD2,hw1.dvs,.tup (SqT.of (h1 _ _ epo)) (Dr _),fun d hd=>?_,D6 okk,_,rfl,?_⟩
   ·obtain ⟨js,hj,rfl⟩:=List.mem_map.mp hd
    obtain ⟨q',hq',rfl⟩:=List.mem_map.mp hj
    exact D6 (rokd q' hq')
   refine OF (fun hno=>?_) fun _=>ES (z22 _ _ ⟨⟨_,_,_,_,_,rfl⟩,s16C.trans h1⟩)
   have hno:ks∉qd.map (Ck ss):=fun hm=>by rw [(any_rows _ _).mpr hm] at hno;cases hno
   refine ⟨_,_,SqL.of (sdK _ _ elh),AF (j:=0) rfl,_,_,SqL.of (sdK _ _ elh),AF (j:=1) rfl,lp2,le2,po,ps,ss,evs,L,ks,rfl,sdK _ _ elp2,prd.keep sdK.tp,⟨xe,sdK _ _ ele2,hwd.keep sdK.tp⟩,okL,h1 _ _ epo,okk,kyE,nmO,fun K2 lt2 qs8 rs2 h2 hlt2 elt2 ti8 alt2=>?_⟩
   have ers2:rs2=[]:=by
    rcases alt2 with ⟨q',hq',er,_⟩|⟨_,en⟩
    ·obtain ⟨q2,hq2,er2⟩:=Q0 ti8 tid hq'
     exact absurd (List.mem_map.mpr ⟨q2,hq2,er2.trans er⟩) hno
    ·exact en
   subst ers2
   refine ⟨Nat.zero_le _,fun n2 hn2=>?_⟩
   have h3:=AK.Ay (o:=.lst []) hn2
   exact ⟨lt2,n2,[],rfl,rfl,SqL.of (h3 _ _ elt2),SqL.of AE,_,rfl,ES (z22 _ _ ⟨⟨_,_,_,_,_,rfl⟩,s16C.trans (h1.trans (h2.trans h3))⟩)⟩
  ·rintro σ G ⟨⟨o8,o9,o10,o11,o12,rfl⟩,s17⟩
   refine z14 _ _ ?_
   clear z14 mz e16
   have s10G:=s11''.trans s17
   have sdG:=sd16.trans s17
   clear s11'' sd16 s17
   have elfG:=s10G _ _ elf
   have pfG:Paired (WhA ss Hd G) yf qd:=AV (fun x q h=>h.same s10G) pf2
   have plG:Paired (LaP G) yf las:=AV (fun x q h=>h.same s10G) plas
   clear plas pf2 elf s10G
   refine fun _ _ _ _ z24=>⟨_,.inl (SqL.of elfG),_,rfl,by omega,by omega,Fh (lo:=0) (n:=((yf.length:Nat):Int).toNat) (fun i σ H'=>(∃o13:Option V,σ=[some (.ref a),some (.int (many:Int)),some (.int tk),some (.ref lp),some (.ref le),some (.ref lh),some (.ref ld),some (.ref lf),o8,o9,o10,o11,o12,o13])/\AK Hd H'/\H' lf=some (.lst yf)/\Paired (WhA ss Hd H') (yf.drop i) (qd.drop i)/\Paired (LaP H') yf las) ⟨⟨none,rfl⟩,sdG,elfG,pfG,plG⟩ ?_ ?_⟩
   ·rintro i σ K1 hi ⟨⟨o13,rfl⟩,sd1,elf1,pf1,pl1⟩
    have hi:i<yf.length:=by omega
    have ey:=List.getElem?_eq_getElem hi
    have eyd:(yf.drop i)[0]?=some yf[i]:=by rw [List.getElem?_drop];exact ey
    obtain ⟨q,eq,wh⟩:=WhA.ix pf1 eyd
    obtain ⟨b,ra,la,eb0,eb,era,hla,ela⟩:=wh
    have ax:atI yf (0+(i:Int))=some (.ref b):=by rw [Int.zero_add,←eb0];exact AF ey
    have ella:=(AN pl1).1
    have el2:=List.getElem?_eq_getElem (show i<las.length by omega)
    have lai:las[i]=la:=by
     obtain ⟨b2,ra2,e1,e2⟩:=(AN pl1).2 i _ _ ey el2
     rw [eb0] at e1
     cases e1
     rw [eb] at e2
     cases e2
     rfl
    have hidx:=List.getElem?_eq_getElem (show i<qd.length by omega)
    refine fun _ _ _ _ z25=>⟨_,_,SqL.of elf1,ax,_,_,SqT.of eb,AF (j:=1) rfl,.inl ⟨rfl,_,SqL.of ela⟩,la,_,rfl,rfl,ela,z25 _ _ ?_⟩
    have nlf:lf≠la:=fun q=>by
     rw [q,ela] at elf1
     have:=HO.lst.inj (Option.some.inj elf1)
     have h0:yf[i]?=some (.ref b):=by rw [ey,eb0]
     rw [←this,List.getElem?_map] at h0
     obtain ⟨m,_,hm⟩:=Option.map_eq_some_iff.mp h0
     cases hm
    have kt:Tp K1 (upd K1 la (.lst [])):=(Tp.refl K1).upd ela fun ys=>by intro q;cases q
    have sd2:AK Hd (upd K1 la (.lst [])):=sd1.F0 hla
    have elf2:(upd K1 la (.lst [])) lf=some (.lst yf):=by rw [AO nlf];exact elf1
    have pl2:Paired (LaP (upd K1 la (.lst []))) yf las:=AV (fun x l ⟨b2,ra2,e1,e2⟩=>⟨b2,ra2,e1,kt _ _ e2⟩) pl1
    have pf2:Paired (WhA ss Hd (upd K1 la (.lst []))) (yf.drop (i+1)) (qd.drop (i+1)):=by
     refine Ax (by rw [List.length_drop,List.length_drop];omega) fun j x q2 ej eq2=>?_
     rw [List.getElem?_drop] at ej eq2
     obtain ⟨b2,ra2,la2,e0,e1,e2,e3,e4⟩:=(AN pf1).2 (j+1) x q2 (by rw [List.getElem?_drop,show i+(j+1)=i+1+j by omega];exact ej) (by rw [List.getElem?_drop,show i+(j+1)=i+1+j by omega];exact eq2)
     have hj:=(List.getElem?_eq_some_iff.mp ej).1
     have el3:=List.getElem?_eq_getElem (show i+1+j<las.length by omega)
     have laj:las[i+1+j]=la2:=by
      obtain ⟨b3,ra3,f1,f2⟩:=(AN pl1).2 (i+1+j) _ _ ej el3
      rw [e0] at f1
      cases f1
      rw [e1] at f2
      cases f2
      rfl
     have ne:la2≠la:=fun q=>by
      rw [←laj,←lai] at q
      have:=(List.getElem_inj ndl).mp q
      omega
     exact ⟨b2,ra2,la2,e0,kt _ _ e1,kt _ _ e2,e3,by rw [AO ne];exact e4⟩
    generalize upd K1 la (.lst [])=K2 at sd2 elf2 pl2 pf2 ⊢
    have ci:(0+(i:Int))+1=((i+1:Nat):Int):=by omega
    refine fun _ _ _ _ z26=>⟨_,rfl,lf,_,rfl,SqL.of elf2,fun u1 hu1=>?_⟩
    rw [ci,Jt yf (i+1) (by omega)]
    refine An (o:=.lst (yf.drop (i+1))) hu1 fun K3 s3 e3=>?_
    refine ⟨_,rfl,ld,_,rfl,SqL.of (s3 _ _ (sd2 _ _ eld)),fun u2 hu2=>?_⟩
    rw [ci,Jt yd (i+1) (by omega)]
    refine An (o:=.lst (yd.drop (i+1))) hu2 fun K4 s4 e4=>?_
    have s34:=s3.trans s4
    have pfK:=AV (fun x q h=>WhA.same h s34) pf2
    have pdK:=DP (AV (fun x q h=>WhA.same h (sd2.trans s34)) pdd) (i+1)
    exact Je (.lst (SqL.of (s4 _ _ e3)) (OM pfK)) (.lst (SqL.of e4) (OM pdK)) (Nt fun q hq=>rokd q (List.mem_of_mem_drop hq)) ⟨_,rfl,ES (z26 _ _ ⟨⟨_,rfl⟩,sd2.trans s34,s34 _ _ elf2,pfK,AV (fun x q h=>h.same s34) pl2⟩)⟩
   ·rintro σ K1 ⟨⟨o13,rfl⟩,sd1,elf1,_,_⟩
    refine z24 _ _ ?_
    clear z24
    refine fun _ _ _ _ z28=>⟨.inl ⟨rfl,_,SqL.of elf1⟩,lf,_,rfl,rfl,elf1,z28 _ _ ?_⟩
    have sd2:AK Hd (upd K1 lf (.lst [])):=sd1.F0 hlf
    generalize upd K1 lf (.lst [])=K2 at sd2 ⊢
    refine ⟨_,_,SqL.of (sd2 _ _ elh),AF (j:=0) rfl,_,_,SqL.of (sd2 _ _ elh),AF (j:=1) rfl,lp2,le2,ps,ss,evs,L,rfl,sd2 _ _ elp2,prd.keep sd2.tp,⟨xe,sd2 _ _ ele2,hwd.keep sd2.tp⟩,okL,fun K3 l3 y3 q3 las3 s3 hl3 el3 p3 _ _ ti3 so3 _=>?_⟩
    refine ⟨l3,ld,K2,H7,ss,y3,yd,qd,rfl,el3,(sd2.trans s3) _ _ eld,LU p3 (Qz ti3 tid so3 sod),AV (fun x q h=>WhA.same h (sd2.trans s3)) pdd,rokd,lqd,fun K4 s4=>⟨_,rfl,VT ?_⟩⟩
    have sd4:=sd2.trans (s3.trans s4)
    refine ⟨le1 rfl,fun l4 hl4=>?_⟩
    have sd5:=sd4.trans (AK.Ay (o:=.lst [.ref lp,.ref le]) hl4)
    have e5:(upd K4 l4 (.lst [.ref lp,.ref le])) l4=some (.lst [.ref lp,.ref le]):=AE
    generalize upd K4 l4 (.lst [.ref lp,.ref le])=K5 at sd5 e5 ⊢
    have prw:Rws K5 ps (ss.map Stp.key):=RZ (prd.keep sd5.tp)
    have hw5:=hwd.keep sd5.tp
    have shp:=Ng pg.kok (VZ gev)
    refine ⟨_,_,.lst (SqL.of (sd5 _ _ elh)) (.cons (prw.dv (sd5 _ _ elp2)) (.cons (hw5.dv (sd5 _ _ ele2)) .nil)),.lst (SqL.of e5) (.cons (prw.dv (sd5 _ _ elpd)) (.cons (hw5.dv (sd5 _ _ eled)) .nil)),shp,shp,?_⟩
    rw [PySem.SeqAt.eqv_refl _ (SeqAt.canLay_of_shaped shp)]
    exact k _
theorem all_mk {l:W.OpenLaw}{w:World}{K:W.Frag}{mg:Str→Option Value}{fa:Addr}{ad:Ad}(hfa:mg "law" = some (.ref fa)) (T:Tx K mg ad)
  : ∃fd:FuncData,(∀(s:Shared) (v:Value),BindsTo s fd ⟨[v],[]⟩ [("_law_script", v)])/\∀base:Heap,K.In base→base.Ns mainGlobals mg→BM l.prog w K mg base CX0 depth fa fd ["_law_script"] (Lc K):=by
 have e:=hfa.symm.trans T.WG
 cases e
 obtain ⟨_,_,_,_,_,_,_,_,_,e,_,_⟩:=T.J8.ex
 exact ⟨ad.Js,fun s v=>by rw [e];exact .of_eq rfl,fun base _ _=>VG T⟩
end K36
namespace PySem.W.Fast
def tw7064598567415230533:Unit:=()
def tw4337016918836893971:Unit:=()
def tw15662895209149901889:Unit:=()
def tw11455091804507390624:Unit:=()
def tw8222962079884683962:Unit:=()
def tw8639637681947728155:Unit:=()
def tw13148526970683457168:Unit:=()
def tw13677880656894797520:Unit:=()
def tw10530942115428672455:Unit:=()
def tw13372397994398634175:Unit:=()
def tw8294108514186321065:Unit:=()
def tw10247812186543301619:Unit:=()
def tw1650394728816813986:Unit:=()
def tw11690552582940651063:Unit:=()
def tw5371156445519526326:Unit:=()
def tw7861798795667569017:Unit:=()
def tw8154238101463606475:Unit:=()
def tw9485122214477788532:Unit:=()
def tw11255222770771930864:Unit:=()
def tw4877047873061665007:Unit:=()
def tw17381420892850387605:Unit:=()
def tw6838411224275383190:Unit:=()
def tw15886262559478345238:Unit:=()
def tw3412474815055771251:Unit:=()
def tw5172863249529269754:Unit:=()
def tw3464154095502753537:Unit:=()
def tw4118325940071977206:Unit:=()
def tw13219894434433996043:Unit:=()
def tw15612889010538986244:Unit:=()
def tw11616665174224014826:Unit:=()
def tw11215774310239272506:Unit:=()
def tw923350032537917855:Unit:=()
def tw1956326074219633893:Unit:=()
def tw11937935314020830570:Unit:=()
def tw16911097885291842123:Unit:=()
def tw4478913674873388480:Unit:=()
def tw1978082075815001538:Unit:=()
def tw4825767240163788025:Unit:=()
def tw17112670170273579980:Unit:=()
def tw16670512577609957185:Unit:=()
def tw14772954705999214724:Unit:=()
def tw10060565514709376345:Unit:=()
def tw15280175377887337075:Unit:=()
def tw9864833998817191577:Unit:=()
def tw10526658501557474529:Unit:=()
def tw16608304963381718558:Unit:=()
def tw11445008594996710243:Unit:=()
def tw3117533031702930094:Unit:=()
def tw13254014019533858153:Unit:=()
def tw15066311991414584167:Unit:=()
def tw2176462916779760144:Unit:=()
def tw15648180049312610488:Unit:=()
def tw10477077716835283721:Unit:=()
def tw16105996549844881858:Unit:=()
def tw5726265119976021176:Unit:=()
def tw7683914095704277413:Unit:=()
def tw8494556571084623319:Unit:=()
def tw9488826077015804065:Unit:=()
def tw3948859821637206083:Unit:=()
def tw4448473159939424603:Unit:=()
def tw15180227561600896850:Unit:=()
def tw1455856706017343723:Unit:=()
def tw3888729554977332812:Unit:=()
def tw17933206449263796074:Unit:=()
def tw2958778965137753250:Unit:=()
def tw3775597026334755437:Unit:=()
def tw14439610266404600712:Unit:=()
def tw10769048312598046358:Unit:=()
def tw16998190628422719251:Unit:=()
def tw13426773704271923036:Unit:=()
def tw11648651293252239052:Unit:=()
def tw11155195553785603158:Unit:=()
def tw17331932420051063503:Unit:=()
def tw5504125264602579801:Unit:=()
def tw6302939492079004909:Unit:=()
def tw5924740346233961121:Unit:=()
def tw2519983793147155190:Unit:=()
def tw6584753256906964410:Unit:=()
def tw7059390894472498755:Unit:=()
def tw16696741665927585077:Unit:=()
def tw1862530382690837489:Unit:=()
def tw140366891088935005:Unit:=()
def tw12757649988323359301:Unit:=()
def tw3686670598204992238:Unit:=()
def tw6557871378037487812:Unit:=()
end PySem.W.Fast
open PySem PySem.W PyProof.Rows
set_option maxRecDepth 100000 in
set_option maxHeartbeats 0 in
theorem PySem.Challenge.cw_brooktally_k36_reasons_by_sets_holds : PySem.Challenge.rw_brooktally_k36_reasons_by_sets.Holds := by
  w_on; o_law; k_head; (case hw => w_witness2)
  k_fill
  refine L2.Qt (l := PySem.Challenge.rw_brooktally_k36_reasons_by_sets) (n := 63) (k := K36.depth) (x := "_law_script") (CX := L2.CX0) (sp := K36.Lc) rfl (by decide) rfl ⟨rfl,by decide,by decide⟩ (fun w h Y => PySem.W.kIn_of Y) ?F K36.VN (fun _ _ _ _ z => z)
  case F =>
    intro w mg fa h KX G hmg
    refine' K36.all_mk hmg (K36.Vg KX G ?B0 ?B9 ?C8 ?DH ?C9 ?DJ ?B6 ?CA ?C7 ?DG ?Ew ?E3 ?Eu ?E2 ?Du ?D1 ?Dx ?D4 ?Dw ?D3 ?Ep ?Ey ?By ?B8 ?DA ?Cf ?DB ?Cg ?CU ?CW ?Bg ?Bl ?Bf ?Bk ?BJ ?BK ?BS ?BV ?Bd ?Bh ?Be ?Bj ?BR ?BU ?C6 ?CH ?Bx ?B7 ?Bz ?Bb ?CT ?CV ?J3 ?J7 ?CS ?Bi ?Es ?EG ?C3 ?DD ?Et ?E1 ?Er ?Ez ?C5 ?DF ?Dt ?CP ?C4 ?DE ?Ds ?Dz ?J5 ?J8 ?FT ?l_PAIRED ?ET ?l_TELLERS ?EU ?l_TALLIES ?IZ ?Bt ?IW ?BC ?CO ?Cv ?Fp ?E7 ?DK ?KY ?CN ?MV ?Ec)
    (case B0 | C8 | C9 | B6 | C7 | Ew | Eu | Du | Dx | Dw | Ep | By | DA | DB | CU | Bg | Bf | BJ | BS | Bd | Be | BR | C6 | Bx | Bz | CT | J3 | CS | Es | C3 | Et | Er | C5 | Dt | C4 | Ds | J5 | FT | l_PAIRED | ET | l_TELLERS | EU | l_TALLIES | IZ | Bt | IW | BC | CO | Cv | Fp | E7 | DK | KY | CN | MV | Ec => k_is)
    (case B9 | DH | DJ | CA | DG | E3 | E2 | D1 | D4 | D3 | Ey | B8 | Cf | Cg | CW | Bl | Bk | BK | BV | Bh | Bj | BU | CH | B7 | Bb | CV | J7 | Bi | EG | DD | E1 | Ez | DF | CP | DE | Dz | J8 => refine' L2.VY ?l ?c ?k; (case l => k_is); (case c => k_is); (case k => k_is))
