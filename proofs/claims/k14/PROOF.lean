import PyProof.Rows.All
import Wide.All
import OpenK.AllK
import Wide.FinOn
import Lean
import PyProof.EqAt
import PyProof.EqKinds
import PyProof.TupleCall
import PySem.Challenge.RW_brooktally_k14_whole_a_group
set_option Elab.async false
set_option linter.all false
set_option maxRecDepth 100000
set_option maxHeartbeats 4000000
namespace L2
open PySem PySem.Spec PyProof.Rows
abbrev Key:=Sum Int Str
def Dh:Key→Value→Bool
 | .inl k,v=>Value.isInt k v
 | .inr x,v=>Value.isStrOf x v
def U0 (w:World):Key→Int
 | .inl k=>hashInt k
 | .inr x=>hashStr w x
theorem Ay:∀{k:Key}{v:Value},Dh k v=true→(∃i t,k=Sum.inl i/\v=Value.int i t)\/(∃x t,k=Sum.inr x/\v=Value.str x t)
 | .inl i,v,h=>by
  obtain ⟨t,e⟩:=Value.isInt_shape (k:=i) (v:=v) h
  exact .inl ⟨i,t,rfl,e⟩
 | .inr x,v,h=>by
  obtain ⟨t,e⟩:=Value.isStrOf_shape (x:=x) (v:=v) h
  exact .inr ⟨x,t,rfl,e⟩
theorem HI (i:Int) (t:Tok):Dh (.inl i) (.int i t)=true:=by simp [Dh,Value.isInt]
theorem HH (x:Str) (t:Tok):Dh (.inr x) (.str x t)=true:=by simp [Dh,Value.isStrOf]
theorem TR (a b:Int):decide ((Sum.inl a:Key)=Sum.inl b)=(a==b):=by
 by_cases e:a=b
 ·subst e;simp
 ·have h:¬ (Sum.inl a:Key)=Sum.inl b:=fun q=>e (Sum.inl.inj q)
  rw [decide_eq_false h]
  exact (beq_eq_false_iff_ne.mpr e).symm
theorem TM (a b:Str):decide ((Sum.inr a:Key)=Sum.inr b)=decide (a=b):=by
 by_cases e:a=b
 ·subst e;simp
 ·have h:¬ (Sum.inr a:Key)=Sum.inr b:=fun q=>e (Sum.inr.inj q)
  rw [decide_eq_false h,decide_eq_false e]
theorem TQ (a:Int) (b:Str):decide ((Sum.inl a:Key)=Sum.inr b)=false:=decide_eq_false (fun q=>nomatch q)
theorem TN (a:Str) (b:Int):decide ((Sum.inr a:Key)=Sum.inl b)=false:=decide_eq_false (fun q=>nomatch q)
def AR (prog:Program) (w:World):PySem.KeyKind prog w Key where
 is:=Dh
 hash:=U0 w
 inj:=fun v a b ha hb=>by
  rcases Ay ha with ⟨i,t,rfl,rfl⟩|⟨x,t,rfl,rfl⟩
  ·rcases Ay hb with ⟨j,u,rfl,e⟩|⟨y,u,rfl,e⟩
   ·injection e with e1 _;rw [e1]
   ·exact nomatch e
  ·rcases Ay hb with ⟨j,u,rfl,e⟩|⟨y,u,rfl,e⟩
   ·exact nomatch e
   ·injection e with e1 _;rw [e1]
 byValue:=fun k v h=>by
  rcases Ay h with ⟨i,t,rfl,rfl⟩|⟨x,t,rfl,rfl⟩ <;> rfl
 pyHash:=fun hv h=>by
  rcases Ay hv with ⟨i,t,rfl,rfl⟩|⟨x,t,rfl,rfl⟩
  ·exact wpAny_pyHash_int h
  ·exact wpAny_pyHash_str h
 eqBool:=fun hu hv h=>by
  rcases Ay hu with ⟨i,t,rfl,rfl⟩|⟨x,t,rfl,rfl⟩
  ·rcases Ay hv with ⟨j,u,rfl,rfl⟩|⟨y,u,rfl,rfl⟩
   ·rw [TR] at h;exact wpAny_eqBool_int h
   ·rw [TQ] at h;exact SeqAt.EqAt.int_str i t y u _ _ _ _ h
  ·rcases Ay hv with ⟨j,u,rfl,rfl⟩|⟨y,u,rfl,rfl⟩
   ·rw [TN] at h;exact SeqAt.EqAt.str_int x t j u _ _ _ _ h
   ·rw [TM] at h;exact wpAny_eqBool_str h
 «strs»:=fun k x t v h=>by
  rcases Ay h with ⟨i,u,rfl,e⟩|⟨y,u,rfl,e⟩
  ·exact nomatch e
  ·injection e with e1 _
   subst e1
   cases v <;> rfl
theorem Lx (prog:Program) (w:World) (i:Int) (t:Tok):(AR prog w).is (.inl i) (.int i t)=true:=HI i t
theorem Lv (prog:Program) (w:World) (x:Str) (t:Tok):(AR prog w).is (.inr x) (.str x t)=true:=HH x t
end L2
namespace L2
open PySem PySem.Spec PyProof.Rows
inductive V where
 | non|bl (b:Bool)|int (i:Int)|str (x:Str)|byt (b:Array UInt8)|flt (b:UInt64)|ref (a:Addr)|ty (n:String)
 deriving DecidableEq
def RelV:V→Value→Prop
 | .non,u=>u=Value.none
 | .bl b,u=>u=Value.bool b
 | .int i,u=>∃t,u=Value.int i t
 | .str x,u=>∃t,u=Value.str x t
 | .byt b,u=>∃t,u=Value.bytes b t
 | .flt b,u=>∃t,u=Value.float b t
 | .ref a,u=>u=Value.ref a
 | .ty n,u=>u=Value.type n
abbrev Vals:List V→List Value→Prop:=Paired RelV
theorem Vals.length {xs:List V}{us:List Value}(r:Vals xs us):xs.length=us.length:=Paired.length r
theorem Vals.get:∀{xs:List V}{us:List Value}{i:Nat}{x:V},Vals xs us→xs[i]?=some x→∃u,us[i]?=some u/\RelV x u
 | _,_,_,_,.nil,e=>by simp at e
 | _,_,0,_,.cons r _,e=>by simp at e;subst e;exact ⟨_,rfl,r⟩
 | _,_,i+1,x,.cons _ t,e=>by
  obtain ⟨u,h1,h2⟩:=Vals.get (i:=i) (x:=x) t (by simpa using e)
  exact ⟨u,by simpa using h1,h2⟩
theorem Vals.append:∀{xs ys:List V}{us ws:List Value},Vals xs us→Vals ys ws→Vals (xs++ys) (us++ws)
 | _,_,_,_,.nil,s=>s
 | _,_,_,_,.cons r t,s=>.cons r (Vals.append t s)
theorem Vals.take:∀{xs:List V}{us:List Value}(n:Nat),Vals xs us→Vals (xs.take n) (us.take n)
 | _,_,0,_=>.nil
 | _,_,_+1,.nil=>.nil
 | _,_,n+1,.cons r t=>.cons r (Vals.take n t)
theorem Vals.drop:∀{xs:List V}{us:List Value}(n:Nat),Vals xs us→Vals (xs.drop n) (us.drop n)
 | _,_,0,r=>r
 | _,_,_+1,.nil=>.nil
 | _,_,n+1,.cons _ t=>Vals.drop n t
def C9:Option V→Option Value→Prop
 | some v,some u=>RelV v u
 | none,none=>True
 | _,_=>False
def KV {κ:Type}:List (κ×V)→List (κ×Value)→Prop:=Paired fun (p:κ×V) (q:κ×Value)=>p.1=q.1/\RelV p.2 q.2
def kV:Key→V
 | .inl i=>.int i
 | .inr x=>.str x
inductive HO where
 | lst (xs:List V)
 | tup (xs:List V)
 | dK (kvs:List (Key×V))|dT (kvs:List (List Key×V))
 | set (S:Int→Bool) (n:Nat)
 | ins (C dx:Addr) (fs:List (Str×V))
 | own (x:Addr)
 | xd (fs:List (Str×V))
 | met (f x:Addr)
 | rng (lo hi:Int)
 | frz (o:Obj) (u:HO)
 | tbl (ps:Array Value)
 | ext (φ:Heap→Prop)
abbrev Hp:=Addr→Option HO
def upd (H:Hp) (a:Addr) (o:HO):Hp:=fun b=>if b=a then some o else H b
theorem AB {H:Hp}{a:Addr}{o:HO}:upd H a o a=some o:=by unfold upd;rw [if_pos rfl]
theorem AF {H:Hp}{a b:Addr}{o:HO}(h:b≠a):upd H a o b=H b:=by unfold upd;rw [if_neg h]
theorem SQ {H:Hp}{a b:Addr}{o u:HO}(h:H a=some o) (h':H b=some u) (d:o≠u):a≠b:=by
 intro e;subst e;rw [h] at h';exact d (Option.some.inj h')
theorem AK {H:Hp}{a b:Addr}{o:HO}(h:H a=some o) (h':H b=none):a≠b:=by
 intro e;subst e;rw [h] at h';cases h'
section
variable (P:Program) (w:World)
def A7 (H:Hp) (h:Heap) (a:Addr):HO→Prop
 | .lst xs=>xs.length≤sizeLine/\∃(its:List Value) (n:Nat),Vals xs its/\h.get? a=some { cls:=.type "list", data:=.seq its.toArray n }
 | .tup xs=>xs.length≤sizeLine/\∃its:List Value,Vals xs its/\IsTup h a its.toArray
 | .dK kvs=>kvs.length≤sizeLine/\(a==sysModules)=false/\∃vs,KV kvs vs/\h.DictOf (AR P w) a vs
 | .dT kvs=>kvs.length≤sizeLine/\(a==sysModules)=false/\∃xs:List (List Key×Addr×Value),
   Paired (fun (p:List Key×V) (q:List Key×Addr×Value)=>p.1=q.1/\H q.2.1=some (.tup (p.1.map kV))/\RelV p.2 q.2.2) kvs xs /\
   ∃o es ep,h.get? a=some o/\o.ExactDict/\o.data=.dict es ep/\es.toList=xs.map (entryOfKey (tupleKind (AR P w)))/\(xs.map (·.1)).Nodup
 | .set S n=>h.SetOf (intKind P w) a S n
 | .ins C dx fs=>H dx=some (.own a)/\fs.length≤1000/\dx≠a/\h.get? a=some (PySem.W.instObj C dx) /\
   ∃mA,h.Ns1 dx mA/\(∀f,C9 (fs.lookup f) (mA f))/\PySem.Within mA (fs.map (·.1))
 | .own _=>∃o,h.get? a=some o
 | .xd fs=>∃mA,h.Ns1 a mA/\∀f,C9 (fs.lookup f) (mA f)
 | .rng lo hi=>∃t u v,h.get? a=some { cls:=.type "range", data:=.fields #[.int lo t,.int hi u,.int 1 v] }
 | .frz o u=>h.get? a=some o/\A7 H h a u
 | .tbl ps=>h.get? a=some { cls:=.none,data:=.fields ps }
 | .met f x=>h.get? a=some (PySem.W.methodObj (.ref f) (.ref x))
 | .ext φ=>φ h/\(∃o,h.get? a=some o)/\∀h1 h2:Heap,φ h1→(∀o,h1.get? a=some o→h2.get? a=some o)→φ h2
def HOk (H:Hp) (h:Heap):Prop:=∀a o,H a=some o→A7 P w H h a o
end
section
variable {P:Program}{w:World}{H H':Hp}{h h':Heap}{a:Addr}{o:HO}
theorem A7.lt (x:A7 P w H h a o):a<h.objs.size:=by
 cases o with
 | lst xs=>obtain ⟨_,_,_,_,e⟩:=x;exact Heap.lt_size e
 | tup xs=>obtain ⟨_,_,_,p⟩:=x;exact p.lt
 | dK kvs=>obtain ⟨_,_,_,_,o,_,_,e,_⟩:=x;exact Heap.lt_size e
 | dT kvs=>obtain ⟨_,_,_,_,o,_,_,e,_⟩:=x;exact Heap.lt_size e
 | set S n=>obtain ⟨o,_,_,_,e,_⟩:=x;exact Heap.lt_size e
 | ins C dx fs=>obtain ⟨_,_,_,e,_⟩:=x;exact Heap.lt_size e
 | own y=>obtain ⟨_,e⟩:=x;exact Heap.lt_size e
 | xd fs=>obtain ⟨_,⟨_,_,_,e,_⟩,_⟩:=x;exact Heap.lt_size e
 | rng lo hi=>obtain ⟨_,_,_,e⟩:=x;exact Heap.lt_size e
 | frz ob u=>obtain ⟨e,_⟩:=x;exact Heap.lt_size e
 | tbl ps=>exact Heap.lt_size (show h.get? a=some _ from x)
 | met f y=>exact Heap.lt_size (show h.get? a=some _ from x)
 | ext φ=>obtain ⟨_,⟨_,e⟩,_⟩:=x;exact Heap.lt_size e
theorem Paired.TC {α β:Type}{F G:α→β→Prop}:∀{l₁:List α}{l₂:List β},Paired F l₁ l₂→(∀a b,F a b→G a b)→Paired G l₁ l₂
 | _,_,.nil,_=>.nil
 | _,_,.cons r t,f=>.cons (f _ _ r) (Paired.TC t f)
theorem A7.LR (x:A7 P w H h a o) (k:∀b u,(b=a\/H b=some (.own a))→h.get? b=some u→h'.get? b=some u)
  (ho:∀b,H b=some (.own a)→H' b=some (.own a)) (ht:∀b xs,H b=some (.tup xs)→H' b=some (.tup xs)):A7 P w H' h' a o:=by
 induction o with
 | lst xs=>obtain ⟨z,its,n,r,e⟩:=x;exact ⟨z,its,n,r,k _ _ (.inl rfl) e⟩
 | tup xs=>obtain ⟨z,its,r,ob,e,c⟩:=x;exact ⟨z,its,r,ob,k _ _ (.inl rfl) e,c⟩
 | dK kvs=>obtain ⟨z,y,vs,r,ob,es,ep,e,c⟩:=x;exact ⟨z,y,vs,r,ob,es,ep,k _ _ (.inl rfl) e,c⟩
 | dT kvs =>
  obtain ⟨z,y,xs,r,ob,es,ep,e,c⟩:=x
  exact ⟨z,y,xs,Paired.TC r fun p q z=>⟨z.1,ht _ _ z.2.1,z.2.2⟩,ob,es,ep,k _ _ (.inl rfl) e,c⟩
 | set S n=>obtain ⟨ob,es,ep,t,e,c⟩:=x;exact ⟨ob,es,ep,t,k _ _ (.inl rfl) e,c⟩
 | ins C dx fs =>
  obtain ⟨d,z,ne,e,mA,⟨od,es,ep,e2,c⟩,r⟩:=x
  exact ⟨ho _ d,z,ne,k _ _ (.inl rfl) e,mA,⟨od,es,ep,k _ _ (.inr d) e2,c⟩,r⟩
 | own y=>obtain ⟨ob,e⟩:=x;exact ⟨ob,k _ _ (.inl rfl) e⟩
 | xd fs=>obtain ⟨mA,⟨od,es,ep,e,c⟩,r⟩:=x;exact ⟨mA,⟨od,es,ep,k _ _ (.inl rfl) e,c⟩,r⟩
 | rng lo hi=>obtain ⟨t,u,v,e⟩:=x;exact ⟨t,u,v,k _ _ (.inl rfl) e⟩
 | frz ob u ih=>obtain ⟨e,q⟩:=x;exact ⟨k _ _ (.inl rfl) e,ih q⟩
 | tbl ps =>
  have e:h.get? a=some { cls:=.none,data:=.fields ps }:=x
  show h'.get? a=some { cls:=.none,data:=.fields ps }
  exact k a _ (.inl rfl) e
 | met f y =>
  have e:h.get? a=some (PySem.W.methodObj (.ref f) (.ref y)):=x
  show h'.get? a=some (PySem.W.methodObj (.ref f) (.ref y))
  exact k a _ (.inl rfl) e
 | ext φ=>obtain ⟨p,⟨o,e⟩,st⟩:=x;exact ⟨st _ _ p fun o q=>k _ _ (.inl rfl) q,⟨o,k _ _ (.inl rfl) e⟩,st⟩
theorem HOk.lt (x:HOk P w H h) (e:H a=some o):a<h.objs.size:=(x a o e).lt
theorem HOk.fresh (x:HOk P w H h) (e:h.objs.size≤a):H a=none:=by
 cases q:H a with
 | none=>rfl
 | some u=>exact absurd (Nat.lt_of_lt_of_le (x.lt q) e) (Nat.lt_irrefl _)
theorem HOk.kept (x:HOk P w H h) (k:∀b u,h.get? b=some u→h'.get? b=some u):HOk P w H h':=fun a o e =>
 (x a o e).LR (fun b u _ q=>k b u q) (fun _ q=>q) fun _ _ q=>q
theorem HOk.laid (x:HOk P w H h) (k:∀b u,h.get? b=some u→h'.get? b=some u) (hp:h.objs.size≤a) (new:A7 P w (upd H a o) h' a o):HOk P w (upd H a o) h':=fun b u e=>by
 have hn:=x.fresh hp
 by_cases hb:b=a
 ·subst hb;rw [AB] at e;cases e;exact new
 ·rw [AF hb] at e
  exact (x b u e).LR (fun c v _ q=>k c v q) (fun c q=>by rw [AF (AK q hn)];exact q) fun c xs q=>by rw [AF (AK q hn)];exact q
end
def Rd (H:Hp) (a:Addr) (u:HO):Prop:=H a=some u\/∃o,H a=some (.frz o u)
theorem Rd.ok {P:Program}{w:World}{H:Hp}{h:Heap}{a:Addr}{u:HO}(r:Rd H a u) (x:HOk P w H h):A7 P w H h a u:=by
 rcases r with r|⟨o,r⟩
 ·exact x a u r
 ·obtain ⟨_,q⟩:=x a _ r
  exact q
def Mut:Option HO→Prop
 | some (.lst _)=>True
 | some (.dK _)=>True
 | some (.dT _)=>True
 | some (.set _ _)=>True
 | some (.ins _ _ _)=>True
 | some (.ext _)=>True
 | _=>False
section
variable {P:Program}{w:World}{H:Hp}{h h':Heap}{x e:Addr}{o':HO}
theorem HOk.write (ok:HOk P w H h) (mu:Mut (H x)) (he:e=x\/H e=some (.own x)) (k:∀b u,b≠e→h.get? b=some u→h'.get? b=some u) (heo:∃u,h'.get? e=some u)
  (new:A7 P w (upd H x o') h' x o'):HOk P w (upd H x o') h':=fun b u q=>by
 have nown:∀c y,H c=some (.own y)→c≠x:=fun c y r z=>by subst z;rw [r] at mu;exact mu
 have ntup:∀c xs,H c=some (.tup xs)→c≠x:=fun c xs r z=>by subst z;rw [r] at mu;exact mu
 by_cases hb:b=x
 ·subst hb;rw [AB] at q;cases q;exact new
 ·rw [AF hb] at q
  by_cases hbe:b=e
  ·have q':H b=some (.own x):=by
    rcases he with z|z
    ·exact absurd (hbe.trans z) hb
    ·rw [hbe];exact z
   rw [q] at q';cases q'
   obtain ⟨v,hv⟩:=heo
   exact ⟨v,by rw [hbe];exact hv⟩
  ·refine (ok b u q).LR (fun c v hc r=>k c v ?_ r) (fun c r=>by rw [AF (nown c b r)];exact r) fun c xs r=>by rw [AF (ntup c xs r)];exact r
   rcases hc with rfl|hc
   ·exact hbe
   ·rintro rfl
    rcases he with z|z
    ·exact nown c b hc z
    ·rw [hc] at z;cases z;exact hb rfl
end
structure Un (fs ex:List Addr) (H H':Hp) (h h':Heap):Prop where
 keep:∀b o,h.get? b=some o→H b=none→b∉fs→b∉ex→h'.get? b=some o
 slot:∀b o,h.get? b=some o→H b=none→b∈fs→b∉ex→∃sl,h'.get? b=some { o with slots:=sl }
 free:∀b o,h.get? b=some o→H b=none→b∉ex→H' b=none
 there:∀b o,h.get? b=some o→b∉ex→∃o',h'.get? b=some o'
 Ia:∀b xs,H b=some (.tup xs)→H' b=some (.tup xs)
 IG:∀b o u,H b=some (.frz o u)→H' b=some (.frz o u)
 Ih:∀b ps,H b=some (.tbl ps)→∃more,H' b=some (.tbl (ps++more))
section
variable {fs fs' ex ex':List Addr}{H H1 H2:Hp}{h h1 h2 h':Heap}{a x e:Addr}{o:HO}
theorem Un.any (u:Un fs ex H H1 h h1) {b:Addr} {ob:Obj} (q:h.get? b=some ob) (n:H b=none) (hx:b∉ex):∃sl,h1.get? b=some { ob with slots:=sl }:=by
 by_cases hb:b∈fs
 ·exact u.slot b ob q n hb hx
 ·exact ⟨ob.slots,u.keep b ob q n hb hx⟩
theorem Un.kept (k:∀b u,h.get? b=some u→h'.get? b=some u):Un fs ex H H h h' :=
 ⟨fun b ob q _ _ _=>k b ob q,fun b ob q _ _ _=>⟨ob.slots,k b ob q⟩,fun _ _ _ n _=>n,fun b ob q _=>⟨ob,k b ob q⟩,fun _ _ q=>q,fun _ _ _ q=>q,fun _ ps q=>⟨#[],by rw [q];simp⟩⟩
theorem Un.refl:Un fs ex H H h h:=Un.kept fun _ _ q=>q
theorem Un.laid (k:∀b u,h.get? b=some u→h'.get? b=some u) (hp:h.objs.size≤a) (hn:H a=none):Un fs ex H (upd H a o) h h' where
 keep:=fun b u q _ _ _=>k b u q
 slot:=fun b u q _ _ _=>⟨u.slots,k b u q⟩
 free:=fun b u q n _=>by rw [AF (Nat.ne_of_lt (Nat.lt_of_lt_of_le (Heap.lt_size q) hp))];exact n
 there:=fun b u q _=>⟨u,k b u q⟩
 Ia:=fun b xs q=>by rw [AF (AK q hn)];exact q
 IG:=fun b u xs q=>by rw [AF (AK q hn)];exact q
 Ih:=fun b ps q=>⟨#[],by rw [AF (AK q hn),q];simp⟩
theorem Un.write (mu:Mut (H x)) (he:e=x\/H e=some (.own x)) (k:∀b u,b≠e→h.get? b=some u→h'.get? b=some u) (heo:∃u,h'.get? e=some u):Un fs ex H (upd H x o) h h':=by
 have hx:∀b,H b=none→b≠x:=fun b n z=>by subst z;rw [n] at mu;exact mu
 have hb:∀b,H b=none→b≠e:=fun b n z=>by
  subst z
  rcases he with r|r
  ·exact hx b n r
  ·rw [n] at r;cases r
 have hm:∀b u,H b=some u→¬ Mut (some u)→b≠x:=fun b u q nm z=>by subst z;rw [q] at mu;exact nm mu
 refine ⟨fun b u q n _ _=>k b u (hb b n) q,fun b u q n _ _=>⟨u.slots,k b u (hb b n) q⟩,fun b u q n _=>by rw [AF (hx b n)];exact n,fun b u q _=>?_,
  fun b xs q=>by rw [AF (hm b _ q fun z=>z)];exact q,fun b u xs q=>by rw [AF (hm b _ q fun z=>z)];exact q,fun b ps q=>⟨#[],by rw [AF (hm b _ q fun z=>z),q];simp⟩⟩
 by_cases hbe:b=e
 ·subst hbe;exact heo
 ·exact ⟨u,k b u hbe q⟩
end
def trk (h:Heap) (H:Hp):List Addr:=(List.range h.objs.size).filter fun a=>(H a).isSome
def Kz (h:Heap) (H:Hp):Heap:=PySem.W.hideAll h (trk h H)
theorem Od (h:Heap) (H:Hp):(Kz h H).objs.size=h.objs.size:=PySem.W.hideAll_size _ _
theorem QR {h:Heap}{H:Hp}{b:Addr}{o:Obj}(e:h.get? b=some o) (n:H b=none):(Kz h H).get? b=some o :=
 PySem.W.hideAll_get _ e fun hm=>by
  have q:(H b).isSome=true:=(List.mem_filter.mp hm).2
  rw [n] at q;simp at q
theorem Rf {h:Heap}{H:Hp}{b:Addr}{o:Obj}(e:(Kz h H).get? b=some o):h.get? b=some o/\H b=none:=by
 have e':h.get? b=some o:=PySem.W.of_hideAll (trk h H) e
 refine ⟨e',?_⟩
 cases q:H b with
 | none=>rfl
 | some x =>
  have hm:b∈trk h H:=List.mem_filter.mpr ⟨List.mem_range.mpr (Heap.lt_size e'),by simp [q]⟩
  have z:(Kz h H).get? b=none:=PySem.W.hideAll_none (trk h H) hm
  rw [z] at e;cases e
def R9 (g h:Heap) (L:Addr):List (Addr×Obj):=(List.range h.objs.size).filterMap fun a=>if a=L\/(g.get? a).isSome=true then none else (h.get? a).map fun o=>(a,o)
def rest (g h:Heap) (L d:Addr):List (Addr×Obj):=(R9 g h L).filter fun p=>decide (p.1≠d)
end L2
namespace L2
open PySem PySem.Spec PyProof.Rows
structure Mod (K:PySem.W.Frag) (mg:Str→Option Value) (base:Heap):Prop where
 kin:K.In base
 glob:base.Ns mainGlobals mg
 blt:∃mb,base.Ns builtinsNs mb/\∀x:Str,x ≠ "__name__" → mb x=bootBuiltins x
 nolimit:base.NoLimit
structure Cx where
 prog:Program
 w:World
 K:PySem.W.Frag
 mg:Str→Option Value
 base:Heap
 A:Around
 N:List Str
 s₀:Shared
 H₀:Hp
 env:Env
 outer:List Env
 stack:List Env
 ex:List Addr
 fn:Str→Bool
 calm:Bool
 pn:List (Addr×Obj)
 xe:Value→Shared→Prop
def frs (l:List Env):List Addr:=l.filterMap (·.frame)
abbrev Cx.fs (X:Cx):List Addr:=frs X.outer
def Vis (sc:Scope) (x:Str):Prop:=sc.names.lookup x=some .local\/sc.names.lookup x=some .cell\/sc.names.lookup x=some .free
def Loc (sc:Scope) (x:Str):Prop:=sc.names.lookup x=some .local\/sc.names.lookup x=some .cell
def Look (env:Env) (h:Heap) (m:Str→Option Value) (x:Str) (u:Value):Prop :=
 (env.kindOf x=some .local/\m x=some u)\/((env.kindOf x=some .cell\/env.kindOf x=some .free)/\∃c,env.cells.lookup x=some c/\h.IsCell c (some u))
structure Cx.Ok (X:Cx):Prop where
 mod:Mod X.K X.mg X.base
 kind:X.env.scope.kind=.function
 glob:X.env.globals=mainGlobals
 blt:X.env.builtins=builtinsNs
 above:X.s₀.heap.objs.size≤X.env.locals
 inj:∀x y c,X.env.cells.lookup x=some c→X.env.cells.lookup y=some c→x=y
 has:∀x,(X.env.kindOf x=some .cell\/X.env.kindOf x=some .free)→∃c,X.env.cells.lookup x=some c
 cab:∀x c,X.fn x=true→X.env.cells.lookup x=some c→X.s₀.heap.objs.size≤c
 hd:X.calm=true→X.A.handled=none
 frames:X.A.frames=some X.stack
 stk:X.stack=X.outer\/(X.stack=X.env::X.outer/\X.env.frame=some X.env.locals)
 exf:∀b∈X.ex,b≠X.env.locals/\∀x c,X.env.cells.lookup x=some c→c≠b
 bs:∀b o,X.base.get? b=some o→X.s₀.heap.get? b=some o/\X.H₀ b=none
 bsz:X.base.objs.size≤X.s₀.heap.objs.size
 OQ:∀b o,X.base.get? b=some o→b∉X.ex
 Oh:∀b∈X.ex,b∉X.fs
 F7:X.s₀.heap.FunFrames X.base X.outer
 frf:∀b∈X.fs,X.H₀ b=none
structure Inv (X:Cx) (pins:List (Addr×Obj)) (σ:List (Option V)) (H:Hp) (s:Shared):Prop where
 ok:X.Ok
 os:s.os=X.s₀.os
 bare:AllBare s.gens
 base:Un X.fs X.ex X.H₀ H X.s₀.heap s.heap
 loc:∃m,s.heap.Ns X.env.locals m/\∀(i:Nat) (x:Str) (v:V),X.N[i]?=some x→σ[i]?=some (some v)→Vis X.env.scope x→∃u,RelV v u/\Look X.env s.heap m x u
 cell:∀x c,X.env.cells.lookup x=some c→∃v,s.heap.IsCell c v
 free:H X.env.locals=none
 Eu:∀x c,X.env.cells.lookup x=some c→H c=none
 pin:∀p∈X.pn++pins,s.heap.get? p.1=some p.2/\H p.1=none/\p.1≠X.env.locals/\p.1∉X.fs/\∀v,p.2.data≠.cell v
 hok:HOk X.prog X.w H s.heap
 len:σ.length=X.N.length
section
variable {X:Cx}{pins:List (Addr×Obj)}{σ:List (Option V)}{H H':Hp}{s:Shared}{h':Heap}
theorem Cx.Ok.Uy (ok:X.Ok) {b:Addr}{o:Obj}(e:X.base.get? b=some o):b∉X.fs:=fun hb=>by
 have:=(ok.F7.mem hb).1
 rw [e] at this;cases this
theorem Inv.bs (I:Inv X pins σ H s):∀b o,X.base.get? b=some o→s.heap.get? b=some o/\H b=none:=fun b o e =>
 ⟨I.base.keep b o (I.ok.bs b o e).1 (I.ok.bs b o e).2 (I.ok.Uy e) (I.ok.OQ b o e),I.base.free b o (I.ok.bs b o e).1 (I.ok.bs b o e).2 (I.ok.OQ b o e)⟩
theorem Inv.bk (I:Inv X pins σ H s):∀b o,X.base.get? b=some o→s.heap.get? b=some o:=fun b o e=>(I.bs b o e).1
theorem Inv.mod (I:Inv X pins σ H s):Mod X.K X.mg X.base:=I.ok.mod
theorem Inv.kIn (I:Inv X pins σ H s):X.K.In s.heap:=I.ok.mod.kin.keeps I.bk
theorem Inv.lt (I:Inv X pins σ H s):X.env.locals<s.heap.objs.size:=let ⟨_,hn,_⟩:=I.loc;hn.lt
theorem Inv.sz (I:Inv X pins σ H s):X.s₀.heap.objs.size≤s.heap.objs.size:=Nat.le_trans I.ok.above (Nat.le_of_lt I.lt)
theorem Inv.Ux (I:Inv X pins σ H s) {a:Addr}(h:s.heap.objs.size≤a):a∉X.fs:=fun hb=>by
 obtain ⟨_,o,ho,_⟩:=I.ok.F7.mem hb
 exact absurd (Nat.lt_of_lt_of_le (Heap.lt_size ho) (Nat.le_trans I.sz h)) (Nat.lt_irrefl _)
theorem Inv.cne (I:Inv X pins σ H s):∀x c,X.env.cells.lookup x=some c→c≠X.env.locals:=fun x c e z=>by
 obtain ⟨v,o,ho,hd⟩:=I.cell x c e
 obtain ⟨m,⟨o',es,ep,ho',hd',_⟩,_⟩:=I.loc
 rw [z,ho'] at ho;cases ho;rw [hd'] at hd;cases hd
theorem Inv.F7 (I:Inv X pins σ H s):s.heap.FunFrames X.base X.outer:=by
 have all:∀(l:List Env),(∀b∈frs l,b∈X.fs)→X.s₀.heap.FunFrames X.base l→s.heap.FunFrames X.base l:=by
  intro l
  induction l with
  | nil=>intro _ _;trivial
  | cons env r ih =>
   intro hs hl
   obtain ⟨hk,⟨L,o,hf,hn,ho,hd⟩,hr⟩:=hl
   have hL:L∈X.fs:=hs L (by unfold frs;rw [List.filterMap_cons,hf];exact List.mem_cons_self)
   obtain ⟨sl,e⟩:=I.base.slot L o ho (I.ok.frf L hL) hL fun z=>I.ok.Oh L z hL
   exact ⟨hk,⟨L,_,hf,hn,e,hd⟩,ih (fun b hb=>hs b (by unfold frs;rw [List.filterMap_cons,hf];exact List.mem_cons_of_mem _ hb)) hr⟩
 exact all X.outer (fun _ hb=>hb) I.ok.F7
theorem Inv.stack (I:Inv X pins σ H s):s.heap.FunFrames X.base X.stack:=by
 rcases I.ok.stk with e|⟨e,hf⟩
 ·rw [e];exact I.F7
 ·rw [e]
  obtain ⟨m,hn,_⟩:=I.loc
  refine .cons (by rw [I.ok.kind];decide) hf hn ?_ I.F7
  exact Heap.get?_none_of_le (Nat.le_trans I.ok.bsz I.ok.above)
theorem Inv.Gv (I:Inv X pins σ H s):∀b∈frs X.stack,b∈X.env.locals::X.fs:=fun b hb=>by
 rcases I.ok.stk with e|⟨e,hf⟩
 ·rw [e] at hb;exact List.mem_cons_of_mem _ hb
 ·rw [e] at hb
  unfold frs at hb
  rw [List.filterMap_cons,hf] at hb
  exact hb
theorem Inv.Ke (I:Inv X pins σ H s):∀b∈frs X.stack,H b=none:=fun b hb=>by
 rcases List.mem_cons.mp (I.Gv b hb) with e|hb
 ·rw [e];exact I.free
 ·obtain ⟨_,o,ho,_⟩:=I.ok.F7.mem hb
  exact I.base.free b o ho (I.ok.frf b hb) fun z=>I.ok.Oh b z hb
theorem Inv.step {g':Array GenState}{t':Nat}{d':Drawn}{ch:List Addr}(I:Inv X pins σ H s)
  (hch:∀b∈ch,(b∈X.ex\/X.s₀.heap.objs.size≤b)/\b≠X.env.locals/\(∀x c,X.env.cells.lookup x=some c→c≠b)/\∀p∈X.pn++pins,p.1≠b)
  (keep:∀b o,b≠X.env.locals→b∉X.fs→b∉ch→s.heap.get? b=some o→H b=none→h'.get? b=some o)
  (slot:∀b o,b≠X.env.locals→b∈X.fs→b∉ch→s.heap.get? b=some o→H b=none→∃sl,h'.get? b=some { o with slots:=sl }) (free:∀b o,b∉ch→s.heap.get? b=some o→H b=none→H' b=none)
  (there:∀b o,b∉ch→s.heap.get? b=some o→∃o',h'.get? b=some o')
  (Ia:∀b xs,H b=some (.tup xs)→H' b=some (.tup xs)) (IG:∀b o u,H b=some (.frz o u)→H' b=some (.frz o u)) (Ih:∀b ps,H b=some (.tbl ps)→∃more,H' b=some (.tbl (ps++more)))
  (ns:∀m,s.heap.Ns X.env.locals m→h'.Ns X.env.locals m) (hok:HOk X.prog X.w H' h') (hg:AllBare g') :
  Inv X pins σ H' { s with heap:=h',gens:=g',drawn:=d',toks:=t' }:=by
 have neL:∀b o,X.s₀.heap.get? b=some o→b≠X.env.locals:=fun b o e=>Nat.ne_of_lt (Nat.lt_of_lt_of_le (Heap.lt_size e) I.ok.above)
 have neC:∀b o,X.s₀.heap.get? b=some o→b∉X.ex→b∉ch:=fun b o e hx hb=>by
  rcases (hch b hb).1 with z|z
  ·exact hx z
  ·exact absurd (Nat.lt_of_lt_of_le (Heap.lt_size e) z) (Nat.lt_irrefl _)
 have cellK:∀x c,X.env.cells.lookup x=some c→∀v,s.heap.IsCell c v→h'.IsCell c v:=fun x c e v ⟨o,ho,hd⟩=>by
  have nch:c∉ch:=fun z=>(hch c z).2.2.1 x c e rfl
  by_cases hc:c∈X.fs
  ·obtain ⟨sl,q⟩:=slot c o (I.cne x c e) hc nch ho (I.Eu x c e)
   exact ⟨_,q,hd⟩
  ·exact ⟨o,keep c o (I.cne x c e) hc nch ho (I.Eu x c e),hd⟩
 refine ⟨I.ok,I.os,hg,⟨fun b o e n hb hx=>?_,fun b o e n hb hx=>?_,fun b o e n hx=>?_,fun b o e hx=>?_,fun b xs e=>Ia b xs (I.base.Ia b xs e),fun b o xs e=>IG b o xs (I.base.IG b o xs e),fun b ps e=>?_⟩,?_,fun x c e=>?_,?_,fun x c e=>?_,fun p hp=>?_,hok,I.len⟩
 ·exact keep b o (neL b o e) hb (neC b o e hx) (I.base.keep b o e n hb hx) (I.base.free b o e n hx)
 ·obtain ⟨sl,e1⟩:=I.base.slot b o e n hb hx
  obtain ⟨sl',e2⟩:=slot b _ (neL b o e) hb (neC b o e hx) e1 (I.base.free b o e n hx)
  exact ⟨sl',e2⟩
 ·obtain ⟨o',e1⟩:=I.base.there b o e hx
  exact free b o' (neC b o e hx) e1 (I.base.free b o e n hx)
 ·obtain ⟨o',e1⟩:=I.base.there b o e hx
  exact there b o' (neC b o e hx) e1
 ·obtain ⟨m1,e1⟩:=I.base.Ih b ps e
  obtain ⟨m2,e2⟩:=Ih b _ e1
  exact ⟨m1++m2,by rw [e2,Array.append_assoc]⟩
 ·obtain ⟨m,hn,hl⟩:=I.loc
  refine ⟨m,ns m hn,fun i x v e1 e2 e3=>?_⟩
  obtain ⟨u,r,l⟩:=hl i x v e1 e2 e3
  refine ⟨u,r,?_⟩
  rcases l with l|⟨k,c,e,z⟩
  ·exact .inl l
  ·exact .inr ⟨k,c,e,cellK x c e _ z⟩
 ·obtain ⟨v,z⟩:=I.cell x c e
  exact ⟨v,cellK x c e v z⟩
 ·obtain ⟨m,⟨o,_,_,ho,_⟩,_⟩:=I.loc
  exact free _ o (fun z=>(hch _ z).2.1 rfl) ho I.free
 ·obtain ⟨v,o,ho,hd⟩:=I.cell x c e
  exact free c o (fun z=>(hch c z).2.2.1 x c e rfl) ho (I.Eu x c e)
 ·obtain ⟨e,n,ne,nf,d⟩:=I.pin p hp
  have nch:p.1∉ch:=fun z=>(hch p.1 z).2.2.2 p hp rfl
  exact ⟨keep p.1 p.2 ne nf nch e n,free p.1 p.2 nch e n,ne,nf,d⟩
theorem Inv.un {t':Nat} (I:Inv X pins σ H s) (u:Un X.fs [] H H' s.heap h') (hok:HOk X.prog X.w H' h'):Inv X pins σ H' { s with heap:=h',toks:=t' }:=by
 obtain ⟨m,⟨o,es,ep,ho,r⟩,_⟩:=id I.loc
 obtain ⟨sl,hL⟩:=u.any ho I.free (by simp)
 exact I.step (g':=s.gens) (d':=s.drawn) (ch:=[]) (fun _ z=>nomatch z) (fun b o _ hb _ e n=>u.keep b o e n hb (by simp)) (fun b o _ hb _ e n=>u.slot b o e n hb (by simp)) (fun b o _ e n=>u.free b o e n (by simp)) (fun b o _ e=>u.there b o e (by simp)) u.Ia u.IG u.Ih (fun m' hm=>by
  obtain ⟨o',es',ep',ho',r'⟩:=hm
  rw [ho] at ho';cases ho'
  exact ⟨_,es',ep',hL,r'⟩) hok I.bare
theorem Inv.call {g':Array GenState}{t':Nat}{d':Drawn}{ch:List Addr}(I:Inv X pins σ H s) (u:Un (frs X.stack) ch H H' s.heap h') (hok:HOk X.prog X.w H' h') (hg:AllBare g')
  (hch:∀b∈ch,(b∈X.ex\/X.s₀.heap.objs.size≤b)/\b≠X.env.locals/\(∀x c,X.env.cells.lookup x=some c→c≠b)/\∀p∈X.pn++pins,p.1≠b) :
  Inv X pins σ H' { s with heap:=h',gens:=g',drawn:=d',toks:=t' }:=by
 obtain ⟨m,⟨o,es,ep,ho,r⟩,_⟩:=id I.loc
 obtain ⟨sl,hL⟩:=u.any ho I.free fun z=>(hch _ z).2.1 rfl
 exact I.step (ch:=ch) hch (fun b o hL hb hc e n=>u.keep b o e n (fun z=>(List.mem_cons.mp (I.Gv b z)).elim hL hb) hc) (fun b o _ _ hc e n=>u.any e n hc) (fun b o hc e n=>u.free b o e n hc) (fun b o hc e=>u.there b o e hc) u.Ia u.IG u.Ih (fun m' hm=>by
  obtain ⟨o',es',ep',ho',r'⟩:=hm
  rw [ho] at ho';cases ho'
  exact ⟨_,es',ep',hL,r'⟩) hok hg
theorem Inv.turned {t':Nat}{it:Addr}(I:Inv X pins σ H s) (k:∀b o,b≠it→s.heap.get? b=some o→h'.get? b=some o) (hn:H it=none) (hL:it≠X.env.locals)
  (h1:it∈X.ex\/X.s₀.heap.objs.size≤it) (h2:∀x c,X.env.cells.lookup x=some c→c≠it) (h3:∀p∈X.pn++pins,p.1≠it):Inv X pins σ H { s with heap:=h',toks:=t' }:=by
 have nit:∀b u,H b=some u→b≠it:=fun b u e z=>by rw [z,hn] at e;cases e
 refine I.step (g':=s.gens) (d':=s.drawn) (ch:=[it]) (fun b hb=>?_) (fun b o _ _ hc e _=>k b o (fun z=>hc (by simp [z])) e) (fun b o _ _ hc e _=>⟨o.slots,k b o (fun z=>hc (by simp [z])) e⟩) (fun _ _ _ _ n=>n)
  (fun b o hc e=>⟨o,k b o (fun z=>hc (by simp [z])) e⟩) (fun _ _ e=>e) (fun _ _ _ e=>e) (fun b ps e=>⟨#[],by rw [e];simp⟩) (fun m hm=>?_) (fun b u e=>?_) I.bare
 ·have e:b=it:=by simpa using hb
  subst e
  exact ⟨h1,hL,h2,h3⟩
 ·obtain ⟨o,es,ep,ho,r⟩:=hm
  exact ⟨o,es,ep,k _ o (Ne.symm hL) ho,r⟩
 ·refine (I.hok b u e).LR (fun c v hc q=>k c v ?_ q) (fun _ q=>q) fun _ _ q=>q
  rcases hc with z|z
  ·rw [z];exact nit b u e
  ·exact nit c _ z
theorem Inv.tok (I:Inv X pins σ H s) (t:Nat):Inv X pins σ H { s with toks:=t }:=I.un (h':=s.heap) (t':=t) Un.refl I.hok
theorem Inv.kept {t':Nat} (I:Inv X pins σ H s) (k:∀b u,s.heap.get? b=some u→h'.get? b=some u):Inv X pins σ H { s with heap:=h',toks:=t' }:=I.un (Un.kept k) (I.hok.kept k)
theorem Inv.laid {a:Addr}{o:HO}{t':Nat}(I:Inv X pins σ H s) (k:∀b u,s.heap.get? b=some u→h'.get? b=some u) (hp:s.heap.objs.size≤a) (new:A7 X.prog X.w (upd H a o) h' a o) :
  Inv X pins σ (upd H a o) { s with heap:=h',toks:=t' }:=I.un (Un.laid k hp (I.hok.fresh hp)) (I.hok.laid k hp new)
theorem Inv.write {x e:Addr}{o:HO}{t':Nat}(I:Inv X pins σ H s) (mu:Mut (H x)) (he:e=x\/H e=some (.own x)) (k:∀b u,b≠e→s.heap.get? b=some u→h'.get? b=some u) (heo:∃u,h'.get? e=some u)
  (new:A7 X.prog X.w (upd H x o) h' x o):Inv X pins σ (upd H x o) { s with heap:=h',toks:=t' }:=I.un (Un.write mu he k heo) (I.hok.write mu he k heo new)
theorem Inv.CZ {pins':List (Addr×Obj)}(I:Inv X pins σ H s) (h:∀p∈pins',s.heap.get? p.1=some p.2/\H p.1=none/\p.1≠X.env.locals/\p.1∉X.fs/\∀v,p.2.data≠.cell v):Inv X pins' σ H s :=
 ⟨I.ok,I.os,I.bare,I.base,I.loc,I.cell,I.free,I.Eu,fun p hp=>(List.mem_append.mp hp).elim (fun z=>I.pin p (List.mem_append_left _ z)) (h p),I.hok,I.len⟩
theorem Lp {N:List Str}(hN:N.Nodup) {i j:Nat}{x:Str}(a:N[i]?=some x) (b:N[j]?=some x):i=j:=by
 obtain ⟨h1,e1⟩:=List.getElem?_eq_some_iff.mp a
 obtain ⟨h2,e2⟩:=List.getElem?_eq_some_iff.mp b
 exact (List.getElem_inj hN).mp (e1.trans e2.symm)
theorem Jv {M:Model}{A:Around}{E:Value→Shared→Prop}{i:Nat}{x:Str}{v:V}{u:Value}{Q:Unit→Shared→Prop}(I:Inv X pins σ H s) (hN:X.N.Nodup) (hi:X.N[i]?=some x) (hx:Loc X.env.scope x) (r:RelV v u)
  (h:∀s',Inv X pins (σ.set i (some v)) H s'→(∃a,Heap.SameBut a s.heap s'.heap/\(a=X.env.locals\/X.env.cells.lookup x=some a))→Q () s') (hf:X.fn x=true\/X.env.scope.names.lookup x=some .local:=by first|exact .inl rfl|exact .inr rfl|assumption):wpAny M A (storeName X.env x u) Q E s:=by
 obtain ⟨m,hn,hl⟩:=id I.loc
 have hcls:(X.env.scope.kind==.class||(X.env.scope.kind==.module&&X.env.locals != X.env.globals))=false:=by rw [I.ok.kind];rfl
 have hiσ:i < σ.length:=by rw [I.len];exact (List.getElem?_eq_some_iff.mp hi).1
 have cne:=I.cne
 have tracked:∀{a:Addr} {h':Heap},(∃o,s.heap.get? a=some o/\H a=none)→Heap.SameBut a s.heap h'→HOk X.prog X.w H h':=fun {a h'} ha hs b ob e=>by
  obtain ⟨_,_,hfree⟩:=ha
  refine (I.hok b ob e).LR (fun c w' hc q=>(hs.2 c ?_).trans q) (fun _ q=>q) fun _ _ q=>q
  rintro rfl
  rcases hc with rfl|hc
  ·rw [hfree] at e;cases e
  ·rw [hfree] at hc;cases hc
 rcases hx with hk|hk
 ·refine wpAny_storeName_local hk hn (fun h' hn' hs=>?_) hcls
  obtain ⟨oL,_,_,hoL,_⟩:=id hn
  refine h _ ⟨I.ok,I.os,I.bare,⟨fun b o e n hb hx=>?_,fun b o e n hb hx=>?_,I.base.free,fun b o e hx=>?_,I.base.Ia,I.base.IG,I.base.Ih⟩,⟨_,hn',fun j y v' e1 e2 e3=>?_⟩,fun y c e=>?_,I.free,I.Eu,fun p hp=>?_,tracked ⟨oL,hoL,I.free⟩ hs,by simpa using I.len⟩ ⟨_,hs,.inl rfl⟩
  ·exact (hs.2 b (Nat.ne_of_lt (Nat.lt_of_lt_of_le (Heap.lt_size e) I.ok.above))).trans (I.base.keep b o e n hb hx)
  ·obtain ⟨sl,e1⟩:=I.base.slot b o e n hb hx
   exact ⟨sl,(hs.2 b (Nat.ne_of_lt (Nat.lt_of_lt_of_le (Heap.lt_size e) I.ok.above))).trans e1⟩
  ·obtain ⟨o',e1⟩:=I.base.there b o e hx
   exact ⟨o',(hs.2 b (Nat.ne_of_lt (Nat.lt_of_lt_of_le (Heap.lt_size e) I.ok.above))).trans e1⟩
  ·by_cases hj:j=i
   ·subst hj
    rw [hi] at e1;cases e1
    rw [List.getElem?_set_self hiσ] at e2
    cases e2
    exact ⟨u,r,.inl ⟨hk,by simp⟩⟩
   ·rw [List.getElem?_set_ne (Ne.symm hj)] at e2
    obtain ⟨u',r',q⟩:=hl j y v' e1 e2 e3
    refine ⟨u',r',?_⟩
    rcases q with ⟨k,e⟩|⟨k,c,e,z⟩
    ·refine .inl ⟨k,?_⟩
     have:y≠x:=fun e=>hj (Lp hN e1 (e ▸ hi))
     simp [this,e]
    ·exact .inr ⟨k,c,e,z.sameBut hs (cne y c e)⟩
  ·obtain ⟨w',z⟩:=I.cell y c e
   exact ⟨w',z.sameBut hs (cne y c e)⟩
  ·obtain ⟨e,n,ne,nf,d⟩:=I.pin p hp
   exact ⟨(hs.2 p.1 ne).trans e,n,ne,nf,d⟩
 ·have hfn:X.fn x=true:=by
   rcases hf with z|z
   ·exact z
   ·rw [z] at hk;cases hk
  obtain ⟨c,hc⟩:=I.ok.has x (.inl hk)
  obtain ⟨w',z⟩:=I.cell x c hc
  refine wpAny_storeName_cell I.ok.kind hk hc z (fun h' hc' hs=>?_)
  obtain ⟨oc,hoc,hocd⟩:=id z
  refine h { s with heap:=h' } ⟨I.ok,I.os,I.bare,⟨fun b o e n hb hx=>?_,fun b o e n hb hx=>?_,I.base.free,fun b o e hx=>?_,I.base.Ia,I.base.IG,I.base.Ih⟩,⟨m,hn.sameBut hs (Ne.symm (cne x c hc)),fun j y v' e1 e2 e3=>?_⟩,fun y c' e=>?_,I.free,I.Eu,fun p hp=>?_,tracked ⟨oc,hoc,I.Eu x c hc⟩ hs,by simpa using I.len⟩ ⟨c,hs,.inr hc⟩
  ·exact (hs.2 b (Nat.ne_of_lt (Nat.lt_of_lt_of_le (Heap.lt_size e) (I.ok.cab x c hfn hc)))).trans (I.base.keep b o e n hb hx)
  ·obtain ⟨sl,e1⟩:=I.base.slot b o e n hb hx
   exact ⟨sl,(hs.2 b (Nat.ne_of_lt (Nat.lt_of_lt_of_le (Heap.lt_size e) (I.ok.cab x c hfn hc)))).trans e1⟩
  ·obtain ⟨o',e1⟩:=I.base.there b o e hx
   exact ⟨o',(hs.2 b (Nat.ne_of_lt (Nat.lt_of_lt_of_le (Heap.lt_size e) (I.ok.cab x c hfn hc)))).trans e1⟩
  ·by_cases hj:j=i
   ·subst hj
    rw [hi] at e1;cases e1
    rw [List.getElem?_set_self hiσ] at e2
    cases e2
    exact ⟨u,r,.inr ⟨.inl hk,c,hc,hc'⟩⟩
   ·rw [List.getElem?_set_ne (Ne.symm hj)] at e2
    obtain ⟨u',r',q⟩:=hl j y v' e1 e2 e3
    refine ⟨u',r',?_⟩
    rcases q with q|⟨k,c',e,z'⟩
    ·exact .inl q
    ·refine .inr ⟨k,c',e,z'.sameBut hs ?_⟩
     rintro rfl
     exact hj (Lp hN e1 (I.ok.inj _ _ _ e hc ▸ hi))
  ·by_cases hcc:c'=c
   ·subst hcc;exact ⟨_,hc'⟩
   ·obtain ⟨w2,z2⟩:=I.cell y c' e
    exact ⟨w2,z2.sameBut hs hcc⟩
  ·obtain ⟨e,n,ne,nf,d⟩:=I.pin p hp
   refine ⟨(hs.2 p.1 ?_).trans e,n,ne,nf,d⟩
   intro q
   rw [q,hoc] at e
   have q':oc=p.2:=Option.some.inj e
   exact d w' (by rw [←q'];exact hocd)
theorem LP {M:Model}{A:Around}{E:Value→Shared→Prop}{i:Nat}{x:Str}{v:V}{u:Value}{Q:Unit→Shared→Prop}(I:Inv X pins σ H s) (hN:X.N.Nodup) (hi:X.N[i]?=some x) (hx:Loc X.env.scope x) (r:RelV v u)
  (h:∀s',Inv X pins (σ.set i (some v)) H s'→Q () s') (hf:X.fn x=true\/X.env.scope.names.lookup x=some .local:=by first|exact .inl rfl|exact .inr rfl|assumption):wpAny M A (storeName X.env x u) Q E s :=
 Jv I hN hi hx r (fun s' I' _=>h s' I') hf
theorem Inv.SU {s':Shared}{ch:List Addr}(I:Inv X pins σ H s) (ho:s'.os=s.os) (u:Un (frs X.stack) ch H H' s.heap s'.heap) (hok:HOk X.prog X.w H' s'.heap) (hg:AllBare s'.gens)
  (hch:∀b∈ch,(b∈X.ex\/X.s₀.heap.objs.size≤b)/\b≠X.env.locals/\(∀x c,X.env.cells.lookup x=some c→c≠b)/\∀p∈X.pn++pins,p.1≠b):Inv X pins σ H' s':=by
 obtain ⟨h',g',d',t',o'⟩:=s'
 have e:o'=s.os:=ho
 subst e
 exact I.call (g':=g') (t':=t') (d':=d') u hok hg hch
end
abbrev XK:=Value→Option Addr→Hp→Prop
abbrev St:=List (Option V)
abbrev VK:=V→Hp→Prop
abbrev TE:=St→Hp→VK→Prop
abbrev TT:=St→Hp→(Bool→Hp→Prop)→Prop
abbrev TA:=St→Hp→(List V→Hp→Prop)→Prop
structure Ends where
 nx:St→Hp→Prop
 rt:VK
 bk:St→Hp→Prop:=fun _ _=>False
 ct:St→Hp→Prop:=fun _ _=>False
abbrev TS:=Ends→St→Hp→Prop
def EP (X:Cx) (pins:List (Addr×Obj)) (σ:St) (Q:VK) (u:Value) (s':Shared):Prop:=∃v H',Inv X pins σ H' s'/\RelV v u/\Q v H'
def TP (X:Cx) (pins:List (Addr×Obj)) (σ:St) (Q:Bool→Hp→Prop) (b:Bool) (s':Shared):Prop:=∃H',Inv X pins σ H' s'/\Q b H'
def AP (X:Cx) (pins:List (Addr×Obj)) (σ:St) (Q:List V→Hp→Prop) (us:List Value) (s':Shared):Prop:=∃vs H',Inv X pins σ H' s'/\Vals vs us/\Q vs H'
def SP (X:Cx) (pins:List (Addr×Obj)) (D:Ends) (f:Flow) (s':Shared):Prop :=
 match f with
 | .next=>∃σ' H',Inv X pins σ' H' s'/\D.nx σ' H'
 | .brk=>∃σ' H',Inv X pins σ' H' s'/\D.bk σ' H'
 | .cont=>∃σ' H',Inv X pins σ' H' s'/\D.ct σ' H'
 | .ret u=>∃v σ' H',Inv X pins σ' H' s'/\RelV v u/\D.rt v H'
def PE (X:Cx) (e:Expr) (t:TE):Prop :=
 ∀(pins:List (Addr×Obj)) (s:Shared) (σ:St) (H:Hp) (Q:VK),Inv X pins σ H s→t σ H Q→wpAny (model X.prog X.w) X.A (eval e X.env) (EP X pins σ Q) X.xe s
def PT (X:Cx) (e:Expr) (t:TT):Prop :=
 ∀(pins:List (Addr×Obj)) (s:Shared) (σ:St) (H:Hp) (Q:Bool→Hp→Prop),Inv X pins σ H s→t σ H Q→wpAny (model X.prog X.w) X.A (isTrue e X.env (eval e X.env)) (TP X pins σ Q) X.xe s
def PW (X:Cx) (e:Expr) (t:TT):Prop :=
 ∀(whole:Sem Value) (pins:List (Addr×Obj)) (s:Shared) (σ:St) (H:Hp) (Q:Bool→Hp→Prop),Inv X pins σ H s→t σ H Q→wpAny (model X.prog X.w) X.A (isTrue e X.env whole) (TP X pins σ Q) X.xe s
theorem PW.pt {X:Cx}{e:Expr}{t:TT}(h:PW X e t):PT X e t:=h _
def PA (X:Cx) (es:List Expr) (t:TA):Prop :=
 ∀(pos:Pos) (pins:List (Addr×Obj)) (s:Shared) (σ:St) (H:Hp) (Q:List V→Hp→Prop),Inv X pins σ H s→t σ H Q→wpAny (model X.prog X.w) X.A (spliced (backTo pos (starEach es X.env))) (AP X pins σ Q) X.xe s
def PS (X:Cx) (st:Stmt) (t:TS):Prop :=
 ∀(pins:List (Addr×Obj)) (s:Shared) (σ:St) (H:Hp) (D:Ends),Inv X pins σ H s→t D σ H→wpAny (model X.prog X.w) X.A (exec st X.env) (SP X pins D) X.xe s
def PSs (X:Cx) (st:List Stmt) (t:TS):Prop :=
 ∀(pins:List (Addr×Obj)) (s:Shared) (σ:St) (H:Hp) (D:Ends),Inv X pins σ H s→t D σ H→wpAny (model X.prog X.w) X.A (execs st X.env) (SP X pins D) X.xe s
theorem thn {α:Type}{t:Sem α}{Q Q':α→Shared→Prop}{M:Model}{A:Around}{E:Value→Shared→Prop}{s:Shared}(h:wpAny M A t Q E s) (hQ:∀a s,Q a s→Q' a s):wpAny M A t Q' E s:=wpAny_mono h hQ fun _ _ x=>x
end L2
namespace L2
open PySem PySem.Spec PyProof.Rows
section
variable {X:Cx}
def Tr (i:Nat):TE:=fun σ H Q=>∃v,σ[i]?=some (some v)/\Q v H
def tC (v:V):TE:=fun _ H Q=>Q v H
theorem Sv {i:Nat}{x:Str}{pos:Pos}(hN:X.N[i]?=some x) (hv:Vis X.env.scope x) (hd:(x==("__debug__" : Str))=false:=by decide) (hcd:(x==("__classdict__" : Str))=false:=by decide):PE X (.Name x pos) (Tr i):=by
 intro pins s σ H Q I h
 obtain ⟨v,e,h⟩:=h
 obtain ⟨m,hn,hl⟩:=I.loc
 obtain ⟨u,r,l⟩:=hl i x v hN e hv
 have fin:EP X pins σ Q u s:=⟨v,H,I,r,h⟩
 rcases l with ⟨hk,hm⟩|⟨hk,c,hc,hcell⟩
 ·exact wpAny_Name (wpAny_loadName_local I.ok.kind hk hn hm fin) hd
 ·rcases hk with hk|hk
  ·exact wpAny_Name (wpAny_loadName_cell I.ok.kind hk hc hcell fin) hd
  ·exact wpAny_Name (wpAny_loadName_free I.ok.kind hk hc hcell fin hcd) hd
theorem AD {i j pos}:PE X (.Constant (.int i) j pos) (tC (.int i)):=fun _ _ _ H _ I h=>wpAny_Constant_int ⟨.int i,H,I.tok _,⟨_,rfl⟩,h⟩
theorem Hs {b j pos}:PE X (.Constant (.bool b) j pos) (tC (.bl b)):=fun _ _ _ H _ I h=>Constant_bool ⟨.bl b,H,I,rfl,h⟩
theorem E8 {j pos}:PE X (.Constant .none j pos) (tC .non):=fun _ _ _ H _ I h=>Constant_none ⟨.non,H,I,rfl,h⟩
theorem Bh {x j pos}:PE X (.Constant (.str x) j pos) (tC (.str x)):=fun _ _ _ H _ I h=>Calls.Constant_str ⟨.str x,H,I.tok _,⟨_,rfl⟩,h⟩
def Gl (X:Cx) (x:Str):Prop:=X.env.kindOf x=some .globalImplicit
theorem IL {E:Value→Shared→Prop}{pins:List (Addr×Obj)}{s:Shared}{σ:St}{H:Hp}{x:Str}{u:Value}{pos:Pos}{Q:Value→Shared→Prop}(I:Inv X pins σ H s) (hg:Gl X x) (hm:X.mg x=some u) (h:Q u s)
  (hd:(x==("__debug__" : Str))=false:=by decide):wpAny (model X.prog X.w) X.A (eval (.Name x pos) X.env) Q E s :=
 Calls.Name_function_global I.ok.kind hg (Calls.loadGlobal_global (by rw [I.ok.glob];exact I.mod.glob.keeps I.bk) hm h) hd
theorem EZ {E:Value→Shared→Prop}{pins:List (Addr×Obj)}{s:Shared}{σ:St}{H:Hp}{x:Str}{u:Value}{pos:Pos}{Q:Value→Shared→Prop}(I:Inv X pins σ H s) (hg:Gl X x) (hm:X.mg x=none) (hv:bootBuiltins x=some u) (h:Q u s)
  (hn:x ≠ "__name__" := by decide) (hd:(x==("__debug__" : Str))=false:=by decide):wpAny (model X.prog X.w) X.A (eval (.Name x pos) X.env) Q E s:=by
 obtain ⟨mb,h1,h2⟩:=I.mod.blt
 exact Calls.Name_function_global I.ok.kind hg (Calls.loadGlobal_builtin (by rw [I.ok.glob];exact I.mod.glob.keeps I.bk) hm (by rw [I.ok.blt];exact h1.keeps I.bk) ((h2 x hn).trans hv) h) hd
theorem RR {x:Str}{v:V}{u:Value}{pos:Pos}(hg:Gl X x) (hm:X.mg x=some u) (r:RelV v u) (hd:(x==("__debug__" : Str))=false:=by decide):PE X (.Name x pos) (tC v) :=
 fun _ _ _ H _ I h=>IL I hg hm ⟨v,H,I,r,h⟩ hd
theorem IJ {x:Str}{v:V}{u:Value}{pos:Pos}(hg:Gl X x) (hm:X.mg x=none) (hv:bootBuiltins x=some u) (r:RelV v u) (hn:x ≠ "__name__" := by decide) (hd:(x==("__debug__" : Str))=false:=by decide):PE X (.Name x pos) (tC v) :=
 fun _ _ _ H _ I h=>EZ I hg hm hv ⟨v,H,I,r,h⟩ hn hd
variable {a b:Expr}{ta tb:TE}{pos:Pos}
def PC (X:Cx) (op:CmpOp) (a b:Expr) (t:TE):Prop :=
 ∀(pins:List (Addr×Obj)) (s:Shared) (σ:St) (H:Hp) (Q:VK),Inv X pins σ H s→t σ H Q →
  wpAny (model X.prog X.w) X.A (eval a X.env) (fun v s₁=>wpAny (model X.prog X.w) X.A (eval b X.env) (fun u s₂=>wpAny (model X.prog X.w) X.A (compareOp op v u) (EP X pins σ Q) X.xe s₂) X.xe s₁) X.xe s
def tB (t:TE):TT:=fun σ H Q=>t σ H fun x H1=>∃c,x=.bl c/\Q c H1
theorem DG {e:Expr}{t:TE}(h:PE X e t) (he:∀whole,isTrue e X.env whole=(do let v ← whole;standAt e.pos;holding [v] (truthy v)):=by intro _;rfl):PT X e (tB t):=by
 intro pins s σ H Q I hw
 refine isTrue_plain (thn (h pins s σ H _ I hw) fun v s1 ⟨x,H1,I1,r1,q1⟩=>?_) (he _)
 obtain ⟨d,rfl,q⟩:=q1
 cases r1
 exact wpAny_truthy_bool ⟨H1,I1,q⟩
variable {tA tB':TT}{rest:List Expr}
def Uo (t u:TT):TT:=fun σ H Q=>t σ H fun c H1=>if c=true then u σ H1 Q else Q false H1
def tOr (t u:TT):TT:=fun σ H Q=>t σ H fun c H1=>if c=true then Q true H1 else u σ H1 Q
def Uh (t:TT):TT:=fun σ H Q=>t σ H fun c H1=>Q (!c) H1
theorem NT (ha:PT X a tA):PW X (.BoolOp .And [a] pos) tA:=by
 intro wh pins s σ H Q I h
 refine isTrue_and (thn (ha pins s σ H Q I h) fun c s1 e=>?_)
 cases c with
 | true=>exact isTrue_and_nil e
 | false=>exact e
theorem G4 (ha:PT X a tA):PW X (.BoolOp .Or [a] pos) tA:=by
 intro wh pins s σ H Q I h
 refine isTrue_or (thn (ha pins s σ H Q I h) fun c s1 e=>?_)
 cases c with
 | false=>exact isTrue_or_nil e
 | true=>exact e
theorem Pb (ha:PT X a tA) (hb:PW X (.BoolOp .And (b::rest) pos) tB'):PW X (.BoolOp .And (a::b::rest) pos) (Uo tA tB'):=by
 intro wh pins s σ H Q I h
 refine isTrue_and (thn (ha pins s σ H _ I h) fun c s1 ⟨H1,I1,q1⟩=>?_)
 cases c with
 | true=>exact hb wh pins s1 σ H1 Q I1 q1
 | false=>exact ⟨H1,I1,q1⟩
theorem Iz (ha:PT X a tA) (hb:PW X (.BoolOp .Or (b::rest) pos) tB'):PW X (.BoolOp .Or (a::b::rest) pos) (tOr tA tB'):=by
 intro wh pins s σ H Q I h
 refine isTrue_or (thn (ha pins s σ H _ I h) fun c s1 ⟨H1,I1,q1⟩=>?_)
 cases c with
 | true=>exact ⟨H1,I1,q1⟩
 | false=>exact hb wh pins s1 σ H1 Q I1 q1
theorem ES (ha:PT X a tA):PT X (.UnaryOp .Not a pos) (Uh tA):=by
 intro pins s σ H Q I h
 exact isTrue_not (ha pins s σ H (fun c H1=>Q (!c) H1) I h)
def T7 (ta tb:TE):TE:=fun σ H Q=>ta σ H fun x H1=>∃c,x=.bl c/\if c=true then tb σ H1 Q else Q (.bl false) H1
def Ug (ta tb:TE):TE:=fun σ H Q=>ta σ H fun x H1=>∃c,x=.bl c/\if c=true then Q (.bl true) H1 else tb σ H1 Q
theorem Ph {op}{t:TE}(h:PE X a t):PE X (.BoolOp op [a] pos) t:=fun pins s σ H Q I hw=>BoolOp_one (h pins s σ H Q I hw)
theorem Sw (ha:PE X a ta) (hb:PE X (.BoolOp .And (b::rest) pos) tb):PE X (.BoolOp .And (a::b::rest) pos) (T7 ta tb):=by
 intro pins s σ H Q I h
 refine BoolOp_and (thn (ha pins s σ H _ I h) fun v s1 ⟨x,H1,I1,r1,q1⟩=>?_)
 obtain ⟨c,rfl,q1⟩:=q1
 cases r1
 refine wpAny_truthy_bool ?_
 cases c with
 | true=>exact hb pins s1 σ H1 Q I1 q1
 | false=>exact ⟨.bl false,H1,I1,rfl,q1⟩
theorem UK (ha:PE X a ta) (hb:PE X (.BoolOp .Or (b::rest) pos) tb):PE X (.BoolOp .Or (a::b::rest) pos) (Ug ta tb):=by
 intro pins s σ H Q I h
 refine BoolOp_or (thn (ha pins s σ H _ I h) fun v s1 ⟨x,H1,I1,r1,q1⟩=>?_)
 obtain ⟨c,rfl,q1⟩:=q1
 cases r1
 refine wpAny_truthy_bool ?_
 cases c with
 | false=>exact hb pins s1 σ H1 Q I1 q1
 | true=>exact ⟨.bl true,H1,I1,rfl,q1⟩
def tIf (t:TT) (ta tb:TE):TE:=fun σ H Q=>t σ H fun c H1=>if c=true then ta σ H1 Q else tb σ H1 Q
theorem Pj {c:Expr}(hc:PT X c tA) (ha:PE X a ta) (hb:PE X b tb):PE X (.IfExp c a b pos) (tIf tA ta tb):=by
 intro pins s σ H Q I h
 refine wpAny_IfExp (thn (hc pins s σ H _ I h) fun d s1 ⟨H1,I1,q1⟩=>?_)
 cases d with
 | true=>exact ha pins s1 σ H1 Q I1 q1
 | false=>exact hb pins s1 σ H1 Q I1 q1
end
end L2
namespace L2
open PySem PySem.Spec PyProof.Rows
def SqL (K:PySem.W.Frag) (H:Hp) (a:Addr) (xs:List V):Prop :=
 Rd H a (.lst xs) \/
  ∃(o:Obj) (its:Array Value) (n:Nat),K.lookup a=some o/\o.cls=.type "list" /\ o.dict=none/\o.data=.seq its n/\its.size≤sizeLine/\Vals xs its.toList
def SqT (K:PySem.W.Frag) (H:Hp) (a:Addr) (xs:List V):Prop :=
 Rd H a (.tup xs) \/
  ∃(o:Obj) (its:Array Value) (n:Nat),K.lookup a=some o/\o.cls=.type "tuple" /\ o.data=.seq its n/\its.size≤sizeLine/\Vals xs its.toList
def U4:Value→Option V
 | .none=>some .non
 | .bool b=>some (.bl b)
 | .int i _=>some (.int i)
 | .str x _=>some (.str x)
 | .bytes b _=>some (.byt b)
 | .float b _=>some (.flt b)
 | .ref a=>some (.ref a)
 | .type n=>some (.ty n)
 | _=>none
theorem RelV.abs {x:V}{u:Value}(r:RelV x u):U4 u=some x:=by
 cases x with
 | non=>cases r;rfl
 | bl _=>cases r;rfl
 | int _=>obtain ⟨t,rfl⟩:=r;rfl
 | str _=>obtain ⟨t,rfl⟩:=r;rfl
 | byt _=>obtain ⟨t,rfl⟩:=r;rfl
 | flt _=>obtain ⟨t,rfl⟩:=r;rfl
 | ref _=>cases r;rfl
 | ty _=>cases r;rfl
theorem RelV.inj {x y:V}{u:Value}(r:RelV x u) (q:RelV y u):x=y:=Option.some.inj (r.abs.symm.trans q.abs)
theorem Vals.inj:∀{xs ys:List V}{us:List Value},Vals xs us→Vals ys us→xs=ys
 | _,_,_,.nil,.nil=>rfl
 | _,_,_,.cons r t,.cons r' t'=>by rw [r.inj r',Vals.inj t t']
section
variable {X:Cx}{pins:List (Addr×Obj)}{σ:St}{H:Hp}{s:Shared}{a:Addr}{xs ys:List V}
theorem SqL.of {K:PySem.W.Frag}(h:H a=some (.lst xs)):SqL K H a xs:=.inl (.inl h)
theorem SqT.of {K:PySem.W.Frag}(h:H a=some (.tup xs)):SqT K H a xs:=.inl (.inl h)
theorem Inv.list (I:Inv X pins σ H s) (h:SqL X.K H a xs):∃its:List Value,Vals xs its/\PlainL s.heap a its.toArray/\xs.length≤sizeLine:=by
 rcases h with h|⟨o,its,n,hk,hc,hd,hs,hz,r⟩
 ·obtain ⟨z,its,n,r,e⟩:=h.ok I.hok
  exact ⟨its,r,⟨_,n,e,rfl,rfl,rfl⟩,z⟩
 ·refine ⟨its.toList,r,⟨o,n,I.kIn a o hk,hc,hd,by simpa using hs⟩,?_⟩
  have e:=r.length
  simp only [Array.length_toList] at e
  omega
theorem Inv.tuple (I:Inv X pins σ H s) (h:SqT X.K H a xs):∃its:List Value,Vals xs its/\IsTup s.heap a its.toArray/\xs.length≤sizeLine:=by
 rcases h with h|⟨o,its,n,hk,hc,hs,hz,r⟩
 ·obtain ⟨z,its,r,p⟩:=h.ok I.hok
  exact ⟨its,r,p,z⟩
 ·refine ⟨its.toList,r,⟨o,I.kIn a o hk,hc,n,by simpa using hs⟩,?_⟩
  have e:=r.length
  simp only [Array.length_toList] at e
  omega
theorem Inv.QK (I:Inv X pins σ H s) (h:SqL X.K H a xs) (h':SqL X.K H a ys):xs=ys:=by
 obtain ⟨its,r,⟨o,n,e,_,_,d⟩,_⟩:=I.list h
 obtain ⟨its',r',⟨o',n',e',_,_,d'⟩,_⟩:=I.list h'
 rw [e] at e';cases e'
 rw [d] at d'
 injection d' with d1 _
 have:its=its':=by simpa using congrArg Array.toList d1
 subst this
 exact r.inj r'
end
abbrev Cx.Jj (X:Cx) (E:Value→Shared→Prop):Cx:={ X with xe:=E }
abbrev Cx.nox (X:Cx):Cx:=X.Jj fun _ _=>False
theorem Cx.Ok.Jj {X:Cx}(ok:X.Ok) (E:Value→Shared→Prop):(X.Jj E).Ok :=
 ⟨ok.mod,ok.kind,ok.glob,ok.blt,ok.above,ok.inj,ok.has,ok.cab,ok.hd,ok.frames,ok.stk,ok.exf,ok.bs,ok.bsz,ok.OQ,ok.Oh,ok.F7,ok.frf⟩
theorem Cx.Ok.Ez {X:Cx}{E:Value→Shared→Prop}(ok:(X.Jj E).Ok):X.Ok :=
 ⟨ok.mod,ok.kind,ok.glob,ok.blt,ok.above,ok.inj,ok.has,ok.cab,ok.hd,ok.frames,ok.stk,ok.exf,ok.bs,ok.bsz,ok.OQ,ok.Oh,ok.F7,ok.frf⟩
section
variable {X:Cx}{pins:List (Addr×Obj)}{σ:St}{H:Hp}{s:Shared}{E:Value→Shared→Prop}
theorem Inv.Jj (I:Inv X pins σ H s) (E:Value→Shared→Prop):Inv (X.Jj E) pins σ H s:=⟨I.ok.Jj E,I.os,I.bare,I.base,I.loc,I.cell,I.free,I.Eu,I.pin,I.hok,I.len⟩
theorem Inv.Ez (I:Inv (X.Jj E) pins σ H s):Inv X pins σ H s:=⟨I.ok.Ez,I.os,I.bare,I.base,I.loc,I.cell,I.free,I.Eu,I.pin,I.hok,I.len⟩
theorem SP.Ez {D:Ends}{f:Flow}{s':Shared}(h:SP (X.Jj E) pins D f s'):SP X pins D f s':=by
 cases f with
 | next=>obtain ⟨σ',H',I,q⟩:=h;exact ⟨σ',H',I.Ez,q⟩
 | brk=>obtain ⟨σ',H',I,q⟩:=h;exact ⟨σ',H',I.Ez,q⟩
 | cont=>obtain ⟨σ',H',I,q⟩:=h;exact ⟨σ',H',I.Ez,q⟩
 | ret u=>obtain ⟨v,σ',H',I,r,q⟩:=h;exact ⟨v,σ',H',I.Ez,r,q⟩
theorem PSs.nox {st:List Stmt}{t:TS}(h:PSs X.nox st t):PSs X st t:=fun pins s σ H D I hw =>
 wpAny_mono (h pins s σ H D (I.Jj _) hw) (fun _ _ q=>q.Ez) fun _ _ z=>False.elim z
end
section
variable {X:Cx}{st:Stmt}{rest:List Stmt}{t u:TS}{e:Expr}{te:TE}{pos:Pos}
def Tv:TS:=fun D σ H=>D.nx σ H
def Ud (t u:TS):TS:=fun D σ H=>t { D with nx:=u D } σ H
theorem A4:PSs X [] Tv:=fun _ _ σ H _ I h=>wpAny_execs_nil ⟨σ,H,I,h⟩
theorem AO (h1:PS X st t) (h2:PSs X rest u):PSs X (st::rest) (Ud t u):=by
 intro pins s σ H D I h
 refine wpAny_execs_cons (thn (h1 pins s σ H { D with nx:=u D } I h) fun f s1 q=>?_)
 cases f with
 | next =>
  obtain ⟨σ',H',I',q⟩:=q
  exact h2 pins s1 σ' H' D I' q
 | ret v=>exact q
 | brk=>exact q
 | cont=>exact q
theorem AJ (h1:PS X st t):PSs X [st] t:=by
 intro pins s σ H D I h
 refine wpAny_execs_cons (thn (h1 pins s σ H D I h) fun f s1 q=>?_)
 cases f with
 | next=>exact wpAny_execs_nil q
 | ret v=>exact q
 | brk=>exact q
 | cont=>exact q
theorem Inv.quiet {pins:List (Addr×Obj)}{σ:St}{H:Hp}{s:Shared}(I:Inv X pins σ H s):interactive X.env=false:=by simp [interactive,I.ok.kind]
def T2 (te:TE):TS:=fun D σ H=>te σ H fun _ H1=>D.nx σ H1
theorem Bu (he:PE X e te) (hs:swapsWith e none pos.line X.env=pure false:=by rfl):PS X (.Expr e pos) (T2 te):=by
 intro pins s σ H D I h
 exact wpAny_Expr_any (thn (he pins s σ H _ I h) fun v s1 ⟨x,H1,I1,r1,q1⟩=>⟨σ,H1,I1,q1⟩) I.quiet hs
def Ue (te:TE):TS:=fun D σ H=>te σ H D.rt
theorem Ae (he:PE X e te):PS X (.Return (some e) pos) (Ue te):=by
 intro pins s σ H D I h
 exact wpAny_Return_some (thn (he pins s σ H _ I h) fun v s1 ⟨x,H1,I1,r1,q1⟩=>⟨x,σ,H1,I1,r1,q1⟩)
def Uk (c:TT) (t u:TS):TS:=fun D σ H=>c σ H fun b H1=>if b=true then t D σ H1 else u D σ H1
theorem Be {c:Expr}{a b:List Stmt}{tc:TT}(hc:PT X c tc) (ha:PSs X a t) (hb:PSs X b u):PS X (.If c a b pos) (Uk tc t u):=by
 intro pins s σ H D I h
 refine wpAny_If (thn (hc pins s σ H _ I h) fun d s1 ⟨H1,I1,q1⟩=>?_)
 cases d with
 | true=>exact ha pins s1 σ H1 D I1 q1
 | false=>exact hb pins s1 σ H1 D I1 q1
end
abbrev TG:=V→St→Hp→(St→Hp→Prop)→Prop
abbrev TGs:=List V→St→Hp→(St→Hp→Prop)→Prop
def PG (X:Cx) (target:Expr) (t:TG):Prop :=
 ∀(pins:List (Addr×Obj)) (s:Shared) (σ:St) (H:Hp) (v:V) (u:Value) (Q:St→Hp→Prop),Inv X pins σ H s→RelV v u→t v σ H Q →
  wpAny (model X.prog X.w) X.A (assign target X.env u) (fun _ s'=>∃σ' H',Inv X pins σ' H' s'/\Q σ' H') X.xe s
def PGs (X:Cx) (ts:List Expr) (t:TGs):Prop :=
 ∀(pins:List (Addr×Obj)) (s:Shared) (σ:St) (H:Hp) (vs:List V) (us:List Value) (Q:St→Hp→Prop),Inv X pins σ H s→Vals vs us→t vs σ H Q →
  wpAny (model X.prog X.w) X.A (assignInOrder ((assignEach ts X.env).map (·.2)) us) (fun _ s'=>∃σ' H',Inv X pins σ' H' s'/\Q σ' H') X.xe s
section
variable {X:Cx}{pos:Pos}
def KL (i:Nat):TG:=fun v σ H Q=>Q (σ.set i (some v)) H
theorem BM {i:Nat}{x:Str}(hN:X.N.Nodup) (hi:X.N[i]?=some x) (hx:Loc X.env.scope x) (hf:X.fn x=true\/X.env.scope.names.lookup x=some .local:=by first|exact .inl rfl|exact .inr rfl|assumption):PG X (.Name x pos) (KL i):=by
 intro pins s σ H v u Q I r h
 exact wpAny_assign_Name (LP I hN hi hx r (fun s' I'=>⟨_,H,I',h⟩) hf)
def U3:TGs:=fun vs σ H Q=>vs=[]/\Q σ H
def UU (t:TG) (u:TGs):TGs:=fun vs σ H Q=>∃v r,vs=v::r/\t v σ H fun σ' H'=>u r σ' H' Q
theorem Kp:PGs X [] U3:=by
 intro pins s σ H vs us Q I r h
 obtain ⟨e,h⟩:=h
 subst e
 cases r
 exact assignInOrder_nil ⟨σ,H,I,h⟩
theorem C4 {e:Expr}{es:List Expr}{t:TG}{u:TGs}(h1:PG X e t) (h2:PGs X es u)
  (hs:(assignEach (e::es) X.env).map (·.2)=assign e X.env::(assignEach es X.env).map (·.2):=by rfl):PGs X (e::es) (UU t u):=by
 intro pins s σ H vs us Q I r h
 obtain ⟨v,vr,e1,h⟩:=h
 subst e1
 cases r with
 | cons r rr =>
  rw [hs]
  refine assignInOrder_cons (thn (h1 pins s σ H _ _ _ I r h) fun _ s1 ⟨σ1,H1,I1,q1⟩=>?_)
  exact h2 pins s1 σ1 H1 _ _ Q I1 rr q1
def U2 (K:PySem.W.Frag) (n:Nat) (t:TGs):TG:=fun v σ H Q=>∃a xs,v=.ref a/\SqT K H a xs/\xs.length=n/\t xs σ H Q
theorem Mg {es:List Expr}{k:Nat}{t:TGs}{n:Nat}(hc:X.calm=true) (h:PGs X es t)
  (hn:(assignEach es X.env).length=n:=by rfl) (hst:(assignEach es X.env).findIdx? (·.1)=none:=by rfl):PG X (.Tuple es k pos) (U2 X.K n t):=by
 intro pins s σ H v u Q I r hw
 obtain ⟨a,xs,e1,hq,hl,hw⟩:=hw
 subst e1
 cases r
 obtain ⟨its,rv,ht,hz⟩:=I.tuple hq
 refine assign_Tuple_tuple (I.ok.hd hc) ht (by simp [hn,←hl,rv.length]) hst fun h' hx=>?_
 have I1:Inv X pins σ H { s with heap:=h' }:=I.kept (t':=s.toks) fun b o e=>hx b o (Nat.ne_of_lt (Heap.lt_size e)) e
 exact h pins _ σ H xs _ Q I1 (by simpa using rv) hw
def Sg (te:TE) (g:TG):TS:=fun D σ H=>te σ H fun x H1=>g x σ H1 D.nx
theorem AX {i:Nat}{x:Str}{e:Expr}{te:TE}{pos':Pos}(hN:X.N.Nodup) (hi:X.N[i]?=some x) (hx:Loc X.env.scope x) (he:PE X e te) (hs:swapsWith e (some (.Name x pos')) pos.line X.env=pure false:=by rfl) (hf:X.fn x=true\/X.env.scope.names.lookup x=some .local:=by first|exact .inl rfl|exact .inr rfl|assumption) :
  PS X (.Assign [.Name x pos'] e pos) (Sg te (KL i)):=by
 intro pins s σ H D I h
 refine wpAny_Assign_Name (thn (he pins s σ H _ I h) fun v s1 ⟨y,H1,I1,r1,q1⟩=>?_) hs
 exact LP I1 hN hi hx r1 (fun s2 I2=>⟨_,H1,I2,q1⟩) hf
end
section
variable {X:Cx}{pos:Pos}
def O5 (c:TT) (tb:TS):TS:=fun D σ H=>∃W:Nat→St→Hp→Prop,(∃m,W m σ H)/\∀m σ H,W m σ H →
 c σ H fun b H1=>if b=true then ∃N:St→Hp→Prop,(∀σ' H',N σ' H'→∃m',m'<m/\W m' σ' H')/\tb { D with nx:=N,ct:=N,bk:=D.nx } σ H1 else D.nx σ H1
theorem Le {c:Expr}{body:List Stmt}{tc:TT}{tb:TS}(hp:PassesOwn (model X.prog X.w) X.A X.env X.xe) (hc:PT X c tc) (hb:PSs X body tb):PS X (.While c body [] pos) (O5 tc tb):=by
 intro pins s σ H D I h
 obtain ⟨W,⟨m0,w0⟩,turn⟩:=h
 refine wpAny_While (codeAny_whileLoop (fun n s'=>∃σ' H',Inv X pins σ' H' s'/\W n σ' H') ?_ m0 ⟨σ,H,I,w0⟩)
 rintro n s1 ⟨σ1,H1,I1,w1⟩
 refine wpAny_passesOwn hp (thn (hc pins s1 σ1 H1 _ I1 (turn n σ1 H1 w1)) fun b s2 ⟨H2,I2,q2⟩=>?_)
 cases b with
 | true =>
  obtain ⟨N,hN,q2⟩:=q2
  rw [if_pos rfl]
  refine wpAny_passesOwn hp (thn (hb pins s2 σ1 H2 _ I2 q2) fun f s3 q3=>?_)
  cases f with
  | next =>
   obtain ⟨σ3,H3,I3,n3⟩:=q3
   obtain ⟨m',hm,w3⟩:=hN σ3 H3 n3
   exact ⟨m',hm,σ3,H3,I3,w3⟩
  | cont =>
   obtain ⟨σ3,H3,I3,n3⟩:=q3
   obtain ⟨m',hm,w3⟩:=hN σ3 H3 n3
   exact ⟨m',hm,σ3,H3,I3,w3⟩
  | brk=>exact q3
  | ret v=>exact q3
 | false =>
  rw [if_neg Bool.false_ne_true]
  exact wpAny_execs_nil ⟨σ1,H2,I2,q2⟩
end
structure It where
 go:Nat→Hp→Prop
 yld:Nat→Hp→V→Hp→Prop
 stop:Nat→Hp→Prop
def IH (X:Cx) (pins:List (Addr×Obj)) (H:Hp) (b:Addr):Prop :=
 H b=none/\b≠X.env.locals/\b∉X.fs/\(b∈X.ex\/X.s₀.heap.objs.size≤b)/\(∀x c,X.env.cells.lookup x=some c→c≠b)/\∀p∈X.pn++pins,p.1≠b
theorem Inv.Rw {X:Cx}{pins:List (Addr×Obj)}{σ:St}{H H':Hp}{s:Shared}{b:Addr}(I:Inv X pins σ H s) (hb:s.heap.objs.size≤b) (hn:H' b=none):IH X pins H' b:=by
 refine ⟨hn,Nat.ne_of_gt (Nat.lt_of_lt_of_le I.lt hb),I.Ux hb,.inr (Nat.le_trans I.sz hb),fun x c e z=>?_,fun p hp z=>?_⟩
 ·obtain ⟨v,q⟩:=I.cell x c e
  exact absurd (Nat.lt_of_lt_of_le q.lt (by rw [z];exact hb)) (Nat.lt_irrefl _)
 ·exact absurd (Nat.lt_of_lt_of_le (Heap.lt_size (I.pin p hp).1) (by rw [z];exact hb)) (Nat.lt_irrefl _)
structure Turn (P:Program) (w:World) (K:PySem.W.Frag) (tg:Expr) (J:It) (fp:List Addr) (it:Addr) (tn:Nat→Heap→Prop):Prop where
 mem:it∈fp
 obj:∀i h,tn i h→∀b∈fp,∃o,h.get? b=some o/\∀v,o.data≠.cell v
 keep:∀i h h',tn i h→(∀b∈fp,∀o,h.get? b=some o→h'.get? b=some o)→tn i h'
 item:∀(X:Cx),X.prog=P→X.w=w→X.K=K→X.calm=true→∀(i:Nat) (pins:List (Addr×Obj)) (s:Shared) (σ:St) (H:Hp) (E:Value→Shared→Prop),Inv X pins σ H s→(∀b∈fp,IH X pins H b)→tn i s.heap→J.go i H →
  wpAny (model P w) X.A (pyNext (.ref it)) (fun r s1=>∃u,r=some u /\
   wpAny (model P w) X.A (letOwnedTupleGo tg (.ref it) u) (fun _ s2=>∃x H',Inv X pins σ H' s2/\RelV x u/\J.yld i H x H'/\tn (i+1) s2.heap/\∀b∈fp,H' b=none) E s1) E s
 done:∀(X:Cx),X.prog=P→X.w=w→X.K=K→X.calm=true→∀(i:Nat) (pins:List (Addr×Obj)) (s:Shared) (σ:St) (H:Hp) (E:Value→Shared→Prop),Inv X pins σ H s→(∀b∈fp,IH X pins H b)→tn i s.heap→J.stop i H →
  wpAny (model P w) X.A (pyNext (.ref it)) (fun r s1=>r=none/\Inv X pins σ H s1) E s
 self:∀(A:Around) (i:Nat) (s:Shared) (Q:Value→Shared→Prop) (E:Value→Shared→Prop),tn i s.heap→Q (.ref it) s→wpAny (model P w) A (pyIter (.ref it)) Q E s
abbrev TI:=St→Hp→(It→Hp→Prop)→Prop
def PIE (X:Cx) (pins:List (Addr×Obj)) (σ:St) (tg:Expr) (R:It→Hp→Prop) (itv:Value) (s2:Shared):Prop :=
 ∃(it:Addr) (fp:List Addr) (tn:Nat→Heap→Prop) (J:It) (H':Hp),itv=.ref it/\Inv X pins σ H' s2/\Turn X.prog X.w X.K tg J fp it tn/\tn 0 s2.heap/\(∀b∈fp,IH X pins H' b)/\R J H'
def PI (X:Cx) (tg iter:Expr) (wi:TI):Prop :=
 ∀(pins:List (Addr×Obj)) (s:Shared) (σ:St) (H:Hp) (R:It→Hp→Prop),Inv X pins σ H s→wi σ H R →
  wpAny (model X.prog X.w) X.A (eval iter X.env) (fun v s1=>wpAny (model X.prog X.w) X.A (pyIter v) (PIE X pins σ tg R) X.xe s1) X.xe s
theorem SS {M:Model}{A:Around}{E:Value→Shared→Prop}{s:Shared}{tg:Expr}{it:Addr}{u:Value}{o:Obj}{n:String}{vs:Array Value}{Q:Unit→Shared→Prop}(ho:s.heap.get? it=some o) (hc:o.cls=.type n) (hd:o.data=.fields vs)
    (hn:["enumerate", "zip", "dict_itemiterator", "dict_reverseitemiterator", "odict_iterator", "itertools.zip_longest", "itertools.pairwise"].contains n=false) (hQ:Q () s):wpAny M A (letOwnedTupleGo tg (.ref it) u) Q E s:=by
  unfold letOwnedTupleGo
  cases tg <;> first
    | exact wpAny_pure hQ
    | (cases u <;> first
        | exact wpAny_pure hQ
        | (refine wpAny_bind (wpAny_load ho ?_)
           rw [hc,hd]
           show wpAny M A (if (["enumerate", "zip", "dict_itemiterator", "dict_reverseitemiterator", "odict_iterator", "itertools.zip_longest", "itertools.pairwise"].contains n&&vs[0]?==some (rawInt _))=true then _ else _) Q E s
           rw [if_neg (by intro h;rw [hn,Bool.false_and] at h;cases h)]
           exact wpAny_pure hQ))
def Itl (K:PySem.W.Frag) (a:Addr):It :=
 ⟨fun i H=>∃xs x,SqL K H a xs/\xs[i]?=some x,fun i H x H'=>H'=H/\∀xs,SqL K H a xs→xs[i]?=some x,fun i H=>∃xs,SqL K H a xs/\xs.length≤i⟩
def Itr (lo:Int) (n:Nat):It:=⟨fun i _=>i<n,fun i H x H'=>H'=H/\x=.int (lo+i),fun i _=>n≤i⟩
theorem N0 {P:Program}{w:World}{K:PySem.W.Frag}{tg:Expr}(a it:Addr):Turn P w K tg (Itl K a) [it] it (fun i h=>h.IsListIter it a i) where
 mem:=by simp
 obj:=fun i h st b hb=>by
  have e:b=it:=by simpa using hb
  subst e
  obtain ⟨o,e,c,d⟩:=st
  exact ⟨o,e,fun v z=>by rw [d] at z;cases z⟩
 keep:=fun i h h' st k=>st.at fun o e=>k it (by simp) o e
 item:=by
  intro X hP hw hK hc i pins s σ H E I hf st hg
  subst hP hw hK
  obtain ⟨xs,x,hq,hx⟩:=hg
  obtain ⟨its,rv,p,hz⟩:=I.list hq
  obtain ⟨u,hu,ru⟩:=rv.get hx
  obtain ⟨f0,f1,f2,f3,f4,f5⟩:=hf it (by simp)
  refine wpAny_pyNext_list_item st p.isList (x:=u) (by simpa using hu) fun h' st' sb=>?_
  have I1:Inv X pins σ H { s with heap:=h' }:=I.turned (t':=s.toks) (fun b o hb e=>(sb.2 b hb).trans e) f0 f1 f3 f4 f5
  obtain ⟨o,e,c,d⟩:=id st'
  exact ⟨u,rfl,SS (s:={ s with heap:=h' }) e c d (by decide) ⟨x,H,I1,ru,⟨rfl,fun ys hy=>by rw [I.QK hy hq];exact hx⟩,st',fun b hb=>(hf b hb).1⟩⟩
 done:=by
  intro X hP hw hK hc i pins s σ H E I hf st hg
  subst hP hw hK
  obtain ⟨xs,hq,hx⟩:=hg
  obtain ⟨its,rv,p,hz⟩:=I.list hq
  obtain ⟨f0,f1,f2,f3,f4,f5⟩:=hf it (by simp)
  have hl:=rv.length
  exact wpAny_pyNext_list_end (I.ok.hd hc) st p.isList (by simp;omega) fun h' eb=>⟨rfl,I.turned (t':=s.toks) (fun b o hb e=>eb b o hb e) f0 f1 f3 f4 f5⟩
 self:=fun _ _ _ _ _ st h=>wpAny_pyIter_listiter st h
theorem MS {P:Program}{w:World}{K:PySem.W.Frag}{tg:Expr}(it:Addr) (lo:Int) (n:Nat):Turn P w K tg (Itr lo n) [it] it (fun i h=>IsRangeIter h it (lo+(i:Nat) * 1) ((n:Int)-(i:Nat)) 1) where
 mem:=by simp
 obj:=fun i h st b hb=>by
  have e:b=it:=by simpa using hb
  subst e
  exact ⟨_,st,fun v z=>by
   have z':Data.fields _=Data.cell v:=z
   cases z'⟩
 keep:=fun i h h' st k=>k it (by simp) _ st
 item:=by
  intro X hP hw hK hc i pins s σ H E I hf st hg
  subst hP hw hK
  obtain ⟨f0,f1,f2,f3,f4,f5⟩:=hf it (by simp)
  have W:=Walks.range (prog:=X.prog) (w:=X.w) (I.ok.hd hc) it lo 1 n
  refine W.item i s _ _ hg st fun v h' tk hv st' kk=>?_
  obtain ⟨t,rfl⟩:=hv
  have I1:Inv X pins σ H { s with heap:=h',toks:=tk }:=I.turned (fun b o hb e=>kk b o (by simpa using hb) e) f0 f1 f3 f4 f5
  refine ⟨_,rfl,SS (s:={ s with heap:=h',toks:=tk }) (n := "range_iterator") st' rfl rfl (by decide) ⟨.int (lo+i),H,I1,⟨t,?_⟩,⟨rfl,rfl⟩,st',fun b hb=>(hf b hb).1⟩⟩
  rw [Int.mul_one]
 done:=by
  intro X hP hw hK hc i pins s σ H E I hf st hg
  subst hP hw hK
  obtain ⟨f0,f1,f2,f3,f4,f5⟩:=hf it (by simp)
  exact wpAny_pyNext_range_end (I.ok.hd hc) st (by have:n≤i:=hg;omega) fun h' eb=>⟨rfl,I.turned (t':=s.toks) (fun b o hb e=>eb b o hb e) f0 f1 f3 f4 f5⟩
 self:=fun _ _ _ _ _ st h=>wpAny_pyIter_rangeiter st h
end L2
namespace L2
open PySem PySem.Spec PyProof.Rows
section
variable {X:Cx}{tg:Expr}
def SR (K:PySem.W.Frag) (tl:TE):TI:=fun σ H R=>tl σ H fun x H1=>∃a,x=.ref a/\(∃xs,SqL K H1 a xs)/\R (Itl K a) H1
theorem RP {l:Expr}{tl:TE}(hl:PE X l tl):PI X tg l (SR X.K tl):=by
 intro pins s σ H R I h
 refine thn (hl pins s σ H _ I h) fun v s1 ⟨x,H1,I1,r1,q1⟩=>?_
 obtain ⟨a,e,⟨xs,hq⟩,q⟩:=q1
 subst e
 cases r1
 obtain ⟨its,rv,p,hz⟩:=I1.list hq
 refine wpAny_pyIter_list p.isList ?_
 refine ⟨s1.heap.objs.size,[s1.heap.objs.size],_,_,H1,rfl,I1.kept (t':=s1.toks) fun b o e=>Heap.get?_push_of_some _ e,N0 a _,⟨_,Heap.get?_push_size _ rfl,rfl,rfl⟩,fun b hb=>?_,q⟩
 have e:b=s1.heap.objs.size:=by simpa using hb
 subst e
 exact I1.Rw (Nat.le_refl _) (I1.hok.fresh (Nat.le_refl _))
theorem PU {pins:List (Addr×Obj)}{σ:St}{H:Hp}{s:Shared}{R:It→Hp→Prop}{E:Value→Shared→Prop}{lo hi:Int}{t u v:Tok}{tk:Nat}(I:Inv X pins σ H s) (h1:-(2 ^ 62)≤lo) (h2:lo<2 ^ 62) (h3:-(2 ^ 62)≤hi) (h4:hi<2 ^ 62)
  (q:R (Itr lo (hi-lo).toNat) H):wpAny (model X.prog X.w) X.A (pyIter (.ref s.heap.objs.size)) (PIE X pins σ tg R) E { s with heap:=s.heap.push { cls:=.type "range", data:=.fields #[.int lo t,.int hi u,.int 1 v] },toks:=tk }:=by
 refine wpAny_pyIter_range (IsRange.new ..) (small_one h1 h2 h3 h4) ?_
 have I1:Inv X pins σ H { s with heap:=s.heap.push { cls:=.type "range", data:=.fields #[.int lo t,.int hi u,.int 1 v] },toks:=tk }:=I.kept fun b o e=>Heap.get?_push_of_some _ e
 refine ⟨(s.heap.push { cls:=.type "range", data:=.fields #[.int lo t,.int hi u,.int 1 v] }).objs.size,[(s.heap.push { cls:=.type "range", data:=.fields #[.int lo t,.int hi u,.int 1 v] }).objs.size],_,_,H,rfl,
  I1.kept (t':=tk) fun b o e=>Heap.get?_push_of_some _ e,MS _ lo (hi-lo).toNat,?_,fun b hb=>?_,q⟩
 ·have e1:lo+((0:Nat):Int) * 1=lo:=by simp
  have e2:(((hi-lo).toNat:Nat):Int)-((0:Nat):Int)=Builtin.Range.rangeSize lo hi 1:=by rw [rangeSize_one];split <;> omega
  show IsRangeIter _ _ (lo+((0:Nat):Int) * 1) ((((hi-lo).toNat:Nat):Int)-((0:Nat):Int)) 1
  rw [e1,e2]
  exact Heap.get?_push_size _ rfl
 ·have e:b=(s.heap.push { cls:=.type "range", data:=.fields #[.int lo t,.int hi u,.int 1 v] }).objs.size:=by simpa using hb
  subst e
  exact I1.Rw (Nat.le_refl _) (I1.hok.fresh (Nat.le_refl _))
def US (ta:TA):TI:=fun σ H R=>ta σ H fun vs H1=>∃j:Int,vs=[.int j]/\-(2 ^ 62)≤j/\j<2 ^ 62/\R (Itr 0 j.toNat) H1
theorem J9 {a:Expr}{ta:TA}{p pos:Pos}(hg:Gl X "range") (hm:X.mg "range" = none) (ha:PA X [a] ta) (hs:starEach [a] X.env=[(false,eval a X.env)]:=by rfl):PI X tg (.Call (.Name "range" p) [a] [] pos) (US ta):=by
 intro pins s σ H R I h
 refine Call_ (EZ I hg hm boot_range (PyProof.Rows.callWith_type1 (thn (ha pos pins s σ H _ I h) fun us s1 ⟨vs,H1,I1,r1,q1⟩=>?_) hs rfl))
 obtain ⟨j,e,q1,q2,q⟩:=q1
 subst e
 cases r1 with
 | cons r rr =>
  cases rr
  obtain ⟨t,rfl⟩:=r
  exact call_range_1 (PU I1 (by omega) (by omega) q1 q2 (by simpa using q))
def Ul (wi:TI) (g:TG) (tb:TS):TS:=fun D σ H=>wi σ H fun J H1=>∃W:Nat→Nat→St→Hp→Prop,(∃m,W 0 m σ H1)/\∀i m σ H,W i m σ H →
 (J.stop i H/\D.nx σ H)\/(J.go i H/\∃N:St→Hp→Prop,(∀σ' H',N σ' H'→∃m',m'<m/\W (i+1) m' σ' H')/\∀x H',J.yld i H x H'→g x σ H' fun σ2 H2=>tb { D with nx:=N,ct:=N,bk:=D.nx } σ2 H2)
def G5 (fp:List Addr) (h:Heap):List (Addr×Obj):=fp.filterMap fun b=>(h.get? b).map fun o=>(b,o)
theorem EW {fp:List Addr}{h:Heap}{b:Addr}{o:Obj}(hb:b∈fp) (e:h.get? b=some o):(b,o)∈G5 fp h:=List.mem_filterMap.mpr ⟨b,hb,by rw [e];rfl⟩
theorem OP {fp:List Addr}{h:Heap}{p:Addr×Obj}(hp:p∈G5 fp h):p.1∈fp/\h.get? p.1=some p.2:=by
 obtain ⟨b,hb,e⟩:=List.mem_filterMap.mp hp
 cases q:h.get? b with
 | none=>rw [q] at e;cases e
 | some o =>
  rw [q] at e
  have e':(b,o)=p:=Option.some.inj e
  subst e'
  exact ⟨hb,q⟩
theorem Inv.pinned {pins:List (Addr×Obj)}{σ:St}{H:Hp}{s:Shared}{fp:List Addr}(I:Inv X pins σ H s) (hf:∀b∈fp,IH X pins H b) (ho:∀b∈fp,∃o,s.heap.get? b=some o/\∀v,o.data≠.cell v):Inv X (pins++G5 fp s.heap) σ H s :=
 I.CZ fun p hp=>(List.mem_append.mp hp).elim (fun z=>I.pin p (List.mem_append_right _ z)) fun z=>by
  obtain ⟨hb,e⟩:=OP z
  obtain ⟨f0,f1,f2,_⟩:=hf p.1 hb
  obtain ⟨o,e',d⟩:=ho p.1 hb
  rw [e] at e';cases e'
  exact ⟨e,f0,f1,f2,d⟩
theorem Inv.IZ {pins pl:List (Addr×Obj)}{σ:St}{H:Hp}{s:Shared}(I:Inv X (pins++pl) σ H s):Inv X pins σ H s:=I.CZ fun p hp=>I.pin p (List.mem_append_right _ (List.mem_append_left _ hp))
theorem Dq {iter:Expr}{body:List Stmt}{wi:TI}{g:TG}{tb:TS}{pos:Pos}(hp:PassesOwn (model X.prog X.w) X.A X.env X.xe) (hc:X.calm=true) (hi:PI X tg iter wi) (hg:PG X tg g) (hb:PSs X body tb)
  (hs:∀x,foldedSetIterable iter X.env x=pure x:=by intro _;rfl):PS X (.For tg iter body [] pos) (Ul wi g tb):=by
 intro pins s σ H D I h
 refine wpAny_For (thn (hi pins s σ H _ I h) fun v s1 h1=>thn h1 fun itv s2 h2=>?_) hs
 obtain ⟨it,fp,tn,J,H2,e,I2,T,st2,f2,W,⟨m0,w0⟩,turn⟩:=h2
 subst e
 have stat:∀{H':Hp},(∀b∈fp,H' b=none)→∀b∈fp,IH X pins H' b:=fun hn b hb=>⟨hn b hb,(f2 b hb).2⟩
 refine codeAny_forLoop_any (fun n s'=>∃i σ' H',Inv X pins σ' H' s'/\tn i s'.heap/\(∀b∈fp,H' b=none)/\W i n σ' H') ?_ m0 ⟨0,σ,H2,I2,st2,fun b hb=>(f2 b hb).1,w0⟩
 rintro n s3 ⟨i,σ3,H3,I3,st3,fr3,w3⟩
 rcases turn i n σ3 H3 w3 with ⟨stop,qn⟩|⟨go,N,hN,step⟩
 ·refine wpAny_passesOwn hp (thn (T.done X rfl rfl rfl hc i pins s3 σ3 H3 X.xe I3 (stat fr3) st3 stop) fun r s4 ⟨hr,I4⟩=>?_)
  subst hr
  exact wpAny_execs_nil ⟨σ3,H3,I4,qn⟩
 ·refine wpAny_passesOwn hp (thn (T.item X rfl rfl rfl hc i pins s3 σ3 H3 X.xe I3 (stat fr3) st3 go) fun r s4 ⟨u,hr,h4⟩=>?_)
  subst hr
  refine wpAny_passesOwn hp (thn h4 fun _ s5 ⟨x,H5,I5,r5,y5,st5,fr5⟩=>?_)
  have I5':=I5.pinned (stat fr5) (T.obj _ _ st5)
  refine wpAny_passesOwn hp (thn (hg _ s5 σ3 H5 x u _ I5' r5 (step x H5 y5)) fun _ s6 ⟨σ6,H6,I6,q6⟩=>?_)
  refine wpAny_passesOwn hp (thn (hb _ s6 σ6 H6 _ I6 q6) fun f s7 q7=>?_)
  have again:∀{σ7:St} {H7:Hp},Inv X (pins++G5 fp s5.heap) σ7 H7 s7→N σ7 H7→∃m,m<n/\∃i σ' H',Inv X pins σ' H' s7/\tn i s7.heap/\(∀b∈fp,H' b=none)/\W i m σ' H':=fun {σ7 H7} I7 n7=>by
   obtain ⟨m',hm,w7⟩:=hN σ7 H7 n7
   refine ⟨m',hm,i+1,σ7,H7,I7.IZ,T.keep _ _ _ st5 fun b hb o e=>(I7.pin (b,o) (List.mem_append_right _ (List.mem_append_right _ (EW hb e)))).1,fun b hb=>?_,w7⟩
   obtain ⟨o,e,d⟩:=T.obj _ _ st5 b hb
   exact (I7.pin (b,o) (List.mem_append_right _ (List.mem_append_right _ (EW hb e)))).2.1
  cases f with
  | next=>obtain ⟨σ7,H7,I7,n7⟩:=q7;exact again I7 n7
  | cont=>obtain ⟨σ7,H7,I7,n7⟩:=q7;exact again I7 n7
  | brk=>obtain ⟨σ7,H7,I7,q7⟩:=q7;exact ⟨σ7,H7,I7.IZ,q7⟩
  | ret v=>obtain ⟨x7,σ7,H7,I7,r7,q7⟩:=q7;exact ⟨x7,σ7,H7,I7.IZ,r7,q7⟩
end
theorem B8 {K:PySem.W.Frag}{a:Addr}{xs:List V}{g:TG}{tb:TS}{D:Ends}{σ:St}{H:Hp}(Pv:Nat→St→Hp→Prop) (h0:Pv 0 σ H) (hl:∀i σ H,i≤xs.length→Pv i σ H→SqL K H a xs)
  (hs:∀i x σ H,xs[i]?=some x→Pv i σ H→g x σ H fun σ2 H2=>tb { D with nx:=Pv (i+1),ct:=Pv (i+1),bk:=D.nx } σ2 H2) (hd:∀σ H,Pv xs.length σ H→D.nx σ H) :
  ∃W:Nat→Nat→St→Hp→Prop,(∃m,W 0 m σ H)/\∀i m σ H,W i m σ H →
   ((Itl K a).stop i H/\D.nx σ H)\/((Itl K a).go i H/\∃N:St→Hp→Prop,(∀σ' H',N σ' H'→∃m',m'<m/\W (i+1) m' σ' H')/\∀x H',(Itl K a).yld i H x H'→g x σ H' fun σ2 H2=>tb { D with nx:=N,ct:=N,bk:=D.nx } σ2 H2):=by
 refine ⟨fun i m σ H=>m=xs.length-i/\i≤xs.length/\Pv i σ H,⟨xs.length,by simp,Nat.zero_le _,h0⟩,?_⟩
 rintro i m σ H ⟨rfl,hi,p⟩
 have q:=hl i σ H hi p
 by_cases hlt:i<xs.length
 ·refine .inr ⟨⟨xs,xs[i],q,by simp [hlt]⟩,Pv (i+1),fun σ' H' p'=>⟨xs.length-(i+1),by omega,rfl,hlt,p'⟩,fun x H' y=>?_⟩
  obtain ⟨e,y⟩:=y
  subst e
  exact hs i x σ _ (y xs q) p
 ·have e:i=xs.length:=by omega
  subst e
  exact .inl ⟨⟨xs,q,Nat.le_refl _⟩,hd σ H p⟩
theorem LF {c:TT}{tb:TS}{D:Ends}{σ:St}{H:Hp}(Pv:St→Hp→Prop) (μ:St→Hp→Nat) (h0:Pv σ H)
  (hs:∀σ H,Pv σ H→c σ H fun b H1=>if b=true then tb { D with nx:=fun σ' H'=>Pv σ' H'/\μ σ' H' < μ σ H,ct:=fun σ' H'=>Pv σ' H'/\μ σ' H' < μ σ H,bk:=D.nx } σ H1 else D.nx σ H1)
  (mono:∀σ H Q Q',(∀b H1,Q b H1→Q' b H1)→c σ H Q→c σ H Q'):O5 c tb D σ H:=by
 refine ⟨fun m σ H=>m=μ σ H/\Pv σ H,⟨_,rfl,h0⟩,?_⟩
 rintro m σ H ⟨rfl,p⟩
 refine mono σ H _ _ (fun b H1 q=>?_) (hs σ H p)
 cases b with
 | true=>exact ⟨_,fun σ' H' ⟨p',l⟩=>⟨_,l,rfl,p'⟩,q⟩
 | false=>exact q
end L2
namespace L2
open PySem PySem.Spec PyProof.Rows
abbrev R2:=V→V→Hp→VK→Prop
def OpR (X:Cx) (f:Value→Value→Sem Value) (r:R2):Prop :=
 ∀(pins:List (Addr×Obj)) (s:Shared) (σ:St) (H:Hp) (x y:V) (v u:Value) (Q:VK),Inv X pins σ H s→RelV x v→RelV y u→r x y H Q →
  wpAny (model X.prog X.w) X.A (f v u) (EP X pins σ Q) X.xe s
def UnR (X:Cx) (f:Value→Sem Value) (r:V→Hp→VK→Prop):Prop :=
 ∀(pins:List (Addr×Obj)) (s:Shared) (σ:St) (H:Hp) (x:V) (v:Value) (Q:VK),Inv X pins σ H s→RelV x v→r x H Q →
  wpAny (model X.prog X.w) X.A (f v) (EP X pins σ Q) X.xe s
def Cg (X:Cx) (f:Value) (r:List V→Hp→VK→Prop):Prop :=
 ∀(pins:List (Addr×Obj)) (s:Shared) (σ:St) (H:Hp) (xs:List V) (us:List Value) (Q:VK),Inv X pins σ H s→Vals xs us→r xs H Q →
  wpAny (model X.prog X.w) X.A (call f us) (EP X pins σ Q) X.xe s
def U6 (X:Cx) (r:V→Hp→(Bool→Hp→Prop)→Prop):Prop :=
 ∀(pins:List (Addr×Obj)) (s:Shared) (σ:St) (H:Hp) (x:V) (v:Value) (Q:Bool→Hp→Prop),Inv X pins σ H s→RelV x v→r x H Q →
  wpAny (model X.prog X.w) X.A (truthy v) (TP X pins σ Q) X.xe s
def tOp (r:R2) (ta tb:TE):TE:=fun σ H Q=>ta σ H fun x H1=>tb σ H1 fun y H2=>r x y H2 Q
def tUn (r:V→Hp→VK→Prop) (ta:TE):TE:=fun σ H Q=>ta σ H fun x H1=>r x H1 Q
def rI (C:Int→Int→Prop) (g:Int→Int→V):R2:=fun x y H Q=>∃i j,x=.int i/\y=.int j/\C i j/\Q (g i j) H
def rI0 (g:Int→Int→V):R2:=fun x y H Q=>∃i j,x=.int i/\y=.int j/\Q (g i j) H
def rU (g:Int→V):V→Hp→VK→Prop:=fun x H Q=>∃i,x=.int i/\Q (g i) H
section
variable {X:Cx}{a b c:Expr}{ta tb tc:TE}{pos:Pos}
theorem Th (ha:PE X a ta) (hb:PE X b tb) {pins:List (Addr×Obj)}{s:Shared}{σ:St}{H:Hp}{R:V→V→Hp→Prop}(I:Inv X pins σ H s)
  (h:ta σ H fun x H1=>tb σ H1 fun y H2=>R x y H2) {Q:Value→Shared→Prop} {f:Value→Value→Sem Value}
  (hf:∀v u s2 x y H2,Inv X pins σ H2 s2→RelV x v→RelV y u→R x y H2→wpAny (model X.prog X.w) X.A (f v u) Q X.xe s2) :
  wpAny (model X.prog X.w) X.A (eval a X.env) (fun v s₁=>wpAny (model X.prog X.w) X.A (eval b X.env) (fun u s₂=>wpAny (model X.prog X.w) X.A (f v u) Q X.xe s₂) X.xe s₁) X.xe s:=by
 refine thn (ha pins s σ H _ I h) fun v s1 ⟨x,H1,I1,r1,q1⟩=>?_
 refine thn (hb pins s1 σ H1 _ I1 q1) fun u s2 ⟨y,H2,I2,r2,q2⟩=>?_
 exact hf v u s2 x y H2 I2 r1 r2 q2
theorem AL {op:Operator}{r:R2}(ho:OpR X (binaryOp op) r) (ha:PE X a ta) (hb:PE X b tb):PE X (.BinOp a op b pos) (tOp r ta tb):=by
 intro pins s σ H Q I h
 exact wpAny_BinOp (Th ha hb I h fun v u s2 x y H2 I2 rx ry q=>ho pins s2 σ H2 x y v u Q I2 rx ry q)
theorem JD {op:UnaryOp}{r:V→Hp→VK→Prop}(ho:UnR X (unaryOp op) r) (ha:PE X a ta):PE X (.UnaryOp op a pos) (tUn r ta):=by
 intro pins s σ H Q I h
 exact UnaryOp_ (thn (ha pins s σ H _ I h) fun v s1 ⟨x,H1,I1,r1,q1⟩=>ho pins s1 σ H1 x v Q I1 r1 q1)
theorem opI {f:Value→Value→Sem Value}{C:Int→Int→Prop}{g:Int→Int→Int}
  (rule:∀(i j:Int) (t u:Tok) (s:Shared) (Q:Value→Shared→Prop) (E:Value→Shared→Prop),C i j→Q (.int (g i j) s.toks) { s with toks:=s.toks+1 }→wpAny (model X.prog X.w) X.A (f (.int i t) (.int j u)) Q E s) :
  OpR X f (rI C fun i j=>.int (g i j)):=by
 intro pins s σ H x y v u Q I rx ry h
 obtain ⟨i,j,rfl,rfl,hc,q⟩:=h
 obtain ⟨t,rfl⟩:=rx
 obtain ⟨t',rfl⟩:=ry
 exact rule i j t t' s _ _ hc ⟨.int (g i j),H,I.tok _,⟨_,rfl⟩,q⟩
theorem UM {f:Value→Value→Sem Value}{g:Int→Int→Int}
  (rule:∀(i j:Int) (t u:Tok) (s:Shared) (Q:Value→Shared→Prop) (E:Value→Shared→Prop),Q (.int (g i j) s.toks) { s with toks:=s.toks+1 }→wpAny (model X.prog X.w) X.A (f (.int i t) (.int j u)) Q E s) :
  OpR X f (rI0 fun i j=>.int (g i j)):=by
 intro pins s σ H x y v u Q I rx ry h
 obtain ⟨i,j,rfl,rfl,q⟩:=h
 obtain ⟨t,rfl⟩:=rx
 obtain ⟨t',rfl⟩:=ry
 exact rule i j t t' s _ _ ⟨.int (g i j),H,I.tok _,⟨_,rfl⟩,q⟩
theorem S1 {f:Value→Value→Sem Value}{g:Int→Int→Bool}
  (rule:∀(i j:Int) (t u:Tok) (s:Shared) (Q:Value→Shared→Prop) (E:Value→Shared→Prop),Q (.bool (g i j)) s→wpAny (model X.prog X.w) X.A (f (.int i t) (.int j u)) Q E s) :
  OpR X f (rI0 fun i j=>.bl (g i j)):=by
 intro pins s σ H x y v u Q I rx ry h
 obtain ⟨i,j,rfl,rfl,q⟩:=h
 obtain ⟨t,rfl⟩:=rx
 obtain ⟨t',rfl⟩:=ry
 exact rule i j t t' s _ _ ⟨.bl (g i j),H,I,rfl,q⟩
def VA (i j:Int):Prop:=0<j/\j<1073741824
def U9 (i j:Int):Prop:=0≤j/\j≤1000000/\i.natAbs<2 ^ 64
def Tn (i j:Int):Prop:=(-(2 ^ 64)<i/\i<2 ^ 64)\/(-(2 ^ 64)<j/\j<2 ^ 64)
theorem Tn.ok {i j:Int}(h:Tn i j):IntMulOk i j:=by
 rcases h with ⟨h1,h2⟩|⟨h1,h2⟩
 ·exact .of_left (intBits_le_64 h1 h2)
 ·exact .of_right (intBits_le_64 h1 h2)
theorem BF:OpR X (binaryOp .Add) (rI0 fun i j=>.int (i+j)):=UM fun _ _ _ _ _ _ _ q=>add_int q
theorem C8:OpR X (binaryOp .Sub) (rI0 fun i j=>.int (i-j)):=UM fun _ _ _ _ _ _ _ q=>sub_int q
theorem F0:OpR X (binaryOp .Mult) (rI Tn fun i j=>.int (i * j)):=opI fun _ _ _ _ _ _ _ hc q=>mul_int q hc.ok
theorem Aq:OpR X (binaryOp .FloorDiv) (rI VA fun i j=>.int (i / j)):=opI fun i j _ _ _ _ _ hc q=>by
 have h1:(0:Int)<j:=hc.1
 have h2:j<1073741824:=hc.2
 exact floordiv_int (by omega) (by rw [Int.fdiv_eq_ediv_of_nonneg i (by omega)];exact q) (.inl (PyProof.noPylong_small (by omega)))
theorem Ap:OpR X (binaryOp .Mod) (rI (fun _ j=>0<j) fun i j=>.int (i % j)):=opI fun i j _ _ _ _ _ hc q=>by
 have h1:(0:Int)<j:=hc
 exact mod_int' (by omega) (by rw [Int.fmod_eq_emod_of_nonneg i (by omega)];exact q)
theorem Sx:OpR X (binaryOp .Pow) (rI U9 fun i j=>.int (i ^ j.toNat)):=opI fun _ _ _ _ _ _ _ hc q=>pow_int_small hc.1 hc.2.1 hc.2.2 q
theorem unI {f:Value→Sem Value}{g:Int→Int}
  (rule:∀(i:Int) (t:Tok) (s:Shared) (Q:Value→Shared→Prop) (E:Value→Shared→Prop),Q (.int (g i) s.toks) { s with toks:=s.toks+1 }→wpAny (model X.prog X.w) X.A (f (.int i t)) Q E s) :
  UnR X f (rU fun i=>.int (g i)):=by
 intro pins s σ H x v Q I rx h
 obtain ⟨i,rfl,q⟩:=h
 obtain ⟨t,rfl⟩:=rx
 exact rule i t s _ _ ⟨.int (g i),H,I.tok _,⟨_,rfl⟩,q⟩
theorem Fp:UnR X (unaryOp .USub) (rU fun i=>.int (-i)):=unI fun _ _ _ _ _ q=>neg_int q
end
def Ur:V→V→Bool
 | .non,.non=>true|.non,.int _=>true|.int _,.non=>true|.non,.bl _=>true|.bl _,.non=>true|.non,.str _=>true|.str _,.non=>true
 | .int _,.int _=>true|.bl _,.bl _=>true|.str _,.str _=>true|.byt _,.byt _=>true
 | .int _,.str _=>true|.str _,.int _=>true|.bl _,.str _=>true|.str _,.bl _=>true
 | _,_=>false
def rEq:R2:=fun x y H Q=>Ur x y=true/\Q (.bl (decide (x=y))) H
theorem Rz {i j:Int}:decide (V.int i=V.int j)=(i==j):=by
 rw [Bool.eq_iff_iff]
 simp
theorem Te {i j:Bool}:decide (V.bl i=V.bl j)=(i==j):=by
 rw [Bool.eq_iff_iff]
 simp
theorem Ry {i j:Str}:decide (V.str i=V.str j)=(i==j):=by
 rw [Bool.eq_iff_iff]
 simp
theorem R3 {i j:Array UInt8}:decide (V.byt i=V.byt j)=(i.toList==j.toList):=by
 rw [Bool.eq_iff_iff]
 cases i
 cases j
 simp
section
variable {X:Cx}{a b c:Expr}{ta tb tc:TE}{pos:Pos}
theorem Bm {pins:List (Addr×Obj)}{σ:St}{H:Hp}{s:Shared}{Q:VK}{k k':Bool}(I:Inv X pins σ H s) (q:Q (.bl k) H) (e:k=k'):EP X pins σ Q (.bool k') s:=by
 subst e
 exact ⟨.bl k,H,I,rfl,q⟩
theorem C5:OpR X (compareOp .Eq) rEq:=by
 intro pins s σ H x y v u Q I rx ry h
 obtain ⟨hs,q⟩:=h
 cases x with
 | non =>
  cases rx
  cases y with
  | non=>cases ry;exact PySem.EqNone.eq_none_none (Bm I q (by simp))
  | bl j=>cases ry;exact PySem.EqNone.eq_none_bool (Bm I q (by simp))
  | int j=>obtain ⟨t',rfl⟩:=ry;exact PySem.EqNone.eq_none_int (Bm I q (by simp))
  | str j=>obtain ⟨t',rfl⟩:=ry;exact PySem.EqNone.eq_none_str (Bm I q (by simp))
  | _=>exact absurd (show false=true from hs) Bool.false_ne_true
 | bl i =>
  cases rx
  cases y with
  | non=>cases ry;exact PySem.EqNone.eq_bool_none (Bm I q (by simp))
  | bl j=>cases ry;exact eq_bool (Bm I q Te)
  | str j=>obtain ⟨t',rfl⟩:=ry;exact PySem.EqMixed.eq_bool_str (Bm I q (by simp))
  | _=>exact absurd (show false=true from hs) Bool.false_ne_true
 | int i =>
  obtain ⟨t,rfl⟩:=rx
  cases y with
  | non=>cases ry;exact PySem.EqNone.eq_int_none (Bm I q (by simp))
  | int j=>obtain ⟨t',rfl⟩:=ry;exact eq_int (Bm I q Rz)
  | str j=>obtain ⟨t',rfl⟩:=ry;exact PySem.EqMixed.eq_int_str (Bm I q (by simp))
  | _=>exact absurd (show false=true from hs) Bool.false_ne_true
 | str i =>
  obtain ⟨t,rfl⟩:=rx
  cases y with
  | non=>cases ry;exact PySem.EqNone.eq_str_none (Bm I q (by simp))
  | bl j=>cases ry;exact PySem.EqMixed.eq_str_bool (Bm I q (by simp))
  | int j=>obtain ⟨t',rfl⟩:=ry;exact PySem.EqMixed.eq_str_int (Bm I q (by simp))
  | str j=>obtain ⟨t',rfl⟩:=ry;exact eq_str (Bm I q Ry)
  | _=>exact absurd (show false=true from hs) Bool.false_ne_true
 | byt i =>
  obtain ⟨t,rfl⟩:=rx
  cases y with
  | byt j=>obtain ⟨t',rfl⟩:=ry;exact PySem.W.eq_bytes (Bm I q R3)
  | _=>exact absurd (show false=true from hs) Bool.false_ne_true
 | _=>cases y <;> exact absurd (show false=true from hs) Bool.false_ne_true
theorem Pq:OpR X (compareOp .Lt) (rI0 fun i j=>.bl (decide (i<j))):=S1 fun _ _ _ _ _ _ _ q=>lt_int q
theorem NY:OpR X (compareOp .LtE) (rI0 fun i j=>.bl (decide (i≤j))):=S1 fun _ _ _ _ _ _ _ q=>le_int q
theorem Lm:OpR X (compareOp .Gt) (rI0 fun i j=>.bl (decide (j<i))):=S1 fun _ _ _ _ _ _ _ q=>gt_int q
theorem Sz:OpR X (compareOp .Is) (fun x y H Q=>y=.non/\Q (.bl (decide (x=.non))) H):=by
 intro pins s σ H x y v u Q I rx ry h
 obtain ⟨rfl,q⟩:=h
 cases ry
 refine is_none_gen (Bm I q ?_)
 cases x <;> first
  | (cases rx;rfl)
  | (obtain ⟨t,rfl⟩:=rx;rfl)
theorem RV:OpR X (compareOp .IsNot) (fun x y H Q=>y=.non/\Q (.bl (!decide (x=.non))) H):=by
 intro pins s σ H x y v u Q I rx ry h
 obtain ⟨rfl,q⟩:=h
 cases ry
 refine isnot_none_gen (Bm I q ?_)
 cases x <;> first
  | (cases rx;rfl)
  | (obtain ⟨t,rfl⟩:=rx;rfl)
theorem Ak (b:Expr) {op:CmpOp}(h:op≠.In:=by decide) (h2:op≠.NotIn:=by decide):behindInMarks op b=false:=by
 have e1:(op==CmpOp.In)=false:=by cases op <;> first|rfl|exact absurd rfl h
 have e2:(op==CmpOp.NotIn)=false:=by cases op <;> first|rfl|exact absurd rfl h2
 cases b <;> simp [behindInMarks,e1,e2]
theorem EU {op:CmpOp}{r:R2}(ho:OpR X (compareOp op) r) (ha:PE X a ta) (hb:PE X b tb) (hm:behindInMarks op b=false):PE X (.Compare a [op] [b] pos) (tOp r ta tb):=by
 intro pins s σ H Q I h
 exact wpAny_Compare1 (Th ha hb I h fun v u s2 x y H2 I2 rx ry q=>ho pins s2 σ H2 x y v u Q I2 rx ry q) hm
def Ts (t:TE):TT:=fun σ H Q=>t σ H fun x H'=>∃k,x=.bl k/\Q k H'
theorem Ah {op:CmpOp}{r:R2}(ho:OpR X (compareOp op) r) (ha:PE X a ta) (hb:PE X b tb) (hm:behindInMarks op b=false):PT X (.Compare a [op] [b] pos) (Ts (tOp r ta tb)):=by
 intro pins s σ H Q I h
 refine wpAny_isTrue_Compare1 (thn (ha pins s σ H _ I h) fun v s1 ⟨x,H1,I1,r1,q1⟩=>thn (hb pins s1 σ H1 _ I1 q1) fun u s2 ⟨y,H2,I2,r2,q2⟩ =>
  thn (ho pins s2 σ H2 x y v u _ I2 r1 r2 q2) fun c s3 ⟨z,H3,I3,r3,k,e,q3⟩=>?_) hm
 subst e
 cases r3
 exact wpAny_truthy_bool ⟨H3,I3,q3⟩
theorem Ku:(sizeLine:Nat)<2 ^ 63:=by rw [sizeLine_eq];decide
theorem F1:OpR X (binaryOp .Add) (fun x y H Q=>∃i j,x=.str i/\y=.str j/\i.length+j.length≤sizeLine/\Q (.str (i++j)) H):=by
 intro pins s σ H x y v u Q I rx ry h
 obtain ⟨i,j,rfl,rfl,hz,q⟩:=h
 obtain ⟨t,rfl⟩:=rx
 obtain ⟨t',rfl⟩:=ry
 exact add_str (fun t' tk=>⟨.str (i++j),H,I.tok _,⟨_,rfl⟩,q⟩) hz
theorem vals1 {x:V}{us:List Value}(r:Vals [x] us):∃u,us=[u]/\RelV x u:=by
 cases r with
 | cons r1 r2=>cases r2;exact ⟨_,rfl,r1⟩
theorem vals2 {x y:V}{us:List Value}(r:Vals [x,y] us):∃u w',us=[u,w']/\RelV x u/\RelV y w':=by
 cases r with
 | cons r1 r2 =>
  cases r2 with
  | cons r3 r4=>cases r4;exact ⟨_,_,rfl,r1,r3⟩
theorem HS (hc:X.calm=true):Cg X (.builtin "max") (fun xs H Q=>∃i j,xs=[.int i,.int j]/\Q (.int (if j > i then j else i)) H):=by
 intro pins s σ H xs us Q I r h
 obtain ⟨i,j,rfl,q⟩:=h
 obtain ⟨u,w',rfl,⟨t,rfl⟩,⟨t',rfl⟩⟩:=vals2 r
 refine max_two_ints (I.ok.hd hc) fun h' tk k=>⟨_,H,I.kept k,?_,q⟩
 by_cases hj:j > i
 ·rw [if_pos hj,if_pos hj];exact ⟨_,rfl⟩
 ·rw [if_neg hj,if_neg hj];exact ⟨_,rfl⟩
theorem Fd (hc:X.calm=true):Cg X (.builtin "min") (fun xs H Q=>∃i j,xs=[.int i,.int j]/\Q (.int (if j<i then j else i)) H):=by
 intro pins s σ H xs us Q I r h
 obtain ⟨i,j,rfl,q⟩:=h
 obtain ⟨u,w',rfl,⟨t,rfl⟩,⟨t',rfl⟩⟩:=vals2 r
 refine min_two_ints (I.ok.hd hc) fun h' tk k=>⟨_,H,I.kept k,?_,q⟩
 by_cases hj:j<i
 ·rw [if_pos hj,if_pos hj];exact ⟨_,rfl⟩
 ·rw [if_neg hj,if_neg hj];exact ⟨_,rfl⟩
end
end L2
namespace L2
open PySem PySem.Spec PyProof.Rows
structure NM (h:Heap) (x dx C:Addr) (mA:Str→Option Value):Prop where
 obj:h.get? x=some (PySem.W.instObj C dx)
 ns:h.Ns1 dx mA
 ne:dx≠x
theorem OU {h:Heap}{dx:Addr}{mA:Str→Option Value}(n:h.Ns1 dx mA):∃od,h.get? dx=some od/\∀name,PySem.W.lookIn name od=some (mA name):=by
 obtain ⟨o,es,ep,ho,hd,hk,_,hm⟩:=n
 refine ⟨o,ho,fun name=>?_⟩
 have e:=hm name
 unfold nsFind findBy at e
 rw [←Array.find?_toList] at e
 unfold PySem.W.lookIn
 rw [hd]
 dsimp only
 split
 ·rename_i y q
  rw [q] at e
  exact congrArg some e
 ·rename_i q
  rw [q] at e
  have a:es.toList.any (·.refKey)=false:=by
   rw [List.any_eq_false]
   intro y hy
   obtain ⟨z,t,hkey⟩:=hk y (Array.mem_toList_iff.mp hy)
   simp [DictEntry.refKey,hkey]
  have a':¬ es.toList.any (·.refKey)=true:=by rw [a];exact Bool.false_ne_true
  rw [if_neg a']
  exact congrArg some e
theorem NM.look {h:Heap}{x dx C:Addr}{mA:Str→Option Value}(I:NM h x dx C mA):∃od,PySem.W.InstAt h x (PySem.W.instObj C dx) C (some od)/\∀name,PySem.W.lookIn name od=some (mA name) :=
 let ⟨od,ho,hl⟩:=OU I.ns
 ⟨od,⟨I.obj,rfl,rfl,ho⟩,hl⟩
section
variable {prog:Program}{w:World}{A:Around}{E:Value→Shared→Prop}{s:Shared}{K:PySem.W.Frag}{x dx C f:Addr}{mA:Str→Option Value}{name:Str}{v:Value}
theorem get_map {expr:Bool}{Q:Value→Shared→Prop}(X:K.In s.heap) (I:NM s.heap x dx C mA) (hg:PySem.W.plainGet K C name=true) (hh:PySem.W.hasDictIn K C=true)
  (ha:PySem.W.findIn K (.ref C) name=some none) (hv:mA name=some v) (hv':PySem.W.handedIn v=true) (h:Q v { s with toks:=s.toks+1 }) :
  wpAny (model prog w) A (getAttr (.ref x) name expr) Q E s:=by
 obtain ⟨od,J,hl⟩:=I.look
 exact PySem.W.get_value X J (PySem.W.plainGet_of hg).1 (PySem.W.findObj_own hh ha rfl (by rw [hl,hv])) hv' h
theorem QU {pl:Sem Bool}{Q:Value×List Value→Shared→Prop}(X:K.In s.heap) (I:NM s.heap x dx C mA) (hg:PySem.W.plainGet K C name=true)
  (hf:PySem.W.findIn K (.ref C) name=some (some (.ref f))) (ht:PySem.W.isFn K (.ref f)=true) (hv:mA name=none) (h:Q (.ref f,[.ref x]) s) :
  wpAny (model prog w) A (getMethod (.ref x) name pl) Q E s:=by
 obtain ⟨od,J,hl⟩:=I.look
 exact PySem.W.method_fn X J (PySem.W.plainGet_of hg).1 (PySem.W.plainGet_of hg).2 hf (beq_iff_eq.mp ht) (by show (PySem.W.lookIn name od).map (·.isSome)=some false;rw [hl,hv];rfl) h
theorem RD {ns:List Str}{Q:Unit→Shared→Prop}(X:K.In s.heap) (I:NM s.heap x dx C mA)
  (hs:PySem.W.findIn K (.ref C) "__setattr__" = some (some (.builtin "object.__setattr__"))) (hp:PySem.W.plainOver K C=true) (ht:PySem.W.takerIn K C name=some none) (hh:PySem.W.hasDictIn K C=true)
  (hw:PySem.Within mA ns) (hsz:ns.length≤sizeLine)
  (h:∀h',NM h' x dx C (fun y=>if y=name then some v else mA y)→Heap.SameBut dx s.heap h'→Q () { s with heap:=h',toks:=s.toks+2 }) :
  wpAny (model prog w) A (setAttr (.ref x) name v) Q E s:=by
 obtain ⟨od,J,hl⟩:=I.look
 refine PySem.W.set_plain X J hs (PySem.W.osa_open (s:={ s with toks:=s.toks+1 }) (r:=none) X J hp ht fun b=>?_)
 obtain ⟨cd,hc,hd'⟩:=PySem.W.any_some hh
 have hx:s.heap.get? x=some ⟨.ref C,some dx,.plain,#[]⟩:=I.obj
 refine wpAny_bind (wpAny_pure (wpAny_bind (wpAny_bind (wpAny_loadPart hx (wpAny_bind (PySem.W.Looks.here (s:={ s with toks:=s.toks+1 }) (PySem.W.looks_clsIn X hc) ?_))))))
 rw [hd']
 refine wpAny_pure (a:=some dx) (wpAny_bind (wpAny_pure (wpAny_bind ?_)))
 refine wpAny_nsSet1 (s:={ s with toks:=s.toks+1 }) I.ns fun h' hn2 hs2=>?_
 obtain ⟨oD,esD,epD,hoD,hdD,hcD⟩:=hn2.count (PySem.Within.cons name v hw)
 refine wpAny_bind (wpAny_lookBehind hoD (by rw [hdD];exact pastItsLine_dict (Nat.le_trans hcD (by rw [List.length_cons];omega))) ?_)
 exact wpAny_pure (h _ ⟨(hs2.2 _ (Ne.symm I.ne)).trans I.obj,hn2,I.ne⟩ hs2)
theorem QD {R:Result→Shared→Prop}{vs:List Value}{kw:List (Str×Value)}(X:K.In s.heap) (hm:PySem.W.makesIn K C=true)
  (hi:PySem.W.findIn K (.ref C) "__init__" = some (some (.ref f))) (hf:PySem.W.typeIn K (.ref f)=some (.type "function"))
  (h:codeAny (model prog w) (A.under (.builtin "type.__call__" ⟨.ref C::vs,kw⟩)) (.call (.ref f) ⟨.ref (s.heap.objs.size+1)::vs,kw⟩) (PySem.W.InitBack (s.heap.objs.size+1) R)
   { s with heap:=(s.heap.push PySem.W.emptyDict).push (PySem.W.instObj C s.heap.objs.size) }) :
  codeAny (model prog w) A (.call (.ref C) ⟨vs,kw⟩) R s:=by
 obtain ⟨hh,g,d,t,os⟩:=s
 exact PySem.W.make_core (PySem.W.makes_of X hm) (PySem.W.looks_findIn X hi) (fun self=>PySem.W.bind_fn X self hf) (.inl rfl) h
end
def Fe (f:Str) (v:V):List (Str×V)→List (Str×V)
 | []=>[(f,v)]
 | (g,x)::r=>if g=f then (g,v)::r else (g,x)::Fe f v r
theorem Hw (f g:Str) (v:V):∀fs:List (Str×V),(Fe f v fs).lookup g=if g=f then some v else fs.lookup g
 | []=>by
  show List.lookup g [(f,v)]=_
  by_cases h:g=f
  ·have hb:(g==f)=true:=beq_iff_eq.mpr h
   simp only [List.lookup,hb,if_pos h]
  ·have hb:(g==f)=false:=beq_eq_false_iff_ne.mpr h
   simp only [List.lookup,hb,if_neg h]
 | (k,x)::r=>by
  have ih:=Hw f g v r
  rw [show Fe f v ((k,x)::r)=(if k=f then (k,v)::r else (k,x)::Fe f v r) from rfl]
  by_cases hk:k=f
  ·rw [if_pos hk]
   by_cases h:g=k
   ·have hb:(g==k)=true:=beq_iff_eq.mpr h
    simp only [List.lookup,hb,if_pos (h.trans hk)]
   ·have hb:(g==k)=false:=beq_eq_false_iff_ne.mpr h
    simp only [List.lookup,hb,if_neg (fun e:g=f=>h (e.trans hk.symm))]
  ·rw [if_neg hk]
   by_cases h:g=k
   ·have hb:(g==k)=true:=beq_iff_eq.mpr h
    simp only [List.lookup,hb,if_neg (fun e:g=f=>hk (h.symm.trans e))]
   ·have hb:(g==k)=false:=beq_eq_false_iff_ne.mpr h
    simp only [List.lookup,hb]
    exact ih
theorem HF (f:Str) (v:V):∀fs:List (Str×V),f∈(Fe f v fs).map (·.1)/\∀g,g∈fs.map (·.1)→g∈(Fe f v fs).map (·.1)
 | []=>⟨by simp [Fe],fun g h=>by simp at h⟩
 | (k,x)::r=>by
  obtain ⟨i1,i2⟩:=HF f v r
  rw [show Fe f v ((k,x)::r)=(if k=f then (k,v)::r else (k,x)::Fe f v r) from rfl]
  by_cases hk:k=f
  ·rw [if_pos hk]
   subst hk
   exact ⟨by simp,fun g h=>by simpa using h⟩
  ·rw [if_neg hk]
   refine ⟨?_,fun g h=>?_⟩
   ·rw [List.map_cons]
    exact List.mem_cons_of_mem _ i1
   ·rw [List.map_cons] at h ⊢
    rcases List.mem_cons.mp h with e|e
    ·exact List.mem_cons.mpr (.inl e)
    ·exact List.mem_cons_of_mem _ (i2 g e)
theorem Hy (f:Str) (v:V):∀fs:List (Str×V),(Fe f v fs).length≤fs.length+1
 | []=>by simp [Fe]
 | (k,x)::r=>by
  have ih:=Hy f v r
  rw [show Fe f v ((k,x)::r)=(if k=f then (k,v)::r else (k,x)::Fe f v r) from rfl]
  by_cases hk:k=f
  ·rw [if_pos hk,List.length_cons,List.length_cons];omega
  ·rw [if_neg hk,List.length_cons,List.length_cons];omega
theorem C9.some_of {v:V}{o:Option Value}(r:C9 (some v) o):∃u,o=some u/\RelV v u:=by
 cases o with
 | none=>exact (show False from r).elim
 | some u=>exact ⟨u,rfl,r⟩
theorem C9.none_of {o:Option Value}(r:C9 none o):o=none:=by
 cases o with
 | none=>rfl
 | some u=>exact (show False from r).elim
theorem Oe {v:V}{u:Value}(r:RelV v u):PySem.W.handedIn u=true:=by
 cases v with
 | non=>cases (show u=Value.none from r);rfl
 | bl b=>cases (show u=Value.bool b from r);rfl
 | int i=>obtain ⟨t,e⟩:=(show ∃t,u=Value.int i t from r);cases e;rfl
 | str x=>obtain ⟨t,e⟩:=(show ∃t,u=Value.str x t from r);cases e;rfl
 | byt b=>obtain ⟨t,e⟩:=(show ∃t,u=Value.bytes b t from r);cases e;rfl
 | flt b=>obtain ⟨t,e⟩:=(show ∃t,u=Value.float b t from r);cases e;rfl
 | ref a=>cases (show u=Value.ref a from r);rfl
 | ty n=>cases (show u=Value.type n from r);rfl
section
variable {P:Program}{w:World}{H H':Hp}{h h':Heap}{a C dx:Addr}{fs fs':List (Str×V)}
theorem IM (hok:HOk P w H h) (e:H a=some (.ins C dx fs)):∃mA,NM h a dx C mA/\(∀f,C9 (fs.lookup f) (mA f))/\PySem.Within mA (fs.map (·.1))/\fs.length≤1000/\H dx=some (.own a):=by
 obtain ⟨d,z,ne,ob,mA,n,r,q⟩:=(show A7 P w H h a (.ins C dx fs) from hok a _ e)
 exact ⟨mA,⟨ob,n,ne⟩,r,q,z,d⟩
end
structure Cls (K:PySem.W.Frag) (C:Addr):Prop where
 pg:PySem.W.plainGet K C Str.empty=true
 hd:PySem.W.hasDictIn K C=true
 po:PySem.W.plainOver K C=true
 sa:PySem.W.findIn K (.ref C) "__setattr__" = some (some (.builtin "object.__setattr__"))
theorem Cls.get {K:PySem.W.Frag}{C:Addr}(c:Cls K C) (f:Str):PySem.W.plainGet K C f=true:=c.pg
def FL (K:PySem.W.Frag) (C:Addr) (f:Str):Prop:=PySem.W.findIn K (.ref C) f=some none
theorem FL.Tq {K:PySem.W.Frag}{C:Addr}{f:Str}(n:FL K C f):PySem.W.takerIn K C f=some none:=by
 unfold PySem.W.takerIn
 rw [show PySem.W.findIn K (.ref C) f=some none from n]
 rfl
structure Con (K:PySem.W.Frag) (C:Addr) (f:Str) (v:V) (u:Value):Prop where
 at_:PySem.W.findIn K (.ref C) f=some (some u)
 rel:RelV v u
 get:PySem.W.specialIn K u "__get__" = some none
 cp:PySem.W.copiedNames.contains f=false
structure Meth (K:PySem.W.Frag) (C:Addr) (m:Str) (f:Addr):Prop where
 at_:PySem.W.findIn K (.ref C) m=some (some (.ref f))
 fn:PySem.W.isFn K (.ref f)=true
 kp:PySem.W.keepIn K (.ref f)=true
section
variable {X:Cx}{pins:List (Addr×Obj)}{σ:St}{H:Hp}{s:Shared}{a C dx:Addr}{fs:List (Str×V)}{f:Str}{v:V}{A:Around}{E:Value→Shared→Prop}
theorem M3 {b:Bool}{Q:Value→Shared→Prop}(I:Inv X pins σ H s) (e:H a=some (.ins C dx fs)) (c:Cls X.K C) (n:FL X.K C f) (l:fs.lookup f=some v)
  (h:∀u s',Inv X pins σ H s'→RelV v u→Q u s'):wpAny (model X.prog X.w) A (getAttr (.ref a) f b) Q E s:=by
 obtain ⟨mA,O,r,_,_,_⟩:=IM I.hok e
 obtain ⟨u,hu,ru⟩:=C9.some_of (v:=v) (o:=mA f) (by rw [←l];exact r f)
 exact get_map I.kIn O (c.get f) c.hd n hu (Oe ru) (h u _ (I.tok _) ru)
theorem JT {m:Str}{g:Addr}{pl:Sem Bool}{Q:Value×List Value→Shared→Prop}(I:Inv X pins σ H s) (e:H a=some (.ins C dx fs)) (c:Cls X.K C) (k:Meth X.K C m g) (l:fs.lookup m=none)
  (h:Q (.ref g,[.ref a]) s):wpAny (model X.prog X.w) A (getMethod (.ref a) m pl) Q E s:=by
 obtain ⟨mA,O,r,_,_,_⟩:=IM I.hok e
 have hn:mA m=none:=C9.none_of (by rw [←l];exact r m)
 exact QU I.kIn O (c.get m) k.at_ k.fn hn h
theorem Ma {y:V}{u:Value}{Q:Unit→Shared→Prop}(I:Inv X pins σ H s) (e:H a=some (.ins C dx fs)) (c:Cls X.K C) (n:FL X.K C f) (hl:fs.length<1000) (ry:RelV y u)
  (h:∀s',Inv X pins σ (upd H a (.ins C dx (Fe f y fs))) s'→Q () s'):wpAny (model X.prog X.w) A (setAttr (.ref a) f u) Q E s:=by
 obtain ⟨mA,O,r,wi,_,ho⟩:=IM I.hok e
 have hz:(fs.map (·.1)).length≤sizeLine:=by rw [List.length_map,sizeLine_eq];omega
 refine RD I.kIn O c.sa c.po n.Tq c.hd wi hz fun h' O' sb=>h _ ?_
 have hd:∃o,h'.get? dx=some o:=let ⟨o,_,_,e',_⟩:=O'.ns;⟨o,e'⟩
 refine I.write (x:=a) (e:=dx) (by rw [e];exact True.intro) (.inr ho) (fun b q hb z=>(sb.2 b hb).trans z) hd ?_
 refine ⟨by rw [AF O.ne];exact ho,?_,O.ne,O'.obj,_,O'.ns,fun g=>?_,fun g hg=>?_⟩
 ·have:=Hy f y fs;omega
 ·show C9 ((Fe f y fs).lookup g) (if g=f then some u else mA g)
  rw [Hw]
  by_cases q:g=f
  ·rw [if_pos q,if_pos q];exact ry
  ·rw [if_neg q,if_neg q];exact r g
 ·by_cases q:g=f
  ·rw [q];exact (HF f y fs).1
  ·refine (HF f y fs).2 g (wi g fun z=>hg ?_)
   show (if g=f then some u else mA g)=none
   rw [if_neg q];exact z
theorem Inv.made (I:Inv X pins σ H s):Inv X pins σ (upd (upd H s.heap.objs.size (.own (s.heap.objs.size+1))) (s.heap.objs.size+1) (.ins C s.heap.objs.size []))
  { s with heap:=(s.heap.push PySem.W.emptyDict).push (PySem.W.instObj C s.heap.objs.size) }:=by
 have e1:(s.heap.push PySem.W.emptyDict).get? s.heap.objs.size=some PySem.W.emptyDict:=Heap.get?_push_size s.heap rfl
 have e2:((s.heap.push PySem.W.emptyDict).push (PySem.W.instObj C s.heap.objs.size)).get? (s.heap.objs.size+1)=some (PySem.W.instObj C s.heap.objs.size):=by
  have:=Heap.get?_push_size (s.heap.push PySem.W.emptyDict) (o:=PySem.W.instObj C s.heap.objs.size) rfl
  rwa [Heap.size_push] at this
 have e3:(s.heap.push PySem.W.emptyDict).Ns s.heap.objs.size (fun _=>none):=⟨PySem.W.emptyDict,#[],_,e1,rfl,(fun e he=>absurd he (by simp)),fun _=>rfl⟩
 have I1:=I.laid (a:=s.heap.objs.size) (o:=.own (s.heap.objs.size+1)) (h':=s.heap.push PySem.W.emptyDict) (t':=s.toks) (fun b u q=>Heap.get?_push_of_some _ q) (Nat.le_refl _) ⟨_,e1⟩
 refine I1.laid (a:=s.heap.objs.size+1) (o:=.ins C s.heap.objs.size []) (t':=s.toks) (fun b u q=>Heap.get?_push_of_some _ q) (Nat.le_of_eq (Heap.size_push _ _)) ?_
 have ne:s.heap.objs.size≠s.heap.objs.size+1:=Nat.ne_of_lt (Nat.lt_succ_self _)
 refine ⟨by rw [AF ne,AB],Nat.zero_le _,ne,e2,fun _=>none,(Heap.Ns1.of_empty e3).at fun o q=>Heap.get?_push_of_some _ q,fun _=>True.intro,fun y hy=>absurd rfl hy⟩
theorem R8 {prog:Program}{w:World}{env:Env}{e:Expr}{f:Str}{pos:Pos}{s:Shared}{Q:Value→Shared→Prop}(hb:attributeBase e f env (eval e env)=eval e env)
  (h:wpAny (model prog w) A (eval e env) (fun o s₁=>wpAny (model prog w) A (getAttr o f true) Q E s₁) E s):wpAny (model prog w) A (eval (.Attribute e f pos) env) Q E s :=
 Attribute_any_ h (by rw [arm_eval_Attribute,hb])
end
def T1 (K:PySem.W.Frag) (ta:TE) (f:Str):TE:=fun σ H Q=>ta σ H fun x H1=>∃a C dx fs v,x=.ref a/\H1 a=some (.ins C dx fs)/\Cls K C/\FL K C f/\fs.lookup f=some v/\Q v H1
def Us (K:PySem.W.Frag) (ta tv:TE) (f:Str):TS:=fun D σ H=>tv σ H fun y H1=>ta σ H1 fun x H2=>∃a C dx fs,x=.ref a/\H2 a=some (.ins C dx fs)/\Cls K C/\FL K C f/\fs.length<1000 /\
 D.nx σ (upd H2 a (.ins C dx (Fe f y fs)))
section
variable {X:Cx}{o e value:Expr}{f:Str}{pos pos' tpos:Pos}{ta tv:TE}
theorem Dr (he:PE X e ta) (hb:attributeBase e f X.env (eval e X.env)=eval e X.env):PE X (.Attribute e f pos) (T1 X.K ta f):=by
 intro pins s σ H Q I h
 refine R8 hb (thn (he pins s σ H _ I h) fun u s1 ⟨x,H1,I1,rx,a,C,dx,fs,v,ex,ea,c,n,l,q⟩=>?_)
 subst ex
 obtain rfl:u=Value.ref a:=rx
 exact M3 I1 ea c n l fun u' s2 I2 ru=>⟨v,H1,I2,ru,q⟩
theorem Pe (ha:PE X o ta) (hv:PE X value tv) (hs:swapsWith value (some (.Attribute o f pos')) pos.line X.env=pure false):PS X (.Assign [.Attribute o f pos'] value pos) (Us X.K ta tv f):=by
 intro pins s σ H D I h
 refine plainObj_wpAny_Assign_Attribute (thn (hv pins s σ H _ I h) fun u s1 ⟨y,H1,I1,ry,q⟩=>thn (ha pins s1 σ H1 _ I1 q) fun ov s2 ⟨x,H2,I2,rx,a,C,dx,fs,ex,ea,c,n,l,q2⟩=>?_) hs
 subst ex
 obtain rfl:ov=Value.ref a:=rx
 exact Ma I2 ea c n l ry fun s3 I3=>⟨σ,_,I3,q2⟩
end
section
variable {X:Cx}{pins:List (Addr×Obj)}{σ:St}{H:Hp}{s:Shared}{A:Around}{E:Value→Shared→Prop}{Q:Value→Shared→Prop}{c:Value}{b:Bool}
inductive HY (K:PySem.W.Frag) (H:Hp):V→Value→Prop where
 | non:HY K H .non (.type "NoneType")
 | bl (x:Bool):HY K H (.bl x) (.type "bool")
 | int (i:Int):HY K H (.int i) (.type "int")
 | str (x:Str):HY K H (.str x) (.type "str")
 | flt (x:UInt64):HY K H (.flt x) (.type "float")
 | lst {a:Addr} {xs:List V} (e:H a=some (.lst xs)):HY K H (.ref a) (.type "list")
 | frz {a:Addr} {o:Obj} {xs:List V} (e:H a=some (.frz o (.lst xs))):HY K H (.ref a) (.type "list")
 | tup {a:Addr} {xs:List V} (e:H a=some (.tup xs)):HY K H (.ref a) (.type "tuple")
 | dK {a:Addr} {kvs:List (Key×V)} (e:H a=some (.dK kvs)):HY K H (.ref a) (.type "dict")
 | dT {a:Addr} {kvs:List (List Key×V)} (e:H a=some (.dT kvs)):HY K H (.ref a) (.type "dict")
 | ins {a C dx:Addr} {fs:List (Str×V)} (e:H a=some (.ins C dx fs)) (cl:Cls K C) (ha:PySem.W.findIn K (.ref C) "__class__" = some (some (.builtin "object.__class__")))
   (hn:PySem.W.specialIn K (.builtin "object.__class__") "__get__" = some (some (.builtin "getset_descriptor.__get__"))) (htk:PySem.W.takesIn K (.builtin "object.__class__")=some true)
   (hm:PySem.W.mroIn K C (.type "object")=some true):HY K H (.ref a) (.ref C)
theorem Oa {x:V} {u t:Value} (I:Inv X pins σ H s) (rx:RelV x u) (ty:HY X.K H x t) (e:PySem.W.kitOne X.K t c=some b) (h:∀tk,Q (.bool b) { s with toks:=tk }) :
  wpAny (model X.prog X.w) A (call (.builtin "isinstance") [u,c]) Q E s:=by
 cases ty with
 | non=>cases (show u=Value.none from rx);exact PySem.W.kia_one PySem.W.kitx_none I.kIn True.intro e (fun z=>nomatch z) h
 | bl y=>cases (show u=Value.bool y from rx);exact PySem.W.kia_one PySem.W.kitx_bool I.kIn True.intro e (fun z=>nomatch z) h
 | int i=>obtain ⟨t,q⟩:=(show ∃t,u=Value.int i t from rx);cases q;exact PySem.W.kia_one PySem.W.kitx_int I.kIn True.intro e (fun z=>nomatch z) h
 | str y=>obtain ⟨t,q⟩:=(show ∃t,u=Value.str y t from rx);cases q;exact PySem.W.kia_one PySem.W.kitx_str I.kIn True.intro e (fun z=>nomatch z) h
 | flt y=>obtain ⟨t,q⟩:=(show ∃t,u=Value.float y t from rx);cases q;exact PySem.W.kia_one PySem.W.kitx_float I.kIn True.intro e (fun z=>nomatch z) h
 | @lst a xs ea =>
  cases (show u=Value.ref a from rx)
  obtain ⟨_,_,n,_,h1⟩:=(show A7 X.prog X.w H s.heap a (.lst xs) from I.hok a _ ea)
  exact PySem.W.kia_one PySem.W.kitx_list I.kIn ⟨_,h1,rfl⟩ e (fun z=>nomatch z) h
 | @frz a ob xs ea =>
  cases (show u=Value.ref a from rx)
  obtain ⟨_,_,_,n,_,h1⟩:=(show A7 X.prog X.w H s.heap a (.frz ob (.lst xs)) from I.hok a _ ea)
  exact PySem.W.kia_one PySem.W.kitx_list I.kIn ⟨_,h1,rfl⟩ e (fun z=>nomatch z) h
 | @tup a xs ea =>
  cases (show u=Value.ref a from rx)
  obtain ⟨_,_,_,p⟩:=(show A7 X.prog X.w H s.heap a (.tup xs) from I.hok a _ ea)
  obtain ⟨o,h1,h2,_⟩:=p
  exact PySem.W.kia_one PySem.W.kitx_tuple I.kIn ⟨o,h1,h2⟩ e (fun z=>nomatch z) h
 | @dK a kvs ea =>
  cases (show u=Value.ref a from rx)
  obtain ⟨_,_,vs,_,p⟩:=(show A7 X.prog X.w H s.heap a (.dK kvs) from I.hok a _ ea)
  obtain ⟨o,es,ep,h1,h2,_⟩:=p
  exact PySem.W.kia_one PySem.W.kitx_dict I.kIn ⟨o,h1,h2.1⟩ e (fun z=>nomatch z) h
 | @dT a kvs ea =>
  cases (show u=Value.ref a from rx)
  obtain ⟨_,_,xs,_,o,es,ep,h1,h2,_⟩:=(show A7 X.prog X.w H s.heap a (.dT kvs) from I.hok a _ ea)
  exact PySem.W.kia_one PySem.W.kitx_dict I.kIn ⟨o,h1,h2.1⟩ e (fun z=>nomatch z) h
 | @ins a C dx fs ea cl ha hn htk hm =>
  cases (show u=Value.ref a from rx)
  obtain ⟨mA,O,_⟩:=IM I.hok ea
  obtain ⟨od,J,_⟩:=O.look
  exact PySem.W.kia_one (PySem.W.kitx_own (cl.get _) cl.hd ha hn htk hm) I.kIn J e (fun z=>nomatch z) h
end
end L2
namespace L2
open PySem PySem.Spec PyProof.Rows
structure BZ (k:Nat) (A:Around):Prop where
 hd:A.handled=none
 dp:A.depth+3 * k+5<recursionLimit
 un:A.units+16 * k+200<cLine
theorem BZ.mono {j k:Nat}{A:Around}(r:BZ k A) (h:j≤k):BZ j A:=⟨r.hd,by have:=r.dp;omega,by have:=r.un;omega⟩
theorem BZ.deeper {k:Nat}{A:Around}(r:BZ (k+1) A) (env:Env):BZ k (A.deeper env) :=
 ⟨r.hd,by have:=r.dp;show A.depth+1+3 * k+5<_;omega,by have:=r.un;show A.units+3+16 * k+200<_;omega⟩
theorem BZ.in1 {k:Nat}{A:Around}(r:BZ (k+1) A):BZ k A.in1 :=
 ⟨r.hd,by have:=r.dp;show A.depth+3 * k+5<_;omega,by have:=r.un;show A.units+1+16 * k+200<_;omega⟩
theorem Mr {A:Around}{C:Addr}{us:List Value}{kw:List (Str×Value)}:(A.under (.builtin "type.__call__" ⟨.ref C::us,kw⟩)).depth=A.depth+1:=by
 first|rfl|simp [Around.under,Code.weight,Code.isCreation,Code.isGuard,Code.isCaller,Code.frames,Code.isFrame,guardIds]
theorem Mq {A:Around}{C:Addr}{us:List Value}{kw:List (Str×Value)}:(A.under (.builtin "type.__call__" ⟨.ref C::us,kw⟩)).units=A.units+1:=by
 first|rfl|simp [Around.under,Code.cUnits,Code.frames,Code.isFrame]
theorem BZ.make {k:Nat}{A:Around}(r:BZ (k+1) A) (C:Addr) (us:List Value) (kw:List (Str×Value)):BZ k (A.under (.builtin "type.__call__" ⟨.ref C::us,kw⟩)) :=
 ⟨r.hd,by have:=r.dp;rw [Mr];omega,by have:=r.un;rw [Mq];omega⟩
theorem BZ.depth {k:Nat}{A:Around}(r:BZ k A):A.depth<recursionLimit:=by have:=r.dp;omega
theorem BZ.units {k:Nat}{A:Around}(r:BZ k A):A.units+64<cLine:=by have:=r.un;omega
theorem BZ.Gs {k:Nat}{A:Around}(r:BZ k A):A.units<cLine:=by have:=r.un;omega
def Tu:TA:=fun _ H Q=>Q [] H
def T5 (ta:TE) (tr:TA):TA:=fun σ H Q=>ta σ H fun x H1=>tr σ H1 fun xs H2=>Q (x::xs) H2
section
variable {X:Cx}{e:Expr}{es:List Expr}{te:TE}{t:TA}{pos:Pos}
theorem AE:PA X [] Tu:=fun _ _ _ _ H Q I h=>Calls.spliced_nil ⟨[],H,I,.nil,h⟩
theorem AA (ha:PE X e te) (hr:PA X es t) (hs:starEach (e::es) X.env=(false,eval e X.env)::starEach es X.env:=by rfl):PA X (e::es) (T5 te t):=by
 intro pos pins s σ H Q I h
 rw [hs]
 show wpAny _ _ (spliced ((false,eval e X.env)::backTo pos (starEach es X.env))) _ _ s
 refine Calls.spliced_cons (thn (ha pins s σ H _ I h) fun u s1 ⟨x,H1,I1,r1,q1⟩=>?_)
 exact thn (hr pos pins s1 σ H1 _ I1 q1) fun us s2 ⟨xs,H2,I2,r2,q2⟩=>⟨x::xs,H2,I2,.cons r1 r2,q2⟩
def Uc (t:TA):TE:=fun σ H Q=>t σ H fun xs H1=>xs.length≤sizeLine/\∀p,H1 p=none→Q (.ref p) (upd H1 p (.tup xs))
def Ui (t:TA):TE:=fun σ H Q=>t σ H fun xs H1=>xs.length≤sizeLine/\∀p,H1 p=none→Q (.ref p) (upd H1 p (.lst xs))
theorem A8 {x1}(h:PA X es t):PE X (.Tuple es x1 pos) (Uc t):=by
 intro pins s σ H Q I hq
 refine wpAny_Tuple_spliced (thn (h pos pins s σ H _ I hq) fun us s1 ⟨xs,H1,I1,r,z,q⟩=>⟨by rw [←r.length];exact z,?_⟩)
 have hf:H1 s1.heap.objs.size=none:=I1.hok.fresh (Nat.le_refl _)
 refine ⟨.ref s1.heap.objs.size,upd H1 s1.heap.objs.size (.tup xs),I1.laid (t':=s1.toks) (fun b u e=>Heap.get?_push_of_some _ e) (Nat.le_refl _) ?_,rfl,q _ hf⟩
 exact ⟨z,us,r,⟨_,Heap.get?_push_size _ rfl,rfl,_,rfl⟩⟩
theorem Ax (h:PA X es t):PE X (.List es pos) (Ui t):=by
 intro pins s σ H Q I hq
 refine wpAny_List_spliced (thn (h pos pins s σ H _ I hq) fun us s1 ⟨xs,H1,I1,r,z,q⟩=>⟨by rw [←r.length];exact z,?_⟩)
 have hf:H1 s1.heap.objs.size=none:=I1.hok.fresh (Nat.le_refl _)
 refine ⟨.ref s1.heap.objs.size,upd H1 s1.heap.objs.size (.lst xs),I1.laid (t':=s1.toks) (fun b u e=>Heap.get?_push_of_some _ e) (Nat.le_refl _) ?_,rfl,q _ hf⟩
 exact ⟨z,us,0,r,Heap.get?_push_size _ rfl⟩
end
abbrev Sp:=List V→Hp→VK→XK→Prop
abbrev CXT:=List Env→Hp→Shared→XK→Value→Shared→Prop
structure Jo (P:Program) (w:World) (K:PySem.W.Frag) (mg:Str→Option Value) (base:Heap) (A:Around) (outer:List Env) (s:Shared) (H:Hp):Prop where
 frames:A.frames=some outer
 mod:Mod K mg base
 bs:∀b o,base.get? b=some o→s.heap.get? b=some o/\H b=none
 bsz:base.objs.size≤s.heap.objs.size
 F7:s.heap.FunFrames base outer
 frf:∀b∈frs outer,H b=none
 hok:HOk P w H s.heap
 bare:AllBare s.gens
def CE (outer:List Env) (P:Program) (w:World) (H:Hp) (s:Shared) (Q:VK) (u:Value) (s':Shared):Prop :=
 ∃v H',s'.os=s.os/\AllBare s'.gens/\Un (frs outer) [] H H' s.heap s'.heap/\HOk P w H' s'.heap/\RelV v u/\Q v H'
def CR (CX:CXT) (outer:List Env) (P:Program) (w:World) (H:Hp) (s:Shared) (Q:VK) (E:XK) (r:Result) (s':Shared):Prop :=
 match r with
 | .ok (.ret u)=>CE outer P w H s Q u s'
 | .ok _=>False
 | .error e=>CX outer H s E e s'
structure A9 (P:Program) (w:World) (K:PySem.W.Frag) (mg:Str→Option Value) (base:Heap) (CX:CXT) (k:Nat) (f:Addr) (fd:FuncData) (ps:List Str) (sp:Sp):Prop where
 len:∀vs H Q E,sp vs H Q E→vs.length=ps.length
 run:∀(A:Around) (outer:List Env) (s:Shared) (H:Hp) (args:Args) (us:List Value) (vs:List V) (Q:VK) (E:XK),BZ k A→Jo P w K mg base A outer s H→BindsTo s fd args (ps.zip us)→Vals vs us→sp vs H Q E →
  codeAny (model P w) A (.call (.ref f) args) (CR CX outer P w H s Q E) s
theorem A9.imp {P:Program}{w:World}{K:PySem.W.Frag}{mg:Str→Option Value}{base:Heap}{CX:CXT}{k:Nat}{f:Addr}{fd:FuncData}{ps:List Str}{sp sp':Sp}(F:A9 P w K mg base CX k f fd ps sp)
  (h:∀vs H Q E,sp' vs H Q E→sp vs H Q E):A9 P w K mg base CX k f fd ps sp' :=
 ⟨fun vs H Q E q=>F.len vs H Q E (h _ _ _ _ q),fun A outer s H args us vs Q E hr he hb hv hs=>F.run A outer s H args us vs Q E hr he hb hv (h _ _ _ _ hs)⟩
theorem Jo.make {P:Program}{w:World}{K:PySem.W.Frag}{mg:Str→Option Value}{base:Heap}{A:Around}{outer:List Env}{s:Shared}{H:Hp}(e:Jo P w K mg base A outer s H) (C:Addr) (us:List Value) (kw:List (Str×Value)) :
  Jo P w K mg base (A.under (.builtin "type.__call__" ⟨.ref C::us,kw⟩)) outer s H:=⟨by first|exact e.frames|(simpa [Around.under,Code.envs,Code.isFrame,pushEnvs] using e.frames),e.mod,e.bs,e.bsz,e.F7,e.frf,e.hok,e.bare⟩
theorem Jo.in1 {P:Program}{w:World}{K:PySem.W.Frag}{mg:Str→Option Value}{base:Heap}{A:Around}{outer:List Env}{s:Shared}{H:Hp}(e:Jo P w K mg base A outer s H) :
  Jo P w K mg base A.in1 outer s H:=⟨e.frames,e.mod,e.bs,e.bsz,e.F7,e.frf,e.hok,e.bare⟩
section
variable {X:Cx}{pins:List (Addr×Obj)}{σ:St}{H:Hp}{s s':Shared}
theorem Inv.Td (I:Inv X pins σ H s):Jo X.prog X.w X.K X.mg X.base X.A X.stack s H :=
 ⟨I.ok.frames,I.ok.mod,I.bs,Nat.le_trans I.ok.bsz I.sz,I.stack,I.Ke,I.hok,I.bare⟩
theorem Inv.after {Q:VK}{u:Value}(I:Inv X pins σ H s) (h:CE X.stack X.prog X.w H s Q u s'):EP X pins σ Q u s':=by
 obtain ⟨v,H',os,bare,un,hok,r,q⟩:=h
 obtain ⟨hh,g,d,t,os'⟩:=s'
 obtain rfl:os'=s.os:=os
 exact ⟨v,H',I.call (h':=hh) (g':=g) (d':=d) (t':=t) (ch:=[]) un hok bare (fun b z=>absurd z (by simp)),r,q⟩
end
def T6 (sp:Sp) (dvs:List V) (E:XK) (t:TA):TE:=fun σ H Q=>t σ H fun vs H1=>sp (vs++dvs) H1 Q E
def SF (C:Addr) (m:Str) (sp:Sp) (dvs:List V) (E:XK) (ta:TE) (t:TA):TE:=fun σ H Q=>ta σ H fun x H1=>∃a dx fs,x=.ref a/\H1 a=some (.ins C dx fs)/\fs.lookup m=none /\
 t σ H1 fun vs H2=>sp (x::(vs++dvs)) H2 Q E
def Tw (C:Addr) (sp:Sp) (dvs:List V) (E:XK) (t:TA):TE:=fun σ H Q=>t σ H fun vs H1=>∀x dx,H1 x=none→H1 dx=none→dx≠x →
 sp (.ref x::(vs++dvs)) (upd (upd H1 dx (.own x)) x (.ins C dx [])) (fun v H2=>v=.non/\Q (.ref x) H2) E
def Binds (K:PySem.W.Frag) (fd:FuncData) (ps:List Str) (ds:List Value):Prop :=
 ∀(s:Shared) (us:List Value),K.In s.heap→(us++ds).length=ps.length→BindsTo s fd ⟨us,[]⟩ (ps.zip (us++ds))
theorem Binds.all {K:PySem.W.Frag}{fd:FuncData}{ps:List Str}(h:∀us:List Value,us.length=ps.length→bindArgs fd ⟨us,[]⟩=pure (ps.zip us)):Binds K fd ps []:=fun s us _ hl=>by
 rw [List.append_nil] at hl ⊢
 exact .of_eq (h us hl)
def Passes (CX:CXT) (X:Cx) (E:XK):Prop:=∀(pins:List (Addr×Obj)) (σ:St) (H:Hp) (s:Shared) (e:Value) (s':Shared),Inv X pins σ H s→CX X.stack H s E e s'→X.xe e s'
section
variable {X:Cx}{CX:CXT}{k:Nat}{f C:Addr}{fd:FuncData}{ps:List Str}{sp:Sp}{dvs:List V}{ds:List Value}{E:XK}{x m:Str}{p pos apos:Pos}{e o:Expr}{es:List Expr}{ta:TE}{t:TA}
theorem Md {pins:List (Addr×Obj)}{σ:St}{H:Hp}{s:Shared}{Q:VK}{us:List Value}{vs:List V}(F:A9 X.prog X.w X.K X.mg X.base CX k f fd ps sp) (hr:BZ k X.A) (hb:Binds X.K fd ps ds) (hd:Vals dvs ds) (hx:Passes CX X E)
  (I:Inv X pins σ H s) (r:Vals vs us) (h:sp (vs++dvs) H Q E):wpAny (model X.prog X.w) X.A (call (.ref f) us) (EP X pins σ Q) X.xe s:=by
 have r2:Vals (vs++dvs) (us++ds):=r.append hd
 have hl:(us++ds).length=ps.length:=by rw [←r2.length];exact F.len _ _ _ _ h
 refine wpAny_call (codeAny_mono (F.run X.A X.stack s H ⟨us,[]⟩ (us++ds) (vs++dvs) Q E hr I.Td (hb s us I.kIn hl) r2 h) fun r s' hq=>?_)
 cases r with
 | error e=>exact hx pins σ H s e s' I hq
 | ok fl =>
  cases fl with
  | ret u=>exact I.after hq
  | next=>exact False.elim hq
  | brk=>exact False.elim hq
  | cont=>exact False.elim hq
theorem Af (F:A9 X.prog X.w X.K X.mg X.base CX k f fd ps sp) (hr:BZ k X.A) (hg:Gl X x) (hm:X.mg x=some (.ref f)) (hk:PySem.W.keepIn X.K (.ref f)=true) (hb:Binds X.K fd ps ds) (hd:Vals dvs ds) (hx:Passes CX X E)
  (ha:PA X (e::es) t) (hdb:(x==("__debug__" : Str))=false:=by decide) (he:starEach (e::es) X.env=(false,eval e X.env)::starEach es X.env:=by rfl) (hpl:(backTo pos (starEach es X.env)).any (·.1)=false:=by rfl) :
  PE X (.Call (.Name x p) (e::es) [] pos) (T6 sp dvs E t):=by
 intro pins s σ H Q I h
 refine wpAny_Call_Name_kw (IL I hg hm ?_ hdb)
 refine PySem.W.callWith_K (h₀:=X.base) I.ok.mod.kin hk (thn (ha pos pins s σ H _ I h) fun us s1 ⟨vs,H1,I1,r,q⟩=>⟨I1.kIn,?_⟩) he hpl
 exact Md F hr hb hd hx I1 r q
theorem II {pl:Sem Bool}(he:PE X o ta) (c:Cls X.K C) (hm:Meth X.K C m f) (F:A9 X.prog X.w X.K X.mg X.base CX k f fd ps sp) (hr:BZ k X.A) (hb:Binds X.K fd ps ds) (hd:Vals dvs ds) (hx:Passes CX X E) (ha:PA X (e::es) t)
  (hst:starEach (e::es) X.env=(false,eval e X.env)::starEach es X.env:=by rfl) (hpl:(backTo pos (starEach es X.env)).any (·.1)=false:=by rfl)
  (ht:eval (.Call (.Attribute o m apos) (e::es) [] pos) X.env=(do
   let ov ← eval o X.env
   standAt apos.atName
   let (f,first) ← holding [ov] (getMethod ov m pl)
   callWith pos f first (backTo pos (starEach (e::es) X.env)) (backToKw pos (keywordEach [] X.env))):=by rfl) :
  PE X (.Call (.Attribute o m apos) (e::es) [] pos) (SF C m sp dvs E ta t):=by
 intro pins s σ H Q I h
 refine PySem.W.methodCall_KW (pl:=pl) (thn (he pins s σ H _ I h) fun u s1 ⟨x,H1,I1,rx,a,dx,fs,ex,ea,l,q⟩=>?_) ht
 subst ex
 obtain rfl:u=Value.ref a:=rx
 refine JT I1 ea c hm l ?_
 refine PySem.W.callWith_K (first:=[.ref a]) (h₀:=X.base) I.ok.mod.kin hm.kp (thn (ha pos pins s1 σ H1 _ I1 q) fun us s2 ⟨vs,H2,I2,r,q2⟩=>⟨I2.kIn,?_⟩) hst hpl
 exact Md (us:=.ref a::us) (vs:=.ref a::vs) F hr hb hd hx I2 (.cons rfl r) q2
theorem Lf {pl:Sem Bool}(he:PE X o ta) (c:Cls X.K C) (hm:Meth X.K C m f) (F:A9 X.prog X.w X.K X.mg X.base CX k f fd ps sp) (hr:BZ k X.A) (hb:Binds X.K fd ps ds) (hd:Vals dvs ds) (hx:Passes CX X E)
  (ht:eval (.Call (.Attribute o m apos) [] [] pos) X.env=(do
   let ov ← eval o X.env
   standAt apos.atName
   let (f,first) ← holding [ov] (getMethod ov m pl)
   callWith pos f first (backTo pos (starEach [] X.env)) (backToKw pos (keywordEach [] X.env))):=by rfl) :
  PE X (.Call (.Attribute o m apos) [] [] pos) (SF C m sp dvs E ta Tu):=by
 intro pins s σ H Q I h
 refine PySem.W.methodCall_KW (pl:=pl) (thn (he pins s σ H _ I h) fun u s1 ⟨x,H1,I1,rx,a,dx,fs,ex,ea,l,q⟩=>?_) ht
 subst ex
 obtain rfl:u=Value.ref a:=rx
 refine JT I1 ea c hm l ?_
 exact PySem.W.callWith_K0 (first:=[.ref a]) I1.kIn hm.kp (Md (us:=[.ref a]) (vs:=[.ref a]) F hr hb hd hx I1 (.cons rfl .nil) q)
structure Mk (K:PySem.W.Frag) (C f:Addr):Prop where
 makes:PySem.W.makesIn K C=true
 init:PySem.W.findIn K (.ref C) "__init__" = some (some (.ref f))
 fn:PySem.W.isFn K (.ref f)=true
 kp:PySem.W.keepIn K (.ref C)=true
theorem PM {pins:List (Addr×Obj)}{σ:St}{H:Hp}{s:Shared}{Q:VK}{us:List Value}{vs:List V}(M:Mk X.K C f) (F:A9 X.prog X.w X.K X.mg X.base CX k f fd ps sp) (hr:BZ (k+1) X.A) (hb:Binds X.K fd ps ds) (hd:Vals dvs ds)
  (hx:Passes CX X E) (I:Inv X pins σ H s) (r:Vals vs us)
  (h:∀x dx,H x=none→H dx=none→dx≠x→sp (.ref x::(vs++dvs)) (upd (upd H dx (.own x)) x (.ins C dx [])) (fun v H2=>v=.non/\Q (.ref x) H2) E) :
  wpAny (model X.prog X.w) X.A (call (.ref C) us) (EP X pins σ Q) X.xe s:=by
 have hq:=h (s.heap.objs.size+1) s.heap.objs.size (I.hok.fresh (Nat.le_succ _)) (I.hok.fresh (Nat.le_refl _)) (Nat.ne_of_lt (Nat.lt_succ_self _))
 have I2:=Inv.made (C:=C) I
 have r2:Vals (V.ref (s.heap.objs.size+1)::(vs++dvs)) (Value.ref (s.heap.objs.size+1)::(us++ds)):=.cons rfl (r.append hd)
 have hl:(Value.ref (s.heap.objs.size+1)::us++ds).length=ps.length:=by
  have e:=r2.length
  rw [F.len _ _ _ _ hq] at e
  exact e.symm
 refine wpAny_call (QD (f:=f) I.kIn M.makes M.init (beq_iff_eq.mp M.fn) (codeAny_mono (F.run _ X.stack _ _ ⟨Value.ref (s.heap.objs.size+1)::us,[]⟩ (Value.ref (s.heap.objs.size+1)::(us++ds)) _ _ E (hr.make C us [])
  (I2.Td.make C us []) (hb _ (Value.ref (s.heap.objs.size+1)::us) I2.kIn hl) r2 hq) fun r s' hq'=>?_))
 cases r with
 | error e=>exact hx pins σ _ _ e s' I2 hq'
 | ok fl =>
  cases fl with
  | ret u =>
   obtain ⟨v,H',I3,rv,ev,q3⟩:=I2.after hq'
   subst ev
   exact ⟨rv,⟨V.ref (s.heap.objs.size+1),H',I3,rfl,q3⟩⟩
  | next=>exact False.elim hq'
  | brk=>exact False.elim hq'
  | cont=>exact False.elim hq'
theorem RQ (M:Mk X.K C f) (F:A9 X.prog X.w X.K X.mg X.base CX k f fd ps sp) (hr:BZ (k+1) X.A) (hg:Gl X x) (hm:X.mg x=some (.ref C)) (hb:Binds X.K fd ps ds) (hd:Vals dvs ds) (hx:Passes CX X E)
  (ha:PA X (e::es) t) (hdb:(x==("__debug__" : Str))=false:=by decide) (he:starEach (e::es) X.env=(false,eval e X.env)::starEach es X.env:=by rfl) (hpl:(backTo pos (starEach es X.env)).any (·.1)=false:=by rfl) :
  PE X (.Call (.Name x p) (e::es) [] pos) (Tw C sp dvs E t):=by
 intro pins s σ H Q I h
 refine wpAny_Call_Name_kw (IL I hg hm ?_ hdb)
 refine PySem.W.callWith_K (h₀:=X.base) I.ok.mod.kin M.kp (thn (ha pos pins s σ H _ I h) fun us s1 ⟨vs,H1,I1,r,q⟩=>⟨I1.kIn,?_⟩) he hpl
 exact PM M F hr hb hd hx I1 r q
end
section
variable {X:Cx}{CX:CXT}{k:Nat}{f C:Addr}{fd:FuncData}{ps ks:List Str}{sp:Sp}{E:XK}{x m:Str}{p pos apos kpos:Pos}{e o:Expr}{es:List Expr}{kws:List Keyword}{te ta:TE}{t tk:TA}{nm:Option Str}
structure U8 (K:PySem.W.Frag) (fd:FuncData) (ps ks:List Str) (g:List Value→List Value→List Value) (gV:List V→List V→List V):Prop where
 to:∀(s:Shared) (us ws:List Value),K.In s.heap→(g us ws).length=ps.length→BindsTo s fd ⟨us,ks.zip ws⟩ (ps.zip (g us ws))
 rel:∀{vs:List V} {us:List Value} {zs:List V} {ws:List Value},Vals vs us→Vals zs ws→Vals (gV vs zs) (g us ws)
variable {g:List Value→List Value→List Value}{gV:List V→List V→List V}
end
structure Aj (N P:List Str) (sc:Scope):Prop where
 kind:sc.kind=.function
 co:sc.isCoroutine=false
 gen:sc.isGenerator=false
 nd:N.Nodup
 pre:N.take P.length=P
 par:∀x∈P,sc.names.lookup x=some .local\/sc.names.lookup x=some .cell
 TB:∀y∈sc.names,y.2≠.free
theorem KQ {kindOf:Str→Option NameKind}{x:Str}:∀{binds:List (Str×Value)}{m:Str→Option Value},(∀v,(x,v)∉binds)→bindL kindOf binds m x=m x
 | [],_,_=>rfl
 | (n,v)::r,m,h=>by
  unfold bindL
  rw [KQ fun w hw=>h w (List.mem_cons_of_mem _ hw)]
  split
  ·have:x≠n:=by rintro rfl;exact h v List.mem_cons_self
   simp [this]
  ·rfl
theorem KS {kindOf:Str→Option NameKind}{x:Str}:∀{binds:List (Str×Value)}{m:Str→Option Value},(∀v,(x,v)∉binds)→bindC kindOf binds m x=m x
 | [],_,_=>rfl
 | (n,v)::r,m,h=>by
  unfold bindC
  rw [KS fun w hw=>h w (List.mem_cons_of_mem _ hw)]
  split
  ·rfl
  ·have:x≠n:=by rintro rfl;exact h v List.mem_cons_self
   simp [this]
theorem KR {kindOf:Str→Option NameKind}{x:Str}{v:Value}:∀{P:List Str}{vs:List Value}{i:Nat}{m:Str→Option Value},P.Nodup→P[i]?=some x→vs[i]?=some v→kindOf x=some .local →
  bindL kindOf (P.zip vs) m x=some v
 | [],_,_,_,_,h,_,_=>by simp at h
 | _::_,[],_,_,_,_,h,_=>by simp at h
 | p::P,w::vs,0,m,nd,h1,h2,hk=>by
  simp at h1 h2;subst h1;subst h2
  show bindL kindOf ((p,w)::P.zip vs) m p=_
  unfold bindL
  rw [KQ fun v hv=>(List.nodup_cons.mp nd).1 (List.of_mem_zip hv).1,if_pos hk]
  simp
 | p::P,w::vs,i+1,m,nd,h1,h2,hk=>by
  show bindL kindOf ((p,w)::P.zip vs) m x=_
  unfold bindL
  exact KR (i:=i) (List.nodup_cons.mp nd).2 (by simpa using h1) (by simpa using h2) hk
theorem KU {kindOf:Str→Option NameKind}{x:Str}{v:Value}:∀{P:List Str}{vs:List Value}{i:Nat}{m:Str→Option Value},P.Nodup→P[i]?=some x→vs[i]?=some v→kindOf x≠some .local →
  bindC kindOf (P.zip vs) m x=some v
 | [],_,_,_,_,h,_,_=>by simp at h
 | _::_,[],_,_,_,_,h,_=>by simp at h
 | p::P,w::vs,0,m,nd,h1,h2,hk=>by
  simp at h1 h2;subst h1;subst h2
  show bindC kindOf ((p,w)::P.zip vs) m p=_
  unfold bindC
  rw [KS fun v hv=>(List.nodup_cons.mp nd).1 (List.of_mem_zip hv).1,if_neg hk]
  simp
 | p::P,w::vs,i+1,m,nd,h1,h2,hk=>by
  show bindC kindOf ((p,w)::P.zip vs) m x=_
  unfold bindC
  exact KU (i:=i) (List.nodup_cons.mp nd).2 (by simpa using h1) (by simpa using h2) hk
def start (N:List Str) (vs:List V):St:=vs.map some++List.replicate (N.length-vs.length) none
def Om (CX:CXT) (P:Program) (w:World) (K:PySem.W.Frag) (mg:Str→Option Value) (base:Heap) (N:List Str) (qual:Str) (scope:Scope) (f:Addr) (cd:Value) (A:Around) (outer:List Env) (s:Shared) (H:Hp) (E:XK):Cx where
 prog:=P
 w:=w
 K:=K
 mg:=mg
 base:=base
 A:=A.deeper (envOfC qual scope s.heap.objs.size f cd)
 N:=N
 s₀:=s
 H₀:=H
 env:=envOfC qual scope s.heap.objs.size f cd
 outer:=outer
 stack:=envOfC qual scope s.heap.objs.size f cd::outer
 ex:=[]
 calm:=true
 fn:=fun _=>true
 pn:=[]
 xe:=fun e s'=>wpAny (model P w) (A.deeper (envOfC qual scope s.heap.objs.size f cd)) (leaving (envOfC qual scope s.heap.objs.size f cd) e) (fun _ s''=>CX outer H s E e s'') (fun e' s''=>CX outer H s E e' s'') s'
theorem MI {sc:Scope}{n:Nat}{x:Str}(h:sc.names.lookup x=some .cell):∃c,(cellsFrom n sc.names []).lookup x=some c:=by
 have q:=PySem.W.cellsFrom_some sc.names n [] (.inl h)
 exact Option.isSome_iff_exists.mp q
theorem Oc {CX:CXT}{P:Program}{w:World}{K:PySem.W.Frag}{mg:Str→Option Value}{base:Heap}{N ps:List Str}{qual:Str}{scope:Scope}{f:Addr}{cd:Value}{A:Around}{outer:List Env}{s s1:Shared}{H:Hp}{E:XK}{us:List Value}{vs:List V}
  (S:Aj N ps scope) (hd:A.handled=none) (e0:Jo P w K mg base A outer s H) (hl:vs.length=ps.length) (r:Vals vs us)
  (x:InCallC s s.heap.objs.size (bindL (envOfC qual scope s.heap.objs.size f cd).kindOf (ps.zip us) fun _=>none) (cellsFrom (s.heap.objs.size+1) scope.names []) (bindC (envOfC qual scope s.heap.objs.size f cd).kindOf (ps.zip us) fun _=>none) s1) :
  Inv (Om CX P w K mg base N qual scope f cd A outer s H E) [] (start N vs) H s1:=by
 have hpl:ps.length≤N.length:=by have:=congrArg List.length S.pre;rw [List.length_take] at this;omega
 obtain ⟨h1,tk,rfl,hk⟩:=x.done
 have noA:∀b:Addr,b∉(Om CX P w K mg base N qual scope f cd A outer s H E).ex:=fun b z=>absurd (show b∈([]:List Addr) from z) (by simp)
 refine ⟨⟨e0.mod,S.kind,rfl,rfl,Nat.le_refl _,fun y z c h1 h2=>?_,fun y hy=>?_,fun y c _ h=>?_,fun _=>hd,Around.frames_deeper e0.frames,.inr ⟨rfl,rfl⟩,fun b z=>absurd z (noA b),e0.bs,e0.bsz,fun b _ _=>noA b,fun b z=>absurd z (noA b),e0.F7,e0.frf⟩,
  rfl,e0.bare,Un.kept hk,⟨_,x.toInCall.ns,fun i y v h1 h2 h3=>?_⟩,fun y c h=>⟨_,x.cell y c h⟩,e0.hok.fresh (Nat.le_refl _),fun y c h=>?_,fun p hp=>absurd (show p∈([]:List (Addr×Obj)) from hp) (by simp),e0.hok.kept hk,?_⟩
 ·exact name_of_addr x.apart (PySem.mem_of_lookup h1) (PySem.mem_of_lookup h2)
 ·have hy:scope.names.lookup y=some .cell\/scope.names.lookup y=some .free:=hy
  rcases hy with hy|hy
  ·exact MI hy
  ·exact absurd rfl (S.TB _ (PySem.mem_of_lookup hy))
 ·exact Nat.le_of_lt (x.above y c (PySem.mem_of_lookup h))
 ·have hi:i<vs.length:=by
   unfold start at h2
   by_cases hi:i<vs.length
   ·exact hi
   ·rw [List.getElem?_append_right (by simpa using hi)] at h2
    rw [List.getElem?_replicate] at h2
    split at h2 <;> cases h2
  have ha:vs[i]?=some v:=by
   unfold start at h2
   rw [List.getElem?_append_left (by simpa using hi),List.getElem?_map] at h2
   cases e:vs[i]? with
   | none=>rw [e] at h2;cases h2
   | some a=>rw [e] at h2;cases h2;rfl
  obtain ⟨u,hu,rv⟩:=r.get ha
  have hp:ps[i]?=some y:=by
   rw [←S.pre,List.getElem?_take_of_lt (by omega)];exact h1
  have ndP:ps.Nodup:=by rw [←S.pre];exact S.nd.sublist (List.take_sublist _ _)
  refine ⟨u,rv,?_⟩
  rcases S.par y (List.mem_of_getElem? hp) with k|k
  ·exact .inl ⟨k,KR ndP hp hu k⟩
  ·obtain ⟨c,e⟩:=MI (n:=s.heap.objs.size+1) k
   refine .inr ⟨.inl k,c,e,?_⟩
   have q:=x.cell y c e
   rw [KU ndP hp hu (by show scope.names.lookup y≠_;rw [k];decide)] at q
   exact q
 ·exact e0.hok.fresh (Nat.le_of_lt (x.above y c (PySem.mem_of_lookup h)))
 ·unfold start
  show _=N.length
  rw [List.length_append,List.length_map,List.length_replicate]
  omega
theorem UW {CX:CXT}{P:Program}{w:World}{K:PySem.W.Frag}{mg:Str→Option Value}{base:Heap}{k:Nat}{f:Addr}{name qual:Str}{params:Arguments}{body:List Stmt}{scope:Scope}{dV kV doc pm cdv ct oc:Value}{an od:Option Addr}
  {osl:Array (Option Value)} {N ps:List Str} {sp:Sp} (lk:K.lookup f=some ⟨oc,od,.func (PySem.W.fnOf name qual params body scope dV kV doc pm an cdv ct),osl⟩) (hcd:PySem.W.codeIn K cdv qual=true) (S:Aj N ps scope)
  (len:∀vs H Q E,sp vs H Q E→vs.length=ps.length)
  (hbody:∀(A:Around) (outer:List Env) (s:Shared) (H:Hp) (vs:List V) (Q:VK) (E:XK),BZ k (A.deeper (envOfC qual scope s.heap.objs.size f cdv))→sp vs H Q E →
   ∃t,PSs (Om CX P w K mg base N qual scope f cdv A outer s H E) body t/\t { nx:=fun _ H'=>Q .non H',rt:=Q } (start N vs) H) :
  A9 P w K mg base CX (k+1) f (PySem.W.fnOf name qual params body scope dV kV doc pm an cdv ct) ps sp:=by
 refine ⟨len,fun A outer s H args us vs Q E hr e0 hb r hsp=>?_⟩
 have hl:=len _ _ _ _ hsp
 have KX:K.In s.heap:=e0.mod.kin.keeps fun b o e=>(e0.bs b o e).1
 have lim:s.heap.NoLimit:=e0.mod.nolimit.keeps fun b o e=>(e0.bs b o e).1
 have hkind:∀y∈ps.zip us,scope.names.lookup y.1=some .local\/(scope.names.lookup y.1=some .cell/\((cellsFrom (s.heap.objs.size+1) scope.names []).lookup y.1).isSome=true):=fun ⟨n,v⟩ hy=>by
  rcases S.par n (List.of_mem_zip hy).1 with q|q
  ·exact .inl q
  ·exact .inr ⟨q,PySem.W.cellsFrom_some _ _ _ (.inl q)⟩
 refine codeAny_call_function hr.depth (KX _ _ lk) rfl S.co S.gen rfl (PySem.W.codeRec_of KX hcd) (hb _ _ _ _ ?_)
 refine wpAny_newFunctionEnv_cells S.kind hkind fun env he s1 x=>?_
 subst he
 refine ⟨lim.keeps x.toInCall.keep,codeAny_func ?_⟩
 obtain ⟨t,ht,hq⟩:=hbody A outer s H vs Q E (hr.deeper _) hsp
 have I:Inv (Om CX P w K mg base N qual scope f cdv A outer s H E) [] (start N vs) H s1:=Oc S hr.hd e0 hl r x
 refine wpAny_mono (ht [] s1 (start N vs) H _ I hq) (fun fl s' hs=>?_) fun e s' hs=>hs
 have fin:∀{σ':St} {H':Hp} {v:V} {u:Value},Inv (Om CX P w K mg base N qual scope f cdv A outer s H E) [] σ' H' s'→RelV v u→Q v H'→CE outer P w H s Q u s' :=
  fun {σ' H' v u} J rv q=>⟨v,H',J.os,J.bare,J.base,J.hok,rv,q⟩
 cases fl with
 | ret u =>
  obtain ⟨v,σ',H',J,rv,q⟩:=hs
  exact fin J rv q
 | next =>
  obtain ⟨σ',H',J,q⟩:=hs
  exact fin (v:=V.non) (u:=Value.none) J rfl q
 | brk =>
  obtain ⟨_,_,_,q⟩:=hs
  exact False.elim q
 | cont =>
  obtain ⟨_,_,_,q⟩:=hs
  exact False.elim q
end L2
namespace L2
open PySem PySem.Spec PyProof.Rows
section
variable {X:Cx}{x:Str}{p pos:Pos}{e:Expr}{es:List Expr}{t:TA}{id T:String}{r:List V→Hp→VK→Prop}
def tCB (r:List V→Hp→VK→Prop) (t:TA):TE:=fun σ H Q=>t σ H fun vs H1=>r vs H1 Q
theorem Ab (hc:Cg X (.builtin id) r) (hg:Gl X x) (hm:X.mg x=none) (hv:bootBuiltins x=some (.builtin id)) (ha:PA X (e::es) t) (hn:x ≠ "__name__" := by decide) (hdb:(x==("__debug__" : Str))=false:=by decide)
  (he:starEach (e::es) X.env=(false,eval e X.env)::starEach es X.env:=by rfl) (hpl:(backTo pos (starEach es X.env)).any (·.1)=false:=by rfl):PE X (.Call (.Name x p) (e::es) [] pos) (tCB r t):=by
 intro pins s σ H Q I h
 refine wpAny_Call_Name_kw (EZ I hg hm hv ?_ hn hdb)
 exact PyProof.Rows.callWith_builtin1 (thn (ha pos pins s σ H _ I h) fun us s1 ⟨vs,H1,I1,r1,q1⟩=>hc pins s1 σ H1 vs us Q I1 r1 q1) he hpl
theorem D3 (hc:Cg X (.type T) r) (hg:Gl X x) (hm:X.mg x=none) (hv:bootBuiltins x=some (.type T)) (ha:PA X (e::es) t) (hn:x ≠ "__name__" := by decide) (hdb:(x==("__debug__" : Str))=false:=by decide)
  (he:starEach (e::es) X.env=(false,eval e X.env)::starEach es X.env:=by rfl) (hpl:(backTo pos (starEach es X.env)).any (·.1)=false:=by rfl):PE X (.Call (.Name x p) (e::es) [] pos) (tCB r t):=by
 intro pins s σ H Q I h
 refine wpAny_Call_Name_kw (EZ I hg hm hv ?_ hn hdb)
 exact PyProof.Rows.callWith_type1 (thn (ha pos pins s σ H _ I h) fun us s1 ⟨vs,H1,I1,r1,q1⟩=>hc pins s1 σ H1 vs us Q I1 r1 q1) he hpl
end
end L2
namespace HT
open PySem PyProof.Rows
section
open PySem.SeqAt
open PySem.AutoSeq1 (wpAny_loadPart')
open PySem.MeetsSeq PySem.MeetsSeq2 PySem.MeetsSeq3
end
section
variable {prog:Program}{w:World}{A:Around}{E:Value→Shared→Prop}{s:Shared}
theorem R4 {t b:Addr}{vs ws:List Value}{Q:Value→Shared→Prop}(ht:IsTup s.heap t vs.toArray) (hb:IsTup s.heap b ws.toArray) (hv:vs≠[])
  (h1:ws=[]→Q (.ref t) s) (h2:ws≠[]→Q (.ref s.heap.objs.size) { s with heap:=s.heap.push { cls:=.type "tuple", data:=.seq (vs++ws).toArray } })
  (hsz:vs.length+ws.length≤sizeLine):wpAny (model prog w) A (binaryOp .Add (.ref t) (.ref b)) Q E s:=by
 obtain ⟨⟨cls,dd,data,sl⟩,ho,hc,n,hd⟩:=id ht
 obtain ⟨⟨cls2,dd2,data2,sl2⟩,ho2,hc2,n2,hd2⟩:=id hb
 simp only at hc hd hc2 hd2
 subst hc hd hc2 hd2
 have e:vs.toArray++ws.toArray=(vs++ws).toArray:=by simp
 by_cases hw:ws=[]
 ·exact concat_meets ⟨_,ho,rfl⟩ ⟨_,ho2,rfl⟩ noFill_tuple_add seq_tuple_add PySem.F.slot_tuple_add PySem.F.entry_tuple_add (PySem.F.args_tuple_add_2 _ _)
   (tuple_addW1 t b vs.toArray ws.toArray n n2 dd dd2 sl sl2 (by simpa using hv) (by simp [hw])) ⟨ho,ho2,h1 hw⟩
 ·refine concat_meets ⟨_,ho,rfl⟩ ⟨_,ho2,rfl⟩ noFill_tuple_add seq_tuple_add PySem.F.slot_tuple_add PySem.F.entry_tuple_add (PySem.F.args_tuple_add_2 _ _)
   (tuple_addW2 t b vs.toArray ws.toArray n n2 dd dd2 sl sl2 (by simpa using hv) (by simpa using hw) (by rw [List.size_toArray,List.size_toArray];exact hsz)) ⟨ho,ho2,?_⟩
  rw [e]
  exact h2 hw
def sIx (n d:Nat):Option Int→Nat
 | none=>d
 | some v=>if v<0 then (v+(n:Int)).toNat else min v.toNat n
theorem NR (n d k:Nat):sIx n d (some (k:Int))=min k n:=by
 show (if (k:Int)<0 then ((k:Int)+(n:Int)).toNat else min (k:Int).toNat n)=min k n
 rw [if_neg (by omega),Int.toNat_natCast]
end
end HT
namespace L2
open PySem PySem.Spec PyProof.Rows
abbrev TO:=St→Hp→(Option Int→Hp→Prop)→Prop
def PO (X:Cx) (e:Option Expr) (t:TO):Prop :=
 ∀(pins:List (Addr×Obj)) (s:Shared) (σ:St) (H:Hp) (Q:Option Int→Hp→Prop),Inv X pins σ H s→t σ H Q →
  wpAny (model X.prog X.w) X.A (evalPart e X.env) (fun u s'=>∃o H',Inv X pins σ H' s'/\IsPart u o/\Q o H') X.xe s
def Qx:TO:=fun _ H Q=>Q none H
def Tt (t:TE):TO:=fun σ H Q=>t σ H fun x H1=>∃i,x=.int i/\Q (some i) H1
theorem intsAre_of {ns:List Int}:∀{us:List Value},Vals (ns.map V.int) us→IntsAre us ns:=by
 induction ns with
 | nil=>intro us r;rw [List.map_nil] at r;cases r;exact .nil
 | cons n ns ih =>
  intro us r
  rw [List.map_cons] at r
  cases r with
  | cons r1 r2 =>
   obtain ⟨t,e⟩:=r1
   subst e
   exact .cons n t (ih r2)
section
variable {X:Cx}{e:Expr}{te:TE}{lo hi:Option Expr}{tl th:TO}{pos p2:Pos}
theorem FR:PO X none Qx:=by
 intro pins s σ H Q I h
 rw [evalPart_none]
 exact wpAny_pure ⟨none,H,I,.none,h⟩
theorem DZ (h:PE X e te):PO X (some e) (Tt te):=by
 intro pins s σ H Q I hw
 rw [evalPart_some]
 refine thn (h pins s σ H _ I hw) fun u s1 ⟨x,H1,I1,r1,q1⟩=>?_
 obtain ⟨i,rfl,q⟩:=q1
 obtain ⟨t,rfl⟩:=r1
 exact ⟨some i,H1,I1,.int i t,q⟩
def SlR (X:Cx) (r:V→Option Int→Option Int→Hp→VK→Prop):Prop :=
 ∀(pins:List (Addr×Obj)) (s:Shared) (σ:St) (H:Hp) (x:V) (v vl vu:Value) (lo hi:Option Int) (sl:Addr) (Q:VK),Inv X pins σ H s→RelV x v→s.heap.IsSliceOf sl vl vu .none→IsPart vl lo→IsPart vu hi→r x lo hi H Q →
  ∃T id,typeLookup (.type T) "__getitem__" = pure (some (.builtin id))/\s.TypeIs v T/\wpAny (model X.prog X.w) X.A (getItem v (.ref sl)) (EP X pins σ Q) X.xe s
def tSl (r:V→Option Int→Option Int→Hp→VK→Prop) (te:TE) (tl th:TO):TE:=fun σ H Q=>te σ H fun x H1=>tl σ H1 fun l H2=>th σ H2 fun u H3=>r x l u H3 Q
theorem DH {r:V→Option Int→Option Int→Hp→VK→Prop}(hr:SlR X r) (he:PE X e te) (hl:PO X lo tl) (hu:PO X hi th):PE X (.Subscript e (.Slice lo hi none p2) pos) (tSl r te tl th):=by
 intro pins s σ H Q I h
 refine Subscript_ (thn (he pins s σ H _ I h) fun v s1 ⟨x,H1,I1,r1,q1⟩=>?_)
 refine wpAny_Slice (thn (hl pins s1 σ H1 _ I1 q1) fun vl s2 ⟨l,H2,I2,pl,q2⟩=>thn (hu pins s2 σ H2 _ I2 q2) fun vu s3 ⟨u,H3,I3,pu,q3⟩=>?_)
 rw [evalPart_none]
 refine wpAny_pure ?_
 have I4:Inv X pins σ H3 { s3 with heap:=s3.heap.push { cls:=.type "slice", data:=.fields #[vl,vu,.none] } }:=I3.kept (t':=s3.toks) fun b ob q=>Heap.get?_push_of_some _ q
 obtain ⟨T,id,hT,ht,hg⟩:=hr pins { s3 with heap:=s3.heap.push { cls:=.type "slice", data:=.fields #[vl,vu,.none] } } σ H3 x v vl vu l u s3.heap.objs.size Q I4 r1 (Heap.IsSliceOf.new ..) pl pu q3
 show wpAny (model X.prog X.w) X.A (subscriptTail e (.Slice lo hi none p2) v (.ref s3.heap.objs.size)) (EP X pins σ Q) X.xe { s3 with heap:=s3.heap.push { cls:=.type "slice", data:=.fields #[vl,vu,.none] } }
 exact tail_any (ops:=[.ref s3.heap.objs.size,v]) ht hT hg (by with_unfolding_all rfl)
def F8 (xs:List V) (lo hi:Option Int):List V:=(xs.drop (HT.sIx xs.length 0 lo)).take (HT.sIx xs.length xs.length hi-HT.sIx xs.length 0 lo)
theorem MG (xs:List V) (lo hi:Option Int):(F8 xs lo hi).length≤xs.length:=by
 unfold F8
 rw [List.length_take,List.length_drop]
 omega
def SJ (K:PySem.W.Frag):R2:=fun x y H Q=>∃a b xs ys,x=.ref a/\y=.ref b/\SqT K H a xs/\SqT K H b ys/\xs≠[]/\xs.length+ys.length≤sizeLine /\
 (ys=[]→Q (.ref a) H)/\(ys≠[]→∀p,H p=none→Q (.ref p) (upd H p (.tup (xs++ys))))
theorem Vals.Ks {xs:List V}{us:List Value}(r:Vals xs us):us=[]↔xs=[]:=by
 cases r with
 | nil=>simp
 | cons _ _=>simp
theorem RW:OpR X (binaryOp .Add) (SJ X.K):=by
 intro pins s σ H x y v u Q I rx ry h
 obtain ⟨a,b,xs,ys,rfl,rfl,ha,hb,hx,hz,q1,q2⟩:=h
 cases rx
 cases ry
 obtain ⟨its,r1,p1,_⟩:=I.tuple ha
 obtain ⟨its2,r2,p2,_⟩:=I.tuple hb
 refine HT.R4 p1 p2 (fun z=>hx (r1.Ks.mp z)) (fun z=>⟨.ref a,H,I,rfl,q1 (r2.Ks.mp z)⟩) (fun z=>?_) (by rw [←r1.length,←r2.length];exact hz)
 refine ⟨.ref s.heap.objs.size,_,I.laid (t':=s.toks) (o:=.tup (xs++ys)) (fun b ob q=>Heap.get?_push_of_some _ q) (Nat.le_refl _) ?_,rfl,q2 (fun w=>z (r2.Ks.mpr w)) _ (I.hok.fresh (Nat.le_refl _))⟩
 exact ⟨by rw [List.length_append];exact hz,_,r1.append r2,IsTup.new _ _⟩
end
end L2
namespace L2
open PySem PySem.Spec PyProof.Rows
def ixN (n:Nat) (i:Int):Option Nat:=if 0≤i then (if i<n then some i.toNat else none) else if -(n:Int)≤i then some (i+n).toNat else none
def atI {α:Type}(xs:List α) (i:Int):Option α:=(ixN xs.length i).bind fun j=>xs[j]?
theorem Rp {n:Nat}{i:Int}{j:Nat}(h:ixN n i=some j):seqIndex? i n=some j/\j<n/\-(n:Int)≤i/\i<n:=by
 unfold ixN at h
 by_cases h0:0≤i
 ·rw [if_pos h0] at h
  by_cases h1:i<n
  ·rw [if_pos h1] at h
   have e:i.toNat=j:=Option.some.inj h
   exact ⟨by rw [seqIndex_of h0 h1,e],by omega,by omega,h1⟩
  ·rw [if_neg h1] at h;cases h
 ·rw [if_neg h0] at h
  by_cases h1:-(n:Int)≤i
  ·rw [if_pos h1] at h
   have e:(i+n).toNat=j:=Option.some.inj h
   exact ⟨by rw [seqIndex_neg (by omega) h1,e],by omega,h1,by omega⟩
  ·rw [if_neg h1] at h;cases h
theorem LA {α:Type}{xs:List α}{i:Int}{v:α}(h:atI xs i=some v):∃j,seqIndex? i xs.length=some j/\xs[j]?=some v/\j<xs.length/\-(xs.length:Int)≤i/\i<xs.length:=by
 unfold atI at h
 cases e:ixN xs.length i with
 | none=>rw [e] at h;cases h
 | some j =>
  rw [e] at h
  obtain ⟨h1,h2,h3,h4⟩:=Rp e
  exact ⟨j,h1,h,h2,h3,h4⟩
theorem AG {α:Type}{xs:List α}{j:Nat}{v:α}(h:xs[j]?=some v):atI xs (j:Int)=some v:=by
 have hj:j<xs.length:=(List.getElem?_eq_some_iff.mp h).1
 have e:ixN xs.length (j:Int)=some j:=by
  unfold ixN
  rw [if_pos (by omega),if_pos (by omega)];simp
 unfold atI;rw [e];exact h
theorem EH {α:Type}(xs:List α) (v:α):atI (xs++[v]) (-1)=some v:=by
 have hl:(xs++[v]).length=xs.length+1:=by simp
 have e:ixN (xs++[v]).length (-1)=some xs.length:=by
  unfold ixN
  rw [hl,if_neg (by decide),if_pos (by omega)]
  congr 1
  omega
 unfold atI
 rw [e]
 show (xs++[v])[xs.length]?=some v
 simp
def SA (b:Expr):Prop:=∀o i,subscripted b false o i=operate [o,i] (getItem o i)
def IxR (X:Cx) (r:R2):Prop :=
 ∀(value slice:Expr) (pins:List (Addr×Obj)) (s:Shared) (σ:St) (H:Hp) (x y:V) (v u:Value) (Q:VK),Inv X pins σ H s→RelV x v→RelV y u→r x y H Q →
  subscripted slice false v u=operate [v,u] (getItem v u)→wpAny (model X.prog X.w) X.A (subscriptTail value slice v u) (EP X pins σ Q) X.xe s
def MtR (X:Cx) (id:String) (r:V→List V→Hp→VK→Prop):Prop :=
 ∀(pins:List (Addr×Obj)) (s:Shared) (σ:St) (H:Hp) (x:V) (xs:List V) (v:Value) (us:List Value) (Q:VK),Inv X pins σ H s→RelV x v→Vals xs us→r x xs H Q →
  wpAny (model X.prog X.w) X.A (call (.builtin id) (v::us)) (EP X pins σ Q) X.xe s
section
variable {X:Cx}{a b:Expr}{ta tb:TE}{pos:Pos}
theorem AN {r:R2}(hr:IxR X r) (ha:PE X a ta) (hb:PE X b tb) (hs:SA b):PE X (.Subscript a b pos) (tOp r ta tb):=by
 intro pins s σ H Q I h
 exact Subscript_ (Th ha hb I h fun v u s2 x y H2 I2 rx ry q=>hr a b pins s2 σ H2 x y v u Q I2 rx ry q (hs _ _))
def UG (K:PySem.W.Frag):R2:=fun x y H Q=>∃p xs i v,x=.ref p/\y=.int i/\SqL K H p xs/\atI xs i=some v/\Q v H
def UE (K:PySem.W.Frag):R2:=fun x y H Q=>∃p xs i v,x=.ref p/\y=.int i/\SqT K H p xs/\atI xs i=some v/\Q v H
def Uv:R2:=fun x y H Q=>∃z i c,x=.str z/\y=.int i/\z.length≤sizeLine/\atI z.cps.toList i=some c/\Q (.str ⟨#[c]⟩) H
theorem Ro:IxR X (UG X.K):=by
 intro value slice pins s σ H x y v u Q I rx ry h hs
 obtain ⟨p,xs,i,z,rfl,rfl,hq,he,q⟩:=h
 cases rx
 obtain ⟨t,rfl⟩:=ry
 obtain ⟨its,r,pl,hz⟩:=I.list hq
 obtain ⟨j,h1,h2,h3,h4,h5⟩:=LA he
 obtain ⟨w,ew,rw'⟩:=r.get h2
 have hl:=r.length
 have hn:=Ku
 have fin:EP X pins σ Q w s:=⟨z,H,I,rw',q⟩
 by_cases h0:0≤i
 ·have hj:i.toNat=j:=by
   rw [seqIndex_of h0 h5] at h1
   exact Option.some.inj h1
  exact item_listR pl.isList h0 (by omega) (by rw [hj];simpa using ew) fin hs
 ·have hj:(i+(its.toArray.size:Int)).toNat=j:=by
   rw [seqIndex_neg (by omega) h4] at h1
   rw [List.size_toArray,←hl]
   exact Option.some.inj h1
  exact subscriptTail_builtinR (x:=w) pl.isList.typeIs slot_list_getitem.lookup
   (wpAny_getItem_list_neg (Q:=fun r s'=>r=w/\EP X pins σ Q r s') pl.isList (by omega) (by rw [List.size_toArray] <;> omega) (by omega) (by rw [hj];simpa using ew) ⟨rfl,fin⟩) hs
theorem TU:IxR X (UE X.K):=by
 intro value slice pins s σ H x y v u Q I rx ry h hs
 obtain ⟨p,xs,i,z,rfl,rfl,hq,he,q⟩:=h
 cases rx
 obtain ⟨t,rfl⟩:=ry
 obtain ⟨its,r,pl,hz⟩:=I.tuple hq
 obtain ⟨j,h1,h2,h3,h4,h5⟩:=LA he
 obtain ⟨w,ew,rw'⟩:=r.get h2
 have hl:=r.length
 have hn:=Ku
 have fin:EP X pins σ Q w s:=⟨z,H,I,rw',q⟩
 exact subscriptTail_builtinR (x:=w) pl.typeIs slot_tuple_getitem.lookup
  (getItem_tuple (j:=j) (Q:=fun r s'=>r=w/\EP X pins σ Q r s') pl (by omega) (by omega) (by rw [List.size_toArray,←hl];exact h1) (by simpa using ew) ⟨rfl,fin⟩) hs
theorem TV:IxR X Uv:=by
 intro value slice pins s σ H x y v u Q I rx ry h hs
 obtain ⟨z,i,c,rfl,rfl,hz,he,q⟩:=h
 obtain ⟨t,rfl⟩:=rx
 obtain ⟨t',rfl⟩:=ry
 obtain ⟨j,h1,h2,h3,h4,h5⟩:=LA he
 have hl:z.cps.toList.length=z.length:=by simp [Str.length]
 rw [hl] at h1 h4 h5
 have hn:=Ku
 exact tail_any (typeIs_str s z t) slot_str_getitem.lookup (getItem_str (c:=c) (by
  have e1:decide (i < -(2 ^ 63:Int))=false:=decide_eq_false (by omega)
  have e2:decide (i≥2 ^ 63)=false:=decide_eq_false (by omega)
  rw [e1,e2,Bool.or_false]) (by rw [h1];simpa using h2) ⟨.str ⟨#[c]⟩,H,I.tok _,⟨_,rfl⟩,q⟩) hs
theorem Ki (lo hi:Option Int) (n:Nat):(sliceBounds lo hi none n).1=((HT.sIx n 0 lo:Nat):Int)/\(sliceBounds lo hi none n).2.1=((HT.sIx n n hi:Nat):Int)/\(sliceBounds lo hi none n).2.2=1:=by
 refine ⟨?_,?_,rfl⟩
 ·cases lo with
  | none=>simp [sliceBounds,HT.sIx]
  | some i =>
   simp only [sliceBounds,HT.sIx,Option.getD_none,show (1:Int) > 0 by decide,if_true]
   by_cases h:i<0
   ·simp only [h,if_true] <;> omega
   ·simp only [h,if_false] <;> omega
 ·cases hi with
  | none=>simp [sliceBounds,HT.sIx]
  | some i =>
   simp only [sliceBounds,HT.sIx,Option.getD_none,show (1:Int) > 0 by decide,if_true]
   by_cases h:i<0
   ·simp only [h,if_true] <;> omega
   ·simp only [h,if_false] <;> omega
theorem Jk (its:List Value) (lo hi:Option Int):slicePick its.toArray lo hi none=((its.drop (HT.sIx its.length 0 lo)).take (HT.sIx its.length its.length hi-HT.sIx its.length 0 lo)).toArray:=by
 obtain ⟨h1,h2,h3⟩:=Ki lo hi its.toArray.size
 unfold slicePick
 rw [h1,h2,h3]
 simp only [sliceRange_one,pick_run,List.size_toArray] <;> rfl
def UC (K:PySem.W.Frag):V→Option Int→Option Int→Hp→VK→Prop:=fun x lo hi H Q=>∃a xs,x=.ref a/\SqL K H a xs/\∀p,H p=none→Q (.ref p) (upd H p (.lst (F8 xs lo hi)))
theorem RB:SlR X (UC X.K):=by
 intro pins s σ H x v vl vu lo hi sl Q I rx hs pl pu h
 obtain ⟨a,xs,rfl,hx,q⟩:=h
 cases rx
 obtain ⟨its,r,ht,hz⟩:=I.list hx
 have hlen:=r.length
 refine ⟨"list", _,slot_list_getitem.lookup,ht.isList.typeIs,?_⟩
 refine wpAny_getItem_list_slice ht.isList hs pl pu .none (by simp) ?_ (by rw [List.size_toArray] <;> omega)
 rw [Jk,←hlen]
 refine ⟨.ref s.heap.objs.size,_,I.laid (t':=s.toks) (o:=.lst (F8 xs lo hi)) (fun b ob q=>Heap.get?_push_of_some _ q) (Nat.le_refl _) ?_,rfl,q _ (I.hok.fresh (Nat.le_refl _))⟩
 exact ⟨Nat.le_trans (MG xs lo hi) hz,_,0,(r.drop (HT.sIx xs.length 0 lo)).take (HT.sIx xs.length xs.length hi-HT.sIx xs.length 0 lo),Heap.get?_push_size _ rfl⟩
theorem K8:Cg X (.builtin "len") (fun xs H Q=>∃p ys,xs=[.ref p]/\(SqL X.K H p ys\/SqT X.K H p ys)/\Q (.int ys.length) H):=by
 intro pins s σ H xs us Q I r h
 obtain ⟨p,ys,rfl,hq,q⟩:=h
 obtain ⟨u,rfl,rx⟩:=vals1 r
 cases rx
 have hn:=Ku
 rcases hq with hq|hq
 ·obtain ⟨its,r',pl,hz⟩:=I.list hq
  have hlen:=r'.length
  exact Calls.call_len_list pl.isList (by simp only [List.size_toArray] <;> omega) ⟨.int ys.length,H,I.tok _,⟨s.toks+1,by rw [List.size_toArray,hlen]⟩,q⟩
 ·obtain ⟨its,r',pl,hz⟩:=I.tuple hq
  have hlen:=r'.length
  exact len_tuple pl (by simp only [List.size_toArray] <;> omega) ⟨.int ys.length,H,I.tok _,⟨s.toks+1,by rw [List.size_toArray,hlen]⟩,q⟩
theorem K7:Cg X (.type "list") (fun xs H Q=>∃p ys,xs=[.ref p]/\(SqL X.K H p ys\/SqT X.K H p ys)/\∀l,H l=none→Q (.ref l) (upd H l (.lst ys))):=by
 intro pins s σ H xs us Q I r h
 obtain ⟨p,ys,rfl,hq,q⟩:=h
 obtain ⟨u,rfl,rx⟩:=vals1 r
 cases rx
 have fin:∀(its:List Value),Vals ys its→ys.length≤sizeLine→∀(h':Heap) (c':Nat),(∀b o',s.heap.get? b=some o'→h'.get? b=some o') →
   h'.get? s.heap.objs.size=some { cls:=.type "list", dict:=none,data:=.seq its.toArray c',slots:=#[] }→EP X pins σ Q (.ref s.heap.objs.size) { s with heap:=h' }:=fun its r' hz h' c' kp e =>
  ⟨.ref s.heap.objs.size,_,I.laid (t':=s.toks) kp (Nat.le_refl _) (show A7 X.prog X.w _ h' _ (.lst ys) from ⟨hz,its,c',r',e⟩),rfl,q _ (I.hok.fresh (Nat.le_refl _))⟩
 rcases hq with hq|hq
 ·obtain ⟨its,r',pl,hz⟩:=I.list hq
  have hlen:=r'.length
  obtain ⟨o,ho,hc,n,hd⟩:=pl.isList
  exact call_list_seq p (.inl rfl) ho hc hd (fun h' c' kp e=>fin its r' hz h' c' kp e) (by simp only [List.size_toArray] <;> omega)
 ·obtain ⟨its,r',pl,hz⟩:=I.tuple hq
  have hlen:=r'.length
  obtain ⟨o,ho,hc,n,hd⟩:=pl
  exact call_list_seq p (.inr rfl) ho hc hd (fun h' c' kp e=>fin its r' hz h' c' kp e) (by simp only [List.size_toArray] <;> omega)
def tyV (K:PySem.W.Frag) (T:String) (x:V) (H:Hp):Prop:=match x with
 | .str _=>T = "str"
 | .int _=>T = "int"
 | .ref p=>(T = "list" /\ ∃xs,SqL K H p xs)\/(T = "tuple" /\ ∃o,K.lookup p=some o/\o.cls=.type "tuple" /\ o.dict=none) \/
   (T = "dict" /\ ((∃kvs,H p=some (.dK kvs))\/∃kvs,H p=some (.dT kvs)))\/(T = "set" /\ ∃S n,H p=some (.set S n))
 | _=>False
theorem SV {pins:List (Addr×Obj)}{σ:St}{H:Hp}{s:Shared}{T:String}{x:V}{v:Value}(I:Inv X pins σ H s) (r:RelV x v) (ty:tyV X.K T x H) :
  s.TypeIs v T/\∀a,v=.ref a→∃ob,s.heap.get? a=some ob/\ob.dict=none:=by
 cases x with
 | str z =>
  obtain ⟨t,rfl⟩:=r
  cases (show T = "str" from ty)
  exact ⟨typeIs_str s z t,fun _ e=>nomatch e⟩
 | int i =>
  obtain ⟨t,rfl⟩:=r
  cases (show T = "int" from ty)
  exact ⟨typeIs_int s i t,fun _ e=>nomatch e⟩
 | ref p =>
  cases r
  rcases ty with ⟨rfl,xs,hq⟩|⟨rfl,o,hk,hc,hd⟩|⟨rfl,hk⟩|⟨rfl,S,n,hk⟩
  ·obtain ⟨its,_,pl,_⟩:=I.list hq
   refine ⟨pl.isList.typeIs,fun a e=>?_⟩
   cases e
   obtain ⟨o,n,e,c,hd,_⟩:=pl
   exact ⟨o,e,hd⟩
  ·refine ⟨⟨o,I.kIn p o hk,hc⟩,fun a e=>?_⟩
   cases e
   exact ⟨o,I.kIn _ o hk,hd⟩
  ·have z:∃o,s.heap.get? p=some o/\o.ExactDict:=by
    rcases hk with ⟨kvs,hk⟩|⟨kvs,hk⟩
    ·obtain ⟨_,_,_,_,o,_,_,e,ex,_⟩:=I.hok p _ hk
     exact ⟨o,e,ex⟩
    ·obtain ⟨_,_,_,_,o,_,_,e,ex,_⟩:=I.hok p _ hk
     exact ⟨o,e,ex⟩
   obtain ⟨o,e,ex⟩:=z
   refine ⟨⟨o,e,ex.1⟩,fun a e2=>?_⟩
   cases e2
   exact ⟨o,e,ex.2.1⟩
  ·obtain ⟨o,_,_,_,e,ex,_⟩:=I.hok p _ hk
   refine ⟨⟨o,e,ex.1⟩,fun a e2=>?_⟩
   cases e2
   exact ⟨o,e,ex.2.1⟩
 | _=>exact False.elim ty
def tBM (K:PySem.W.Frag) (T:String) (r:V→List V→Hp→VK→Prop) (to:TE) (t:TA):TE:=fun σ H Q=>to σ H fun x H1=>tyV K T x H1/\t σ H1 fun xs H2=>r x xs H2 Q
variable {o e:Expr}{es:List Expr}{to:TE}{t:TA}{name:Str}{apos cpos:Pos}{T id:String}{r:V→List V→Hp→VK→Prop}
theorem UL (pa:PlainAttrs T) (slot:Slot T name id) (hty:typeOf (.builtin id)=pure (.type "method_descriptor")) (hm:MtR X id r) (ho:PE X o to) (ha:PA X (e::es) t)
  (hbase:attributeBase o name X.env (eval o X.env)=eval o X.env:=by rfl)
  (hfew:((backTo cpos (starEach (e::es) X.env)).all (fun x=>!x.1)&&(backToKw cpos (keywordEach [] X.env)).all (fun x=>x.1.isSome)
   && decide ((e::es).length+([]:List Keyword).length+(if ([]:List Keyword).isEmpty then 0 else 1)<30))=true:=by rfl)
  (hline:(apos.endLine==cpos.line)=true:=by rfl) (hs:starEach (e::es) X.env=(false,eval e X.env)::starEach es X.env:=by rfl) (hplain:(backTo cpos (starEach es X.env)).any (·.1)=false:=by rfl) :
  PE X (.Call (.Attribute o name apos) (e::es) [] cpos) (tBM X.K T r to t):=by
 intro pins s σ H Q I h
 refine wpAny_Call_method_late hbase hfew hline rfl (thn (ho pins s σ H _ I h) fun v s1 ⟨x,H1,I1,r1,ty,q1⟩=>?_)
 obtain ⟨h1,h2⟩:=SV I1 r1 ty
 refine ⟨T,id,pa,slot,hty,h1,h2,?_⟩
 have hA:=ha cpos pins s1 σ H1 _ I1 q1
 rw [hs] at hA ⊢
 refine Calls.callWith_builtin (by show (false||(backTo cpos (starEach es X.env)).any (·.1))=false;rw [hplain] <;> rfl) (Calls.evalArgs_plain ?_)
 exact thn hA fun us s2 ⟨vs,H2,I2,r2,q2⟩=>hm pins s2 σ H2 x vs v us Q I2 r1 r2 q2
end
end L2
namespace L2
open PySem PySem.Spec PyProof.Rows
def MtM (X:Cx) (id:String) (r:V→List V→Hp→VK→Prop):Prop :=
 ∀(pins:List (Addr×Obj)) (s:Shared) (σ:St) (H:Hp) (x:V) (xs:List V) (v:Value) (us:List Value) (Q:VK),Inv X pins σ H s→RelV x v→Vals xs us→r x xs H Q →
  wpAny (model X.prog X.w) X.A (call (.builtin id) (v::us)) (EP X pins σ Q) X.xe s
theorem Vals.one:∀{x:V}{us:List Value},Vals [x] us→∃u,us=[u]/\RelV x u
 | _,_,.cons r .nil=>⟨_,rfl,r⟩
section
variable {X:Cx}{pins:List (Addr×Obj)}{σ:St}{H:Hp}{s:Shared}{l b:Addr}{xs ys zs:List V}
theorem Inv.TH {its its':List Value}{n:Nat}{f:Array Value→Array Value}{t':Nat}(I:Inv X pins σ H s) (hH:H l=some (.lst xs))
  (e:s.heap.get? l=some { cls:=.type "list", data:=.seq its.toArray n }) (hf:f its.toArray=its'.toArray) (hv:Vals ys its') (hz:ys.length≤sizeLine) :
  Inv X pins σ (upd H l (.lst ys)) { s with heap:=s.heap.update l (Obj.mapSeq f),toks:=t' }:=by
 have q:=PySem.IsL.update e f
 rw [hf] at q
 refine I.write (x:=l) (e:=l) (by rw [hH];exact trivial) (.inl rfl) (fun b' u hb hu=>(Heap.get?_update_other s.heap (Obj.mapSeq f) (Ne.symm hb)).trans hu) ⟨_,q⟩ ?_
 exact ⟨hz,its',_,hv,q⟩
theorem Inv.Uz {its:List Value}{t':Nat}(I:Inv X pins σ H s) (hv:Vals ys its) (hz:ys.length≤sizeLine) :
  Inv X pins σ (upd H s.heap.objs.size (.lst ys)) { s with heap:=s.heap.push { cls:=.type "list", data:=.seq its.toArray },toks:=t' } :=
 I.laid (fun _ _ q=>Heap.get?_push_of_some _ q) (Nat.le_refl _) ⟨hz,its,0,hv,Heap.get?_push_size _ rfl⟩
theorem Inv.fresh (I:Inv X pins σ H s):H s.heap.objs.size=none:=I.hok.fresh (Nat.le_refl _)
theorem Inv.OT (I:Inv X pins σ H s) (hH:H l=some (.lst xs)):xs.length≤sizeLine/\∃(its:List Value) (n:Nat),Vals xs its/\xs.length=its.length/\s.heap.get? l=some { cls:=.type "list", data:=.seq its.toArray n }:=by
 obtain ⟨z,its,n,r,e⟩:=I.hok l _ hH
 exact ⟨z,its,n,r,r.length,e⟩
theorem P6 {n:Nat}(h:n≤sizeLine):Builtin.List.listTooLong n=false:=by
 unfold Builtin.List.listTooLong
 exact decide_eq_false (by omega)
end
section
variable {X:Cx}
def RJ:V→List V→Hp→VK→Prop:=fun x vs H Q=>∃l xs y,x=.ref l/\vs=[y]/\H l=some (.lst xs)/\xs.length<sizeLine/\Q .non (upd H l (.lst (xs++[y])))
theorem BX:MtM X "list.append" RJ:=by
 intro pins s σ H x vs v us Q I rx rv h
 obtain ⟨l,xs,y,rfl,rfl,hH,hz,q⟩:=h
 cases rx
 obtain ⟨u,rfl,ru⟩:=rv.one
 obtain ⟨z,its,n,r,hl,e⟩:=I.OT hH
 refine call_meets F.slot_list_append ⟨_,e,rfl⟩ F.entry_list_append (F.args_list_append_2 _ _) (PySem.list_append l its.toArray n u (by rw [List.size_toArray];omega)) ⟨e,?_⟩
 refine ⟨.non,_,I.TH (its':=its++[u]) hH e (by simp) (r.append (.cons ru .nil)) ?_,rfl,q⟩
 rw [List.length_append,List.length_singleton]
 omega
def RI:V→List V→Hp→VK→Prop:=fun x vs H Q=>∃l b xs zs,x=.ref l/\vs=[.ref b]/\H l=some (.lst xs)/\H b=some (.lst zs)/\xs.length+zs.length≤sizeLine/\Q .non (upd H l (.lst (xs++zs)))
theorem KC:MtM X "list.extend" RI:=by
 intro pins s σ H x vs v us Q I rx rv h
 obtain ⟨l,b,xs,zs,rfl,rfl,hH,hB,hz,q⟩:=h
 cases rx
 obtain ⟨u,rfl,ru⟩:=rv.one
 cases ru
 obtain ⟨z,its,n,r,hl,e⟩:=I.OT hH
 obtain ⟨z2,its2,n2,r2,hl2,e2⟩:=I.OT hB
 have hsz:its.toArray.size+its2.toArray.size≤sizeLine:=by rw [List.size_toArray,List.size_toArray];omega
 have hlong:¬ (!its.toArray.isEmpty&&Builtin.List.listTooLong (its.toArray.size+its2.toArray.size))=true:=by
  rw [P6 hsz,Bool.and_false]
  exact Bool.false_ne_true
 refine call_meets F.slot_list_extend ⟨_,e,rfl⟩ F.entry_list_extend (F.args_list_extend_2 _ _)
  (AutoSeq1.list_extend_list_list_0 l its.toArray n b its2.toArray n2 hlong (by rw [List.size_toArray];omega) (by omega)) ⟨e,e2,?_⟩
 refine ⟨.non,_,I.TH (its':=its++its2) hH e (by simp) (r.append r2) ?_,rfl,q⟩
 rw [List.length_append]
 omega
def Uw:R2:=fun x y H Q=>∃l b xs zs,x=.ref l/\y=.ref b/\H l=some (.lst xs)/\H b=some (.lst zs)/\xs.length+zs.length≤sizeLine/\∀p,H p=none→Q (.ref p) (upd H p (.lst (xs++zs)))
theorem FD:OpR X (binaryOp .Add) Uw:=by
 intro pins s σ H x y v u Q I rx ry h
 obtain ⟨l,b,xs,zs,rfl,rfl,hH,hB,hz,q⟩:=h
 cases rx
 cases ry
 obtain ⟨z,its,n,r,hl,e⟩:=I.OT hH
 obtain ⟨z2,its2,n2,r2,hl2,e2⟩:=I.OT hB
 refine PySem.P.add_list e e2 ?_ (by rw [List.size_toArray,List.size_toArray];omega)
 have ea:its.toArray++its2.toArray=(its++its2).toArray:=by simp
 rw [ea]
 exact ⟨.ref _,_,I.Uz (t':=s.toks) (r.append r2) (by rw [List.length_append];omega),rfl,q _ I.fresh⟩
end
section
variable {prog:Program}{w:World}{A:Around}{E:Value→Shared→Prop}{s:Shared}
end
section
variable {X:Cx}
end
end L2
namespace L2
open PySem PySem.Spec PyProof.Rows
section
variable {κ:Type}[DecidableEq κ]
def A0 (kvs:List (κ×V)) (k:κ):Option V:=(kvs.find? fun kv=>decide (kv.1=k)).map (·.2)
def putK (kvs:List (κ×V)) (k:κ) (v:V):List (κ×V) :=
 if (kvs.any fun kv=>decide (kv.1=k))=true then kvs.map (fun kv=>if kv.1=k then (kv.1,v) else kv) else kvs++[(k,v)]
def CT (kvs:List (κ×V)) (k:κ):List (κ×V):=kvs.filter fun kv=>decide (kv.1≠k)
theorem Bj {p:κ×V}{r:List (κ×V)}{k:κ}(e:p.1=k):A0 (p::r) k=some p.2:=by simp [A0,List.find?_cons,e]
theorem Bl {p:κ×V}{r:List (κ×V)}{k:κ}(e:¬ p.1=k):A0 (p::r) k=A0 r k:=by simp [A0,List.find?_cons,e]
theorem Ey (k:κ):∀kvs:List (κ×V),(kvs.any fun kv=>decide (kv.1=k))=(A0 kvs k).isSome
 | []=>rfl
 | p::r=>by
  rw [List.any_cons]
  by_cases e:p.1=k
  ·simp only [Bj e,decide_eq_true e,Bool.true_or,Option.isSome_some]
  ·rw [Bl e,decide_eq_false e,Bool.false_or];exact Ey k r
theorem LJ (k j:κ) (y:V):∀kvs:List (κ×V),A0 (kvs.map fun kv=>if kv.1=k then (kv.1,y) else kv) j=(A0 kvs j).map fun x=>if j=k then y else x
 | []=>rfl
 | p::r=>by
  have ih:=LJ k j y r
  rw [List.map_cons]
  by_cases h:p.1=k
  ·rw [if_pos h]
   by_cases e:p.1=j
   ·rw [Bj (p:=(p.1,y)) e,Bj e,Option.map_some,if_pos (e.symm.trans h)]
   ·rw [Bl (p:=(p.1,y)) e,Bl e,ih]
  ·rw [if_neg h]
   by_cases e:p.1=j
   ·rw [Bj (p:=p) e,Bj e,Option.map_some,if_neg (fun z=>h (e.trans z))]
   ·rw [Bl (p:=p) e,Bl e,ih]
theorem Jt (k j:κ) (y:V):∀kvs:List (κ×V),A0 kvs k=none→A0 (kvs++[(k,y)]) j=if j=k then some y else A0 kvs j
 | [],_=>by
  by_cases e:k=j
  ·rw [if_pos e.symm];exact Bj (p:=(k,y)) e
  ·rw [if_neg (fun z=>e z.symm)];exact Bl (p:=(k,y)) e
 | p::r,hn=>by
  rw [List.cons_append]
  have hk:¬ p.1=k:=fun z=>by rw [Bj z] at hn;cases hn
  rw [Bl hk] at hn
  have ih:=Jt k j y r hn
  by_cases e:p.1=j
  ·rw [Bj e,Bj e,if_neg (fun z=>hk (e.trans z))]
  ·rw [Bl e,Bl e,ih]
theorem LI (kvs:List (κ×V)) (k j:κ) (y:V):A0 (putK kvs k y) j=if j=k then some y else A0 kvs j:=by
 unfold putK
 by_cases a:(kvs.any fun kv=>decide (kv.1=k))=true
 ·rw [if_pos a,LJ]
  rw [Ey] at a
  by_cases e:j=k
  ·obtain ⟨x,hx⟩:=Option.isSome_iff_exists.mp a
   rw [if_pos e,e,hx,Option.map_some,if_pos rfl]
  ·rw [if_neg e]
   cases A0 kvs j with
   | none=>rfl
   | some x=>rw [Option.map_some,if_neg e]
 ·rw [if_neg a]
  refine Jt k j y kvs ?_
  rw [Ey] at a
  cases q:A0 kvs k with
  | none=>rfl
  | some x=>rw [q] at a;exact (a rfl).elim
theorem Dg (kvs:List (κ×V)) (k:κ) (v:V):(putK kvs k v).length≤kvs.length+1:=by
 unfold putK
 split
 ·rw [List.length_map];omega
 ·rw [List.length_append,List.length_cons,List.length_nil];omega
theorem C9.Ob {o:Option V}{u:Option Value}(r:C9 o u):o.isSome=u.isSome:=by
 cases o with
 | none=>cases u with
  | none=>rfl
  | some _=>exact (show False from r).elim
 | some _=>cases u with
  | none=>exact (show False from r).elim
  | some _=>rfl
theorem C9.getD {o:Option V}{u:Option Value}{d:V}{d':Value}(r:C9 o u) (rd:RelV d d'):RelV (o.getD d) (u.getD d'):=by
 cases o with
 | none=>cases u with
  | none=>exact rd
  | some _=>exact (show False from r).elim
 | some _=>cases u with
  | none=>exact (show False from r).elim
  | some _=>exact r
theorem KV.val {kvs:List (κ×V)}{vs:List (κ×Value)}(r:KV kvs vs) (k:κ):C9 (A0 kvs k) (valueAt vs k):=by
 unfold KV at r
 induction r with
 | nil=>exact True.intro
 | @cons p q ps qs h t ih =>
  obtain ⟨h1,h2⟩:=h
  by_cases e:p.1=k
  ·have e':q.1=k:=h1.symm.trans e
   have b:valueAt (q::qs) k=some q.2:=by simp [valueAt,List.find?_cons,e']
   rw [Bj e,b];exact h2
  ·have e':¬ q.1=k:=fun z=>e (h1.trans z)
   have b:valueAt (q::qs) k=valueAt qs k:=by simp [valueAt,List.find?_cons,e']
   rw [Bl e,b];exact ih
theorem KV.any {kvs:List (κ×V)}{vs:List (κ×Value)}(r:KV kvs vs) (k:κ):(kvs.any fun kv=>decide (kv.1=k))=vs.any fun kv=>decide (kv.1=k):=by
 unfold KV at r
 induction r with
 | nil=>rfl
 | cons h t ih=>rw [List.any_cons,List.any_cons,ih,h.1]
theorem KV.So {kvs:List (κ×V)}{vs:List (κ×Value)}(r:KV kvs vs) (k:κ) {y:V}{u:Value}(ry:RelV y u) :
  KV (kvs.map fun kv=>if kv.1=k then (kv.1,y) else kv) (vs.map fun kv=>if kv.1=k then (kv.1,u) else kv):=by
 unfold KV at r ⊢
 induction r with
 | nil=>exact .nil
 | @cons p q ps qs h t ih =>
  rw [List.map_cons,List.map_cons]
  refine .cons ?_ ih
  obtain ⟨h1,h2⟩:=h
  by_cases e:p.1=k
  ·rw [if_pos e,if_pos (h1.symm.trans e)];exact ⟨h1,ry⟩
  ·rw [if_neg e,if_neg (fun z=>e (h1.trans z))];exact ⟨h1,h2⟩
theorem KV.put {kvs:List (κ×V)}{vs:List (κ×Value)}(r:KV kvs vs) (k:κ) {y:V}{u:Value}(ry:RelV y u):KV (putK kvs k y) (stored vs k u):=by
 unfold putK stored
 rw [r.any k]
 by_cases e:(vs.any fun kv=>decide (kv.1=k))=true
 ·rw [if_pos e,if_pos e];exact r.So k ry
 ·rw [if_neg e,if_neg e];exact Paired.snoc r ⟨rfl,ry⟩
theorem KV.drop {kvs:List (κ×V)}{vs:List (κ×Value)}(r:KV kvs vs) (k:κ):KV (CT kvs k) (without vs k):=by
 unfold KV at r ⊢
 unfold CT without
 induction r with
 | nil=>exact .nil
 | @cons p q ps qs h t ih =>
  obtain ⟨h1,h2⟩:=h
  rw [List.filter_cons,List.filter_cons]
  by_cases e:p.1=k
  ·have a:¬ decide (p.1≠k)=true:=by simp [e]
   have b:¬ decide (q.1≠k)=true:=by simp [h1.symm.trans e]
   rw [if_neg a,if_neg b];exact ih
  ·have e':¬ q.1=k:=fun z=>e (h1.trans z)
   have a:decide (p.1≠k)=true:=by simp [e]
   have b:decide (q.1≠k)=true:=by simp [e']
   rw [if_pos a,if_pos b];exact .cons ⟨h1,h2⟩ ih
theorem KV.length {kvs:List (κ×V)}{vs:List (κ×Value)}(r:KV kvs vs):kvs.length=vs.length:=Paired.length r
theorem Qd (kvs:List (κ×V)) (k:κ):(CT kvs k).length≤kvs.length:=List.length_filter_le _ _
end
theorem KI {P:Program}{w:World}{k:Key}{u:Value}(r:RelV (kV k) u):(AR P w).is k u=true:=by
 cases k with
 | inl i=>obtain ⟨t,e⟩:=(show ∃t,u=Value.int i t from r);subst e;exact Lx P w i t
 | inr x=>obtain ⟨t,e⟩:=(show ∃t,u=Value.str x t from r);subst e;exact Lv P w x t
theorem KJ {P:Program}{w:World}:∀{ks:List Key}{us:List Value},Vals (ks.map kV) us→ItemsAre (AR P w) ks us
 | [],_,r=>by rw [List.map_nil] at r;cases r;exact .nil
 | k::ks,_,r=>by
  rw [List.map_cons] at r
  cases r with
  | cons h t=>exact .cons (KI h) (KJ t)
abbrev KT (H:Hp):List (List Key×V)→List (List Key×Addr×Value)→Prop:=Paired fun p q=>p.1=q.1/\H q.2.1=some (.tup (p.1.map kV))/\RelV p.2 q.2.2
theorem KT.val {H:Hp}{kvs:List (List Key×V)}{xs:List (List Key×Addr×Value)}(r:KT H kvs xs) (k:List Key):C9 (A0 kvs k) ((atKey xs k).map (·.2)):=by
 induction r with
 | nil=>exact True.intro
 | @cons p q ps qs h t ih =>
  obtain ⟨h1,_,h2⟩:=h
  by_cases e:p.1=k
  ·have e':q.1=k:=h1.symm.trans e
   have b:atKey (q::qs) k=some q.2:=by simp [atKey,List.find?_cons,e']
   rw [Bj e,b];exact h2
  ·have e':¬ q.1=k:=fun z=>e (h1.trans z)
   have b:atKey (q::qs) k=atKey qs k:=by simp [atKey,List.find?_cons,e']
   rw [Bl e,b];exact ih
theorem KT.So {H:Hp}{kvs:List (List Key×V)}{xs:List (List Key×Addr×Value)}(r:KT H kvs xs) (k:List Key) {y:V}{u:Value}(ry:RelV y u) :
  KT H (kvs.map fun kv=>if kv.1=k then (kv.1,y) else kv) (xs.map (putAt k u)):=by
 induction r with
 | nil=>exact .nil
 | @cons p q ps qs h t ih =>
  rw [List.map_cons,List.map_cons]
  refine .cons ?_ ih
  obtain ⟨h1,h2,h3⟩:=h
  unfold putAt
  by_cases e:p.1=k
  ·rw [if_pos e,if_pos (h1.symm.trans e)];exact ⟨h1,h2,ry⟩
  ·rw [if_neg e,if_neg (fun z=>e (h1.trans z))];exact ⟨h1,h2,h3⟩
theorem KT.put {H:Hp}{kvs:List (List Key×V)}{xs:List (List Key×Addr×Value)}(r:KT H kvs xs) (k:List Key) {b:Addr}{y:V}{u:Value}(hb:H b=some (.tup (k.map kV))) (ry:RelV y u) :
  KT H (putK kvs k y) (storedH xs k b u):=by
 have e:(kvs.any fun kv=>decide (kv.1=k))=(atKey xs k).isSome:=by
  rw [Ey,(r.val k).Ob,Option.isSome_map]
 unfold putK storedH
 rw [e]
 by_cases q:(atKey xs k).isSome=true
 ·rw [if_pos q,if_pos q];exact r.So k ry
 ·rw [if_neg q,if_neg q];exact Paired.snoc r ⟨rfl,hb,ry⟩
theorem KT.keeps {H H':Hp}{kvs:List (List Key×V)}{xs:List (List Key×Addr×Value)}(r:KT H kvs xs) (ht:∀b ys,H b=some (.tup ys)→H' b=some (.tup ys)):KT H' kvs xs :=
 Paired.TC r fun _ _ z=>⟨z.1,ht _ _ z.2.1,z.2.2⟩
section
variable {P:Program}{w:World}{H:Hp}{h:Heap}{a:Addr}
theorem SI {u:HO}(ok:HOk P w H h) (e:Rd H a u):A7 P w H h a u:=e.ok ok
theorem ME {kvs:List (Key×V)}(ok:HOk P w H h) (e:Rd H a (.dK kvs)):kvs.length≤sizeLine/\(a==sysModules)=false/\∃vs,KV kvs vs/\h.DictOf (AR P w) a vs :=
 show A7 P w H h a (.dK kvs) from SI ok e
theorem JZ {kvs:List (Key×V)}(ok:HOk P w H h) (e:H a=some (.dK kvs)):kvs.length≤sizeLine/\(a==sysModules)=false/\∃vs,KV kvs vs/\h.DictOf (AR P w) a vs:=ME ok (.inl e)
theorem HG {ks:List Key}(ok:HOk P w H h) (e:H a=some (.tup (ks.map kV))):(tupleKind (AR P w)).is h ks a:=by
 obtain ⟨_,its,r,o,h1,h2,n,h3⟩:=(show A7 P w H h a (.tup (ks.map kV)) from ok a _ e)
 exact ⟨o,its.toArray,n,h1,h2,h3,by simpa using KJ r⟩
theorem MC {kvs:List (List Key×V)}(ok:HOk P w H h) (e:Rd H a (.dT kvs)):kvs.length≤sizeLine/\(a==sysModules)=false /\
  ∃xs,KT H kvs xs/\h.DictOfH (tupleKind (AR P w)) a xs:=by
 obtain ⟨z,y,xs,r,o,es,ep,h1,h2,h3,h4,h5⟩:=(show A7 P w H h a (.dT kvs) from SI ok e)
 refine ⟨z,y,xs,r,o,es,ep,h1,h2,h3,h4,fun x hx=>?_,h5⟩
 have all:∀{l:List (List Key×V)} {m:List (List Key×Addr×Value)},KT H l m→∀x∈m,(tupleKind (AR P w)).is h x.1 x.2.1:=by
  intro l m q
  induction q with
  | nil=>intro x hx;exact nomatch hx
  | @cons p q ps qs hq t ih =>
   intro x hx
   rcases List.mem_cons.mp hx with e|hx
   ·subst e
    exact HG ok (by rw [←hq.1];exact hq.2.1)
   ·exact ih x hx
 exact all r x hx
theorem Qc {kvs:List (List Key×V)}(ok:HOk P w H h) (e:H a=some (.dT kvs)):kvs.length≤sizeLine/\(a==sysModules)=false /\
  ∃xs,KT H kvs xs/\h.DictOfH (tupleKind (AR P w)) a xs:=MC ok (.inl e)
end
def Jp (H:Hp) (a:Addr) (y:V) (r:Option V):Prop :=
 (∃kvs k,Rd H a (.dK kvs)/\y=kV k/\r=A0 kvs k)\/∃kvs k b,Rd H a (.dT kvs)/\y=.ref b/\H b=some (.tup (k.map kV))/\r=A0 kvs k
def Ox (H:Hp) (a:Addr) (y v:V) (H':Hp):Prop :=
 (∃kvs k,H a=some (.dK kvs)/\y=kV k/\kvs.length<sizeLine/\H'=upd H a (.dK (putK kvs k v))) \/
 ∃kvs k b,H a=some (.dT kvs)/\y=.ref b/\H b=some (.tup (k.map kV))/\kvs.length<sizeLine/\H'=upd H a (.dT (putK kvs k v))
theorem Jp.k {H:Hp}{a:Addr}{kvs:List (Key×V)}{k:Key}(e:H a=some (.dK kvs)):Jp H a (kV k) (A0 kvs k):=.inl ⟨kvs,k,.inl e,rfl,rfl⟩
theorem Ox.k {H:Hp}{a:Addr}{kvs:List (Key×V)}{k:Key}{v:V}(e:H a=some (.dK kvs)) (hl:kvs.length<sizeLine):Ox H a (kV k) v (upd H a (.dK (putK kvs k v))):=.inl ⟨kvs,k,e,rfl,hl,rfl⟩
section
variable {X:Cx}{pins:List (Addr×Obj)}{σ:St}{H:Hp}{s:Shared}{a:Addr}{y v:V}{u r:Value}{o:Option V}{A:Around}{E:Value→Shared→Prop}
theorem Inv.big (I:Inv X pins σ H s):sysModules<s.heap.objs.size:=by
 have h:mainGlobals<s.heap.objs.size:=(I.mod.glob.keeps I.bk).lt
 exact Nat.lt_trans (by decide) h
theorem Ol {Q:Value→Shared→Prop}(hu:A.units+1<cLine) (I:Inv X pins σ H s) (g:Jp H a y (some v)) (ry:RelV y u) (h:∀w' s',Inv X pins σ H s'→RelV v w'→Q w' s') :
  wpAny (model X.prog X.w) A (getItem (.ref a) u) Q E s:=by
 rcases g with ⟨kvs,k,e,ey,l⟩|⟨kvs,k,b,e,ey,eb,l⟩
 ·subst ey
  obtain ⟨z,hd,vs,rel,dd⟩:=ME I.hok e
  obtain ⟨w',hw,rw'⟩:=C9.some_of (v:=v) (o:=valueAt vs k) (by rw [l];exact rel.val k)
  exact wpAny_getItem_of (KI ry) dd.mapOf hw (h w' _ (I.tok _) rw')
 ·subst ey
  cases (show u=Value.ref b from ry)
  obtain ⟨z,hd,xs,rel,dd⟩:=MC I.hok e
  obtain ⟨w',hw,rw'⟩:=C9.some_of (v:=v) (o:=(atKey xs k).map (·.2)) (by rw [l];exact rel.val k)
  obtain ⟨p,hp,hp2⟩:=Option.map_eq_some_iff.mp hw
  refine wpAny_getItem_heap (tupleKind_room_in1 hu) (HG I.hok eb) dd hp ?_
  rw [hp2]
  exact h w' _ (I.tok _) rw'
theorem Gg {h':Heap}{t':Nat}{ob:HO}(I:Inv X pins σ H s) (mu:Mut (H a)) (hs:Heap.SameBut a s.heap h') (he:∃q,h'.get? a=some q) (new:A7 X.prog X.w (upd H a ob) h' a ob) :
  Inv X pins σ (upd H a ob) { s with heap:=h',toks:=t' } :=
 I.write (x:=a) (e:=a) mu (.inl rfl) (fun b q hb z=>(hs.2 b hb).trans z) he new
theorem M6 {P:Program}{w:World}{H':Hp}{h':Heap}{kvs:List (Key×V)}{vs:List (Key×Value)}(z:kvs.length≤sizeLine) (hd:(a==sysModules)=false) (rel:KV kvs vs) (dd:h'.DictOf (AR P w) a vs) :
  A7 P w H' h' a (.dK kvs):=⟨z,hd,vs,rel,dd⟩
theorem Oj {H':Hp}{Q:Unit→Shared→Prop}(hu:A.units+1<cLine) (I:Inv X pins σ H s) (g:Ox H a y v H') (ry:RelV y u) (rv:RelV v r) (h:∀s',Inv X pins σ H' s'→Q () s') :
  wpAny (model X.prog X.w) A (setItem (.ref a) u r) Q E s:=by
 rcases g with ⟨kvs,k,e,ey,l,eH⟩|⟨kvs,k,b,e,ey,eb,l,eH⟩
 ·subst ey eH
  obtain ⟨z,hd,vs,rel,dd⟩:=JZ I.hok e
  have hz:vs.length≤sizeLine:=by rw [←rel.length];exact z
  have hl:(putK kvs k v).length≤sizeLine:=by have:=Dg kvs k v;omega
  refine wpAny_setItem_pairs (hsz:=hz) (KI ry) dd fun h' dd' hs=>h _ ?_
  have he:∃q,h'.get? a=some q:=let ⟨q,_,_,hq,_⟩:=dd';⟨q,hq⟩
  exact Gg I (by rw [e];exact True.intro) hs he (M6 hl hd (rel.put k rv) dd')
 ·subst ey eH
  cases (show u=Value.ref b from ry)
  obtain ⟨z,hd,xs,rel,dd⟩:=Qc I.hok e
  have hz:xs.length≤sizeLine:=by rw [←Paired.length rel];exact z
  have hl:(putK kvs k v).length≤sizeLine:=by have:=Dg kvs k v;omega
  refine wpAny_setItem_heap (hsz:=hz) (tupleKind_room_in1 hu) (HG I.hok eb) dd fun h' dd' hs=>h _ ?_
  obtain ⟨q,es,ep,hq,h2,h3,h4,_,h5⟩:=dd'
  refine Gg I (by rw [e];exact True.intro) hs ⟨q,hq⟩ ⟨hl,hd,_,(rel.put k eb rv).keeps fun c ys ec=>?_,q,es,ep,hq,h2,h3,h4,h5⟩
  rw [AF (SQ ec e (fun z=>nomatch z))]
  exact ec
end
section
variable {X:Cx}{pins:List (Addr×Obj)}{σ:St}{H:Hp}{s:Shared}{a:Addr}{kvs:List (Key×V)}{k:Key}{u:Value}{A:Around}{E:Value→Shared→Prop}
theorem UX {v:V}{more:List Value}{Q:Value→Shared→Prop}(I:Inv X pins σ H s) (e:H a=some (.dK kvs)) (ry:RelV (kV k) u) (l:A0 kvs k=some v) (hm:more=[]\/∃x,more=[x])
  (h:∀w' s',Inv X pins σ (upd H a (.dK (CT kvs k))) s'→RelV v w'→Q w' s'):wpAny (model X.prog X.w) A (call (.builtin "dict.pop") (.ref a::u::more)) Q E s:=by
 obtain ⟨z,hd,vs,rel,dd⟩:=JZ I.hok e
 obtain ⟨w',hw,rw'⟩:=C9.some_of (v:=v) (o:=valueAt vs k) (by rw [←l];exact rel.val k)
 have hp:(keyPart u).isSome=true:=by
  cases k with
  | inl i=>obtain ⟨t,q⟩:=(show ∃t,u=Value.int i t from ry);subst q;rfl
  | inr x=>obtain ⟨t,q⟩:=(show ∃t,u=Value.str x t from ry);subst q;rfl
 have ha:argsOk "dict.pop" ⟨.ref a::u::more,[]⟩:=by
  rcases hm with q|⟨x,q⟩
  ·subst q;exact PySem.F.args_dict_pop_2 _ _
  ·subst q;exact PySem.F.args_dict_pop_3 _ _ _
 refine call_meetsIn PySem.F.slot_dict_pop dd.typeIs PySem.F.entry_dict_pop ha (meets_dict_pop_there (AR X.prog X.w) a (KI ry) more hm hp)
  ⟨vs,w',dd,by rw [←rel.length];exact z,hw,fun h' dd' hs=>h w' _ ?_ rw'⟩
 have he:∃q,h'.get? a=some q:=let ⟨q,_,_,hq,_⟩:=dd';⟨q,hq⟩
 exact Gg I (by rw [e];exact True.intro) hs he (M6 (Nat.le_trans (Qd kvs k) z) hd (rel.drop k) dd')
end
def Ua (i:Expr):Prop:=∀ov iv,subscripted i false ov iv=operate [ov,iv] (getItem ov iv)
theorem Qy {prog:Program}{w:World}{A:Around}{E:Value→Shared→Prop}{s:Shared}{env:Env}{value slice:Expr}{pos:Pos}{T id:String}{Q:Value→Shared→Prop}
  (hl:typeLookup (.type T) "__getitem__" = pure (some (.builtin id))) (hs:Ua slice)
  (h:wpAny (model prog w) A (eval value env) (fun o s₁=>wpAny (model prog w) A (eval slice env) (fun i s₂=>s₂.TypeIs o T/\wpAny (model prog w) A (getItem o i) Q E s₂) E s₁) E s) :
  wpAny (model prog w) A (eval (.Subscript value slice pos) env) Q E s:=by
 refine Subscript_ (wpAny_mono h (fun o s₁ h₁=>wpAny_mono h₁ (fun i s₂ h₂=>?_) fun _ _ x=>x) fun _ _ x=>x)
 obtain ⟨hT,h₂⟩:=h₂
 unfold subscriptTail
 refine wpAny_bind ?_
 rw [getitemInPython_of_ne hT.not_modules]
 refine wpAny_bind (wpAny_specialOf hT hl ?_)
 have fin:wpAny (model prog w) A (subscripted slice false o i) (fun r s₃=>wpAny (model prog w) A (letTemporaryGo value o r >>= fun _=>pure r) Q E s₃) E s₂:=by
  rw [hs o i]
  exact wpAny_operating (wpAny_mono h₂ (fun r s₃ h₃=>wpAny_bind (wpAny_letTemporaryGo (wpAny_pure h₃))) fun _ _ x=>x)
 first
  | exact wpAny_pure (wpAny_bind fin)
  | exact wpAny_bind (wpAny_pure (wpAny_bind fin))
  | exact wpAny_bind fin
theorem MF {X:Cx}{pins:List (Addr×Obj)}{σ:St}{H:Hp}{s:Shared}{a:Addr}{y:V}{o:Option V}(I:Inv X pins σ H s) (g:Jp H a y o):s.TypeIs (.ref a) "dict" := by
 rcases g with ⟨kvs,k,e,_,_⟩|⟨kvs,k,b,e,_,_,_⟩
 ·obtain ⟨_,_,vs,_,dd⟩:=ME I.hok e
  exact dd.typeIs
 ·obtain ⟨_,_,xs,_,dd⟩:=MC I.hok e
  exact dd.typeIs
def T3 (td ty:TE):TE:=fun σ H Q=>td σ H fun x H1=>ty σ H1 fun y H2=>∃a v,x=.ref a/\Jp H2 a y (some v)/\Q v H2
def UB (td ty tv:TE):TS:=fun D σ H=>tv σ H fun v H1=>td σ H1 fun x H2=>ty σ H2 fun y H3=>∃a H4,x=.ref a/\Ox H3 a y v H4/\D.nx σ H4
section
variable {X:Cx}{o i e value:Expr}{pos pos' tpos:Pos}{td ty tv:TE}
theorem NW (hu:X.A.units+1<cLine) (ho:PE X o td) (hi:PE X i ty) (hs:Ua i):PE X (.Subscript o i pos) (T3 td ty):=by
 intro pins s σ H Q I h
 refine Qy PySem.F.slot_dict_getitem.lookup hs (thn (ho pins s σ H _ I h) fun u s1 ⟨x,H1,I1,rx,q1⟩=>thn (hi pins s1 σ H1 _ I1 q1) fun iv s2 ⟨y,H2,I2,ry,a,v,ex,g,q2⟩=>?_)
 subst ex
 obtain rfl:u=Value.ref a:=rx
 exact ⟨MF I2 g,Ol hu I2 g ry fun w' s3 I3 rw'=>⟨v,H2,I3,rw',q2⟩⟩
theorem NV (hu:X.A.units+1<cLine) (ho:PE X o td) (hi:PE X i ty) (hv:PE X value tv) (hs:swapsWith value (some (.Subscript o i pos')) pos.line X.env=pure false) :
  PS X (.Assign [.Subscript o i pos'] value pos) (UB td ty tv):=by
 intro pins s σ H D I h
 refine wpAny_Assign_Subscript (thn (hv pins s σ H _ I h) fun r s1 ⟨v,H1,I1,rv,q1⟩=>thn (ho pins s1 σ H1 _ I1 q1) fun u s2 ⟨x,H2,I2,rx,q2⟩=>thn (hi pins s2 σ H2 _ I2 q2) fun iv s3 ⟨y,H3,I3,ry,a,H4,ex,g,q3⟩=>?_) hs
 subst ex
 obtain rfl:u=Value.ref a:=rx
 exact Oj hu I3 g ry rv fun s4 I4=>⟨σ,H4,I4,q3⟩
end
theorem Qe {P:Program} {w:World} {H:Hp} (h:Heap) (hb:sysModules<h.objs.size):A7 P w H (h.push { cls:=.type "dict", data:=.dict #[] }) h.objs.size (.dK []) :=
 ⟨Nat.zero_le _,beq_eq_false_iff_ne.mpr (Ne.symm (Nat.ne_of_lt hb)),[],.nil,Heap.DictOf.new h⟩
theorem MD {P:Program} {w:World} {H:Hp} (h:Heap) (hb:sysModules<h.objs.size):A7 P w H (h.push { cls:=.type "dict", data:=.dict #[] }) h.objs.size (.dT []) :=
 ⟨Nat.zero_le _,beq_eq_false_iff_ne.mpr (Ne.symm (Nat.ne_of_lt hb)),[],.nil,_,#[],0,Heap.get?_push_size _ rfl,⟨rfl,rfl,rfl⟩,rfl,rfl,List.nodup_nil⟩
def Se:TE:=fun _ H Q=>∀p,H p=none→Q (.ref p) (upd H p (.dK []))
def Sb:TE:=fun _ H Q=>∀p,H p=none→Q (.ref p) (upd H p (.dT []))
section
variable {X:Cx}{pos:Pos}
theorem Lh:PE X (.Dict [] [] pos) Se:=fun pins s σ H Q I h =>
 wpAny_Dict_empty ⟨.ref s.heap.objs.size,_,I.laid (a:=s.heap.objs.size) (o:=.dK []) (t':=s.toks) (fun _ _ q=>Heap.get?_push_of_some _ q) (Nat.le_refl _) (Qe s.heap I.big),rfl,h _ (I.hok.fresh (Nat.le_refl _))⟩
theorem Pm:PE X (.Dict [] [] pos) Sb:=fun pins s σ H Q I h =>
 wpAny_Dict_empty ⟨.ref s.heap.objs.size,_,I.laid (a:=s.heap.objs.size) (o:=.dT []) (t':=s.toks) (fun _ _ q=>Heap.get?_push_of_some _ q) (Nat.le_refl _) (MD s.heap I.big),rfl,h _ (I.hok.fresh (Nat.le_refl _))⟩
end
structure M1 (X:Cx) (o:Expr) (m:Str) (apos:Pos) (e:Expr) (cpos:Pos):Prop where
 base:attributeBase o m X.env (eval o X.env)=eval o X.env
 few:((backTo cpos (starEach [e] X.env)).all (fun x=>!x.1)&&(backToKw cpos (keywordEach [] X.env)).all (fun x=>x.1.isSome)
  && decide (([e]:List Expr).length+([]:List Keyword).length+(if ([]:List Keyword).isEmpty then 0 else 1)<30))=true
 line:(apos.endLine==cpos.line)=true
 trees:backTo cpos (starEach [e] X.env)=[(false,eval e X.env)]
structure M2 (X:Cx) (o:Expr) (m:Str) (apos:Pos) (e f:Expr) (cpos:Pos):Prop where
 base:attributeBase o m X.env (eval o X.env)=eval o X.env
 few:((backTo cpos (starEach [e,f] X.env)).all (fun x=>!x.1)&&(backToKw cpos (keywordEach [] X.env)).all (fun x=>x.1.isSome)
  && decide (([e,f]:List Expr).length+([]:List Keyword).length+(if ([]:List Keyword).isEmpty then 0 else 1)<30))=true
 line:(apos.endLine==cpos.line)=true
 trees:backTo cpos (starEach [e,f] X.env)=[(false,eval e X.env),(false,eval f X.env)]
def IsD (H:Hp) (a:Addr):Prop:=(∃kvs,Rd H a (.dK kvs))\/∃kvs,Rd H a (.dT kvs)
theorem Ky {X:Cx}{pins:List (Addr×Obj)}{σ:St}{H:Hp}{s:Shared}{a:Addr}(I:Inv X pins σ H s) (d:IsD H a) :
  s.TypeIs (.ref a) "dict" /\ (∀b,Value.ref a=.ref b→∃ob,s.heap.get? b=some ob/\ob.dict=none)/\(a==sysModules)=false:=by
 rcases d with ⟨kvs,e⟩|⟨kvs,e⟩
 ·obtain ⟨_,hd,vs,_,dd⟩:=ME I.hok e
  refine ⟨dd.typeIs,fun b q=>?_,hd⟩
  cases q
  obtain ⟨ob,_,_,h1,h2,_⟩:=dd
  exact ⟨ob,h1,h2.2.1⟩
 ·obtain ⟨_,hd,xs,_,dd⟩:=MC I.hok e
  refine ⟨dd.typeIs,fun b q=>?_,hd⟩
  cases q
  obtain ⟨ob,_,_,h1,h2,_⟩:=dd
  exact ⟨ob,h1,h2.2.1⟩
section
variable {X:Cx}{pins:List (Addr×Obj)}{σ:St}{H:Hp}{s:Shared}{a:Addr}{y d:V}{u r:Value}{o:Option V}{A:Around}{E:Value→Shared→Prop}
theorem Tf {Q:Value→Shared→Prop}(hu:A.units+1<cLine) (I:Inv X pins σ H s) (g:Jp H a y o) (ry:RelV y u) (rd:RelV d r) (h:∀w' s',Inv X pins σ H s'→RelV (o.getD d) w'→Q w' s') :
  wpAny (model X.prog X.w) A (call (.builtin "dict.get") [.ref a,u,r]) Q E s:=by
 rcases g with ⟨kvs,k,e,ey,l⟩|⟨kvs,k,b,e,ey,eb,l⟩
 ·subst ey
  obtain ⟨z,hd,vs,rel,dd⟩:=ME I.hok e
  refine call_meetsIn PySem.F.slot_dict_get dd.typeIs PySem.F.entry_dict_get (PySem.F.args_dict_get_3 _ _ _) (meets_dict_get_default (AR X.prog X.w) a (KI ry) hd r) ⟨_,dd.mapOf,h _ _ (I.tok _) ?_⟩
  rw [l]
  exact (rel.val k).getD rd
 ·subst ey
  cases (show u=Value.ref b from ry)
  obtain ⟨z,hd,xs,rel,dd⟩:=MC I.hok e
  refine call_meetsIn PySem.F.slot_dict_get dd.typeIs PySem.F.entry_dict_get (PySem.F.args_dict_get_3 _ _ _) (meetsH_dict_get_default (tupleKind (AR X.prog X.w)) a b hd r) ⟨tupleKind_room_in1 hu,k,xs,HG I.hok eb,dd,h _ _ (I.tok _) ?_⟩
  rw [l]
  exact (rel.val k).getD rd
end
def Sf (td ty tx:TE):TE:=fun σ H Q=>td σ H fun x H1=>∃a,x=.ref a/\IsD H1 a/\ty σ H1 fun y H2=>tx σ H2 fun z H3=>∃o,Jp H3 a y o/\Q (o.getD z) H3
def Sa (td ty:TE):TE:=fun σ H Q=>td σ H fun x H1=>∃a,x=.ref a/\IsD H1 a/\ty σ H1 fun y H2=>∃kvs k v,H2 a=some (.dK kvs)/\y=kV k/\A0 kvs k=some v/\Q v (upd H2 a (.dK (CT kvs k)))
section
variable {X:Cx}{o e f:Expr}{apos cpos:Pos}{td ty tx:TE}
theorem Pn (hu:X.A.units+1<cLine) (ho:PE X o td) (he:PE X e ty) (hf:PE X f tx) (m:M2 X o "get" apos e f cpos):PE X (.Call (.Attribute o "get" apos) [e,f] [] cpos) (Sf td ty tx):=by
 intro pins s σ H Q I h
 refine wpAny_Call_method m.base m.few m.line PySem.F.plainAttrs_dict PySem.F.slot_dict_get PySem.F.type_dict_get (thn (ho pins s σ H _ I h) fun u s1 ⟨x,H1,I1,rx,a,ex,d,q1⟩=>?_)
 subst ex
 obtain rfl:u=Value.ref a:=rx
 obtain ⟨t1,t2,_⟩:=Ky I1 d
 refine ⟨t1,t2,?_⟩
 rw [m.trees]
 refine Calls.callWith_builtin rfl (Calls.evalArgs_plain (Calls.spliced_cons (thn (he pins s1 σ H1 _ I1 q1) fun iv s2 ⟨y,H2,I2,ry,q2⟩ =>
  Calls.spliced_cons (thn (hf pins s2 σ H2 _ I2 q2) fun fv s3 ⟨z,H3,I3,rz,ov,g,q3⟩=>Calls.spliced_nil ?_))))
 exact Tf hu I3 g ry rz fun w' s4 I4 rw'=>⟨_,H3,I4,rw',q3⟩
theorem Pl (ho:PE X o td) (he:PE X e ty) (m:M1 X o "pop" apos e cpos):PE X (.Call (.Attribute o "pop" apos) [e] [] cpos) (Sa td ty):=by
 intro pins s σ H Q I h
 refine wpAny_Call_method m.base m.few m.line PySem.F.plainAttrs_dict PySem.F.slot_dict_pop PySem.F.type_dict_pop (thn (ho pins s σ H _ I h) fun u s1 ⟨x,H1,I1,rx,a,ex,d,q1⟩=>?_)
 subst ex
 obtain rfl:u=Value.ref a:=rx
 obtain ⟨t1,t2,_⟩:=Ky I1 d
 refine ⟨t1,t2,?_⟩
 rw [m.trees]
 refine Calls.callWith_builtin rfl (Calls.evalArgs_plain (Calls.spliced_cons (thn (he pins s1 σ H1 _ I1 q1) fun iv s2 ⟨y,H2,I2,ry,kvs,k,v,ea,ey,l,q2⟩=>Calls.spliced_nil ?_)))
 subst ey
 exact UX I2 ea ry l (.inl rfl) fun w' s3 I3 rw'=>⟨v,_,I3,rw',q2⟩
end
section
variable {X:Cx}{pins:List (Addr×Obj)}{σ:St}{H:Hp}{s:Shared}{a:Addr}{kvs:List (Key×V)}{A:Around}{E:Value→Shared→Prop}
end
section
variable {X:Cx}{pins:List (Addr×Obj)}{σ:St}{H:Hp}{s:Shared}{a:Addr}{y:V}{u:Value}{A:Around}{E:Value→Shared→Prop}
end
end L2
namespace Att
open PySem PySem.W PySem.Calls PyProof.Rows
theorem IF {P:Params}{h:Heap}:∀(ns:List Int) (vs:List Value),WellAll P h vs (ns.map WData.int)→IntsAre vs ns:=by
 intro ns
 induction ns with
 | nil =>
  intro vs w
  rw [List.map_nil] at w
  cases w
  exact .nil
 | cons n ns ih =>
  intro vs w
  rw [List.map_cons] at w
  cases w with
  | cons a b =>
   cases a
   exact .cons _ _ (ih _ b)
theorem N6 {l:OpenLaw}{n:Nat}(hn:l.most=some n) {P:Params}{h:Heap}{args:List WData}{vals:List Value}
  (hpre:l.row.toRowW.claim.pre args=true) (hwl:WellAll P h vals args) :
  ∃a vs ns,vals=[Value.ref a]/\args=[WData.list (ns.map WData.int)]/\h.get? a=some { cls:=.type "list", data:=.seq vs.toArray }/\IntsAre vs ns/\ns.length≤n:=by
 have hsh:WShape.hasAll [] args [.list .int]=true:=(pre_splitW hpre).1
 have hc:l.pre.holds [] { args:=args }=true:=(pre_splitW hpre).2
 obtain ⟨d,r,rfl,h1,h2⟩:=hasAllW_cons hsh
 obtain rfl:=hasAllW_nil h2
 obtain ⟨xs,rfl,h3⟩:=hasW_list h1
 obtain ⟨ns,rfl⟩:=items_int h3
 have hlen:ns.length≤n:=by
  unfold OpenLaw.pre at hc
  have h4:(WTm.not (.lt (.lit (.int (n:Int))) (.len (.arg 0)))).holds [] { args:=[.list (ns.map .int)] }=true:=by
   have h4:=(holds_andW hc).1
   rw [hn] at h4
   exact h4
  have h5:=condW_of h4 (w_not (w_lt w_lit (w_len_list (w_arg rfl))))
  rw [List.length_map] at h5
  refine Nat.le_of_not_lt fun q=>?_
  have q':(n:Int)<((ns.length:Nat):Int):=by omega
  first
   | (rw [decide_eq_true q'] at h5;exact absurd h5 (by decide))
   | (simp at h5;omega)
 cases hwl with
 | cons w1 w2 =>
  cases w2
  cases w1 with
  | list ho hall=>exact ⟨_,_,ns,rfl,rfl,ho,IF ns _ hall,hlen⟩
theorem OD (l:OpenLaw) (args:List WData):l.row.toRowW.claim.post args (.bool true) args=true :=
 postW_of (r:=l.row.toRowW) (X:=(true==true))
  (show WShape.has [] (.bool true) .bool=true by first|rfl|decide|simp [WShape.has,WShape.arms,WShape.armsAll])
  (show (WTm.eq .res (.lit (.bool true))).value [] { args:=args,res:=some (.bool true),after:=args }=some (.bool (true==true)) from w_eq_bool (w_res rfl) w_lit) rfl
theorem ML {l:OpenLaw}{n:Nat}{q:Program}{loose:List Str}{XP:(Str→Option Value)→Heap→Prop}{YP:World→Heap→Prop}{d:DefRec}
  (hn:l.most=some n) (hdf:d.params.defaults=[])
  (call:∀(w:World) (s₀ s₁:Shared) (mg mb:Str→Option Value) (fa:Addr) (o:Obj) (pm cd doc:Value) (a:Addr) (vs:List Value) (ns:List Int),
   Ground q loose [] XP w s₀ mg mb s₁.heap→YP w s₁.heap →
   s₁.heap.get? fa=some o→o.data=.func (docDef d.name d.params d.body d.scope pm cd doc)→s₁.heap.CodeRec cd d.name→mg d.name=some (.ref fa) →
   s₁.heap.get? a=some { cls:=.type "list", data:=.seq vs.toArray }→IntsAre vs ns→ns.length≤n→s₁.gens=#[] →
   codeAny (model l.prog w) callerA (.call (.ref fa) ⟨[.ref a],[]⟩) (fun r s'=>r=.ok (.ret (.bool true))/\OldK s₁.heap s'.heap/\s'.os=s₁.os/\AllBare s'.gens) s₁) :
  WalkO q loose XP YP l.row.toRowW d [] (fun f vs=>PySem.call f vs):=by
 intro w s₀ s₁ mg mb G Y fa o pm cd doc dV kV ho hd hcd hD hmg hg args vals as hpre hlay hrd hwl hlo
 obtain rfl:dV=.none:=Dflts.none hD hdf
 obtain rfl:kV=.none:=Dflts.noKw hD
 obtain ⟨a,vs,ns,rfl,rfl,hobj,hints,hlen⟩:=N6 hn hpre hwl
 refine enter_call (codeAny_mono (call w s₀ s₁ mg mb fa o pm cd doc a vs ns G Y ho (fd_plain hd) hcd hmg hobj hints hlen hg) fun r s' hq=>?_)
 obtain ⟨rfl,h2,h3,h4⟩:=hq
 exact ⟨.inl ⟨.bool true,.bool true,[],rfl,fun _=>rfl,.bool true,OD l _,fun _=>⟨List.Pairwise.nil,fun _ hm=>(nomatch hm)⟩⟩,h2,h3,h4⟩
section
variable {prog:Program}{w:World}{A:Around}{E:Value→Shared→Prop}{s:Shared}{K:Frag}
end
end Att
namespace L2
open PySem PySem.Spec PyProof.Rows
theorem Js:∀{vs:List Value}{ns:List Int},IntsAre vs ns→Vals (ns.map V.int) vs
 | _,_,.nil=>.nil
 | _,_,.cons n t h=>.cons ⟨t,rfl⟩ (Js h)
def Qs (H:Hp):Prop:=∀b,H b=none\/∃o xs,H b=some (.frz o (.lst xs))
theorem QL {P:Program}{w:World}{K:PySem.W.Frag}{mg mb:Str→Option Value}{CX:CXT}{k:Nat}{fa a:Addr}{fd:FuncData}{x:Str}{sp:Sp}{s₁:Shared}{vs:List Value}{ns:List Int}
  (KX:K.In s₁.heap) (hns:s₁.heap.Ns mainGlobals mg) (hb:s₁.heap.Ns builtinsNs mb) (hbb:∀x:Str,x ≠ "__name__" → mb x=bootBuiltins x) (hlim:s₁.heap.NoLimit) (hg:s₁.gens=#[])
  (ha:s₁.heap.get? a=some { cls:=.type "list", data:=.seq vs.toArray }) (hi:IntsAre vs ns) (hl:ns.length≤sizeLine) (hr:BZ k callerA)
  (F:∀base:Heap,K.In base→base.Ns mainGlobals mg→A9 P w K mg base CX k fa fd [x] sp) (hbind:∀(s:Shared) (u:Value),BindsTo s fd ⟨[u],[]⟩ [(x,u)])
  (hsp:∀H:Hp,Qs H→SqL K H a (ns.map V.int)→sp [.ref a] H (fun v _=>v=.bl true) fun _ _ _=>False)
  (hCX:∀H e s',CX [] H s₁ (fun _ _ _=>False) e s'→False) :
  codeAny (model P w) callerA (.call (.ref fa) ⟨[.ref a],[]⟩) (fun r s'=>r=.ok (.ret (.bool true))/\OldK s₁.heap s'.heap/\s'.os=s₁.os/\AllBare s'.gens) s₁:=by
 have rv:=Js hi
 have lenV:=hi.length
 have core:∀H:Hp,Qs H→SqL K H a (ns.map V.int)→HOk P w H s₁.heap→(∀b,H b≠none→b=a)→(H a≠none→K.lookup a=none) →
   codeAny (model P w) callerA (.call (.ref fa) ⟨[.ref a],[]⟩) (fun r s'=>r=.ok (.ret (.bool true))/\OldK s₁.heap s'.heap/\s'.os=s₁.os/\AllBare s'.gens) s₁:=by
  intro H hO hS hok hA hK
  have base_of:∀{b:Addr} {o:Obj},s₁.heap.get? b=some o→H b=none→(Kz s₁.heap H).get? b=some o:=fun e n=>QR e n
  have noA:∀{b:Addr} {o:Obj} {es:Array DictEntry} {ep:Nat},s₁.heap.get? b=some o→o.data=.dict es ep→H b=none:=fun {b o es ep} e d=>by
   cases q:H b with
   | none=>rfl
   | some u =>
    have e':b=a:=hA b (by rw [q];simp)
    subst e'
    rw [ha] at e;cases e
    have d':Data.seq vs.toArray _=Data.dict es ep:=d
    cases d'
  have nsK:∀{b:Addr} {m:Str→Option Value},s₁.heap.Ns b m→(Kz s₁.heap H).Ns b m:=fun {b m} ⟨o,es,ep,e,d,r⟩=>⟨o,es,ep,base_of e (noA e d),d,r⟩
  have hKb:K.In (Kz s₁.heap H):=fun b o e=>base_of (KX b o e) (by
   cases q:H b with
   | none=>rfl
   | some u =>
    have e':b=a:=hA b (by rw [q];simp)
    subst e'
    rw [hK (by rw [q];simp)] at e;cases e)
  have hM:Mod K mg (Kz s₁.heap H):=⟨hKb,nsK hns,⟨mb,nsK hb,hbb⟩,let ⟨mc,h1,h2⟩:=hlim;⟨mc,nsK h1,h2⟩⟩
  have e0:Jo P w K mg (Kz s₁.heap H) callerA [] s₁ H:=⟨rfl,hM,fun b o e=>Rf e,Nat.le_of_eq (Od _ _),trivial,fun b hb=>absurd (show b∈([]:List Addr) from hb) (by simp),hok,.of_eq hg⟩
  refine codeAny_mono ((F _ hKb (nsK hns)).run callerA [] s₁ H ⟨[.ref a],[]⟩ [.ref a] [.ref a] _ _ hr e0 (hbind s₁ (.ref a)) (.cons rfl .nil) (hsp H hO hS)) fun r s' h=>?_
  cases r with
  | error e=>exact (hCX H e s' h).elim
  | ok fl =>
   cases fl with
   | next=>exact False.elim h
   | brk=>exact False.elim h
   | cont=>exact False.elim h
   | ret u =>
    obtain ⟨v,H',os,bare,un,hok',r',q⟩:=h
    have q':v=.bl true:=q
    subst q'
    obtain rfl:u=Value.bool true:=r'
    refine ⟨rfl,OldK.of_keep fun b o e=>?_,os,bare⟩
    cases q:H b with
    | none=>exact un.keep b o e q (by intro z;exact absurd (show b∈([]:List Addr) from z) (by simp)) (by simp)
    | some u =>
     rcases hO b with z|⟨ob,xs,z⟩
     ·rw [q] at z;cases z
     ·have z2:=un.IG b ob _ z
      obtain ⟨e1,_⟩:=hok b _ z
      obtain ⟨e2,_⟩:=hok' b _ z2
      rw [e] at e1;cases e1
      exact e2
 cases hk:K.lookup a with
 | some o =>
  have e:=KX a o hk
  rw [ha] at e
  cases e
  refine core (fun _=>none) (fun _=>.inl rfl) (.inr ⟨_,vs.toArray,_,hk,rfl,rfl,rfl,by rw [List.size_toArray,lenV];exact hl,by simpa using rv⟩) (fun b u z=>by have z':(none:Option HO)=some u:=z;cases z') (fun b z=>absurd rfl z) fun z=>absurd rfl z
 | none =>
  refine core (fun b=>if b=a then some (.frz { cls:=.type "list", data:=.seq vs.toArray } (.lst (ns.map V.int))) else none) (fun b=>?_) (.inl (.inr ⟨{ cls:=.type "list", data:=.seq vs.toArray },if_pos rfl⟩)) (fun b u z=>?_) (fun b z=>?_) fun _=>hk
  ·by_cases hb:b=a
   ·exact .inr ⟨_,_,if_pos hb⟩
   ·exact .inl (if_neg hb)
  ·by_cases hb:b=a
   ·have z':=(if_pos hb).symm.trans z
    cases z'
    subst hb
    exact ⟨ha,by rw [List.length_map];exact hl,vs,_,rv,ha⟩
   ·have z':=(if_neg hb).symm.trans z
    cases z'
  ·by_cases hb:b=a
   ·exact hb
   ·exact absurd (if_neg hb) z
end L2
namespace L2
open PySem PySem.Spec PyProof.Rows
theorem Qv {l:PySem.W.OpenLaw}{n k:Nat}{q:Program}{loose:List Str}{XP:(Str→Option Value)→Heap→Prop}{YP:World→Heap→Prop}{d:DefRec}{K:Params→PySem.W.Frag}{CX:World→CXT}{sp:World→Sp}{x:Str}
  (hn:l.most=some n) (hn2:n≤sizeLine) (hdf:d.params.defaults=[]) (hr:BZ k callerA)
  (hY:∀(w:World) (h:Heap),YP w h→(K w.params).In h)
  (F:∀(w:World) (mg:Str→Option Value) (fa:Addr) (h:Heap),(K w.params).In h→h.Ns mainGlobals mg→mg d.name=some (.ref fa) →
   ∃fd:FuncData,(∀(s:Shared) (u:Value),BindsTo s fd ⟨[u],[]⟩ [(x,u)]) /\
    ∀base:Heap,(K w.params).In base→base.Ns mainGlobals mg→A9 l.prog w (K w.params) mg base (CX w) k fa fd [x] (sp w))
  (hsp:∀(w:World) (H:Hp) (a:Addr) (ns:List Int),ns.length≤n→Qs H→SqL (K w.params) H a (ns.map V.int)→sp w [.ref a] H (fun v _=>v=.bl true) fun _ _ _=>False)
  (hCX:∀(w:World) (H:Hp) (s:Shared) (e:Value) (s':Shared),CX w [] H s (fun _ _ _=>False) e s'→False) :
  PySem.W.WalkO q loose XP YP l.row.toRowW d [] (fun f vs=>PySem.call f vs):=by
 refine Att.ML hn hdf fun w s₀ s₁ mg mb fa o pm cd doc a vs ns G Y ho hd hcd hmg hobj hints hlen hg=>?_
 have KX:=hY w _ Y
 obtain ⟨fd,hb,hF⟩:=F w mg fa _ KX G.T.g hmg
 exact QL KX G.T.g G.T.b G.T.builtins G.T.nolimit hg hobj hints (Nat.le_trans hlen hn2) hr hF hb (fun H hO hS=>hsp w H a ns hlen hO hS) fun H e s'=>hCX w H s₁ e s'
theorem O0 {l:PySem.W.OpenLaw}{n k:Nat}{q:Program}{loose:List Str}{XP:(Str→Option Value)→Heap→Prop}{YP:World→Heap→Prop}{d:DefRec}{K:Params→PySem.W.Frag}{CX:CXT}{sp:PySem.W.Frag→Sp}{x:Str}
  (hn:l.most=some n) (hn2:n≤sizeLine) (hdf:d.params.defaults=[]) (hr:BZ k callerA)
  (hY:∀(w:World) (h:Heap),YP w h→(K w.params).In h)
  (F:∀(w:World) (mg:Str→Option Value) (fa:Addr) (h:Heap),(K w.params).In h→h.Ns mainGlobals mg→mg d.name=some (.ref fa) →
   ∃fd:FuncData,(∀(s:Shared) (u:Value),BindsTo s fd ⟨[u],[]⟩ [(x,u)]) /\
    ∀base:Heap,(K w.params).In base→base.Ns mainGlobals mg→A9 l.prog w (K w.params) mg base CX k fa fd [x] (sp (K w.params)))
  (hsp:∀(K:PySem.W.Frag) (H:Hp) (a:Addr) (ns:List Int),ns.length≤n→Qs H→SqL K H a (ns.map V.int)→sp K [.ref a] H (fun v _=>v=.bl true) fun _ _ _=>False)
  (hCX:∀(H:Hp) (s:Shared) (e:Value) (s':Shared),CX [] H s (fun _ _ _=>False) e s'→False) :
  PySem.W.WalkO q loose XP YP l.row.toRowW d [] (fun f vs=>PySem.call f vs) :=
 Qv (K:=K) (CX:=fun _=>CX) (sp:=fun w=>sp (K w.params)) hn hn2 hdf hr hY F (fun w H a ns h1 h2 h3=>hsp (K w.params) H a ns h1 h2 h3) fun _ H s e s'=>hCX H s e s'
end L2
namespace L2
open PySem PySem.Spec PyProof.Rows
def inClass (s:Stmt) (j:Nat):Stmt:=match s with
 | .ClassDef _ _ _ body _ _ _ _ _ _ _=>body.getD j (.Pass ⟨0,0,0,0⟩)
 | _=>.Pass ⟨0,0,0,0⟩
def IQ (s:Stmt):Arguments:=match s with
 | .FunctionDef _ a _ _ _ _ _ _ _ _=>a
 | _=>{ posonlyargs:=[],args:=[],vararg:=none,kwonlyargs:=[],kw_defaults:=[],kwarg:=none,defaults:=[] }
def Gf (s:Stmt):List Stmt:=match s with
 | .FunctionDef _ _ b _ _ _ _ _ _ _=>b
 | _=>[]
def AM (s:Stmt):Scope:=match s with
 | .FunctionDef _ _ _ _ _ _ sc _ _ _=>sc
 | _=>{ kind:=.function,names:=[],isGenerator:=false,isCoroutine:=false }
abbrev CX0:CXT:=fun _ _ _ _ _ _=>False
abbrev E0:XK:=fun _ _ _=>False
theorem As {X:Cx}:Passes CX0 X E0:=fun _ _ _ _ _ _ _ h=>h.elim
structure Fun (K:PySem.W.Frag) (x qual:Str) (st:Stmt) (f:Addr) (fd:FuncData):Prop where
 ex:∃(oc:Value) (od:Option Addr) (kV doc pm:Value) (an:Option Addr) (cdv ct:Value) (osl:Array (Option Value)),
  fd=PySem.W.fnOf x qual (IQ st) (Gf st) (AM st) .none kV doc pm an cdv ct/\K.lookup f=some ⟨oc,od,.func fd,osl⟩/\PySem.W.codeIn K cdv qual=true
 kp:PySem.W.keepIn K (.ref f)=true
section
variable {P:Program}{w:World}{K:PySem.W.Frag}{mg:Str→Option Value}{base:Heap}
theorem Fun.ok {x qual:Str}{st:Stmt}{f:Addr}{fd:FuncData}{N ps:List Str}{k:Nat}{sp:Sp}(F:Fun K x qual st f fd) (S:Aj N ps (AM st)) (len:∀vs H Q E,sp vs H Q E→vs.length=ps.length)
  (hbody:∀(cdv:Value) (A:Around) (outer:List Env) (s:Shared) (H:Hp) (vs:List V) (Q:VK) (E:XK),BZ k (A.deeper (envOfC qual (AM st) s.heap.objs.size f cdv))→sp vs H Q E →
   ∃t,PSs (Om CX0 P w K mg base N qual (AM st) f cdv A outer s H E).nox (Gf st) t/\t { nx:=fun _ H'=>Q .non H',rt:=Q } (start N vs) H):A9 P w K mg base CX0 (k+1) f fd ps sp:=by
 obtain ⟨oc,od,kV,doc,pm,an,cdv,ct,osl,rfl,lk,hcd⟩:=F.ex
 refine UW lk hcd S len fun A outer s H vs Q E hr hsp=>?_
 obtain ⟨t,h,q⟩:=hbody cdv A outer s H vs Q E hr hsp
 exact ⟨t,h.nox,q⟩
theorem Fun.binds {x qual:Str}{st:Stmt}{f:Addr}{fd:FuncData}{ps:List Str}(F:Fun K x qual st f fd)
  (h:∀(kV doc pm:Value) (an:Option Addr) (cdv ct:Value) (us:List Value),us.length=ps.length→bindArgs (PySem.W.fnOf x qual (IQ st) (Gf st) (AM st) .none kV doc pm an cdv ct) ⟨us,[]⟩=pure (ps.zip us)):Binds K fd ps []:=by
 obtain ⟨oc,od,kV,doc,pm,an,cdv,ct,osl,rfl,lk,hcd⟩:=F.ex
 exact .all (h kV doc pm an cdv ct)
theorem Tc {x qual:Str}{st:Stmt}{f:Addr}{oc:Value}{od an:Option Addr}{osl:Array (Option Value)}{kV doc pm cdv ct:Value}(l:K.lookup f=some ⟨oc,od,.func (PySem.W.fnOf x qual (IQ st) (Gf st) (AM st) .none kV doc pm an cdv ct),osl⟩)
  (c:PySem.W.codeIn K cdv qual=true) (k:PySem.W.keepIn K (.ref f)=true):Fun K x qual st f (PySem.W.fnOf x qual (IQ st) (Gf st) (AM st) .none kV doc pm an cdv ct):=⟨⟨oc,od,kV,doc,pm,an,cdv,ct,osl,rfl,l,c⟩,k⟩
end
section
variable {X:Cx}
theorem pv (i:Nat) {x:Str}{pos:Pos}(hN:X.N[i]?=some x:=by rfl) (hv:Vis X.env.scope x:=by first|exact Or.inl rfl|exact Or.inr (Or.inl rfl)|exact Or.inr (Or.inr rfl)) (hd:(x==("__debug__" : Str))=false:=by decide)
  (hcd:(x==("__classdict__" : Str))=false:=by decide):PE X (.Name x pos) (Tr i):=Sv hN hv hd hcd
end
section
variable {X:Cx}
end
theorem D7 {A B:Prop}(h:B):if false=true then A else B:=by
 rw [if_neg Bool.false_ne_true]
 exact h
theorem QP {A B:Prop}(h:A):if true=true then A else B:=by
 rw [if_pos rfl]
 exact h
def AH (H H':Hp):Prop:=∀b o,H b=some o→H' b=some o
theorem AH.refl (H:Hp):AH H H:=fun _ _ h=>h
theorem AH.trans {H H1 H2:Hp}(a:AH H H1) (b:AH H1 H2):AH H H2:=fun c o h=>b c o (a c o h)
theorem AH.free {H H':Hp}(e:AH H H') {l:Addr}(h:H' l=Option.none):H l=Option.none:=by
 cases q:H l with
 | none=>rfl
 | some o =>
  rw [e l o q] at h
  cases h
theorem AH.seq {K:PySem.W.Frag}{H H':Hp}{a:Addr}{xs:List V}(e:AH H H') (h:SqL K H a xs):SqL K H' a xs:=by
 rcases h with (h|⟨o,h⟩)|h
 ·exact .inl (.inl (e _ _ h))
 ·exact .inl (.inr ⟨o,e _ _ h⟩)
 ·exact .inr h
section
variable {κ:Type}[DecidableEq κ]
theorem O2 {kvs:List (κ×V)}{k:κ}(h:A0 kvs k=none):¬ k∈kvs.map (·.1):=by
 intro m
 obtain ⟨p,hp,e⟩:=List.mem_map.mp m
 have q:(kvs.any fun kv=>decide (kv.1=k))=true:=List.any_eq_true.mpr ⟨p,hp,decide_eq_true e⟩
 rw [Ey,h] at q
 exact absurd q (by simp)
theorem Na:∀{l:List κ}{k:κ},l.Nodup→¬ k∈l→(l++[k]).Nodup
 | [],k,_,_=>by simp
 | a::r,k,h,hk=>by
  obtain ⟨h1,h2⟩:=List.nodup_cons.mp h
  show (a::(r++[k])).Nodup
  refine List.nodup_cons.mpr ⟨fun m=>?_,Na h2 fun m=>hk (List.mem_cons.mpr (Or.inr m))⟩
  rcases List.mem_append.mp m with q|q
  ·exact h1 q
  ·exact hk (List.mem_cons.mpr (Or.inl (List.mem_singleton.mp q).symm))
end
end L2
namespace L2
open PySem PySem.Spec PyProof.Rows
theorem HOk.SE {P:Program}{w:World}{H:Hp}{h:Heap}{a:Addr}{o:HO}(x:HOk P w H h) (hn:H a=none) (new:A7 P w (upd H a o) h a o):HOk P w (upd H a o) h:=by
 intro b u e
 by_cases hb:b=a
 ·subst hb
  rw [AB] at e
  cases e
  exact new
 ·rw [AF hb] at e
  refine (x b u e).LR (fun _ _ _ q=>q) (fun c q=>?_) fun c xs q=>?_
  ·rw [AF (AK q hn)];exact q
  ·rw [AF (AK q hn)];exact q
theorem HOk.other {P:Program}{w:World}{H:Hp}{h h':Heap}{a:Addr}(x:HOk P w H h) (hn:H a=none) (k:∀b u,b≠a→h.get? b=some u→h'.get? b=some u):HOk P w H h':=by
 intro b u e
 refine (x b u e).LR (fun c v hc q=>k c v ?_ q) (fun _ q=>q) fun _ _ q=>q
 rcases hc with z|z
 ·rw [z];exact AK e hn
 ·exact AK z hn
def Ce (env:Env) (cs:List (Str×Addr)) (x:Str×NameKind):List (Str×Addr):=if x.2=.free then (x.1,(env.cells.lookup x.1).getD 0)::cs else cs
def Ds (env:Env) (names:List (Str×NameKind)):List (Str×Addr):=names.foldl (Ce env) []
theorem JU {α β:Type}{f:α→β→Sem (ForInStep β)}{g:β→α→β}:∀(l:List α) (acc:β),(∀x∈l,∀c,f x c=pure (.yield (g c x)))→forIn l acc f=pure (l.foldl g acc)
 | [],acc,_=>rfl
 | x::l,acc,h=>by
  rw [List.forIn_cons,h x List.mem_cons_self acc]
  show forIn l (g acc x) f=_
  rw [JU l (g acc x) fun y hy=>h y (List.mem_cons_of_mem _ hy)]
  rfl
theorem Fm {scope:Scope}{env:Env}(h:∀y∈scope.names,y.2=.free→∃c,env.cells.lookup y.1=some c):closureFor scope env=pure (Ds env scope.names):=by
 simp only [closureFor]
 rw [JU (g:=Ce env) scope.names [] fun x hx c=>by
  obtain ⟨n,kind⟩:=x
  by_cases hk:kind=.free
  ·subst hk
   obtain ⟨a,ha⟩:=h _ hx rfl
   have ha':env.cells.lookup n=some a:=ha
   simp only [beq_self_eq_true,if_true,Ce,cellOf,ha',Option.getD_some]
   rfl
  ·have hb:(kind==NameKind.free)=false:=by simpa using hk
   simp only [hb,Bool.false_eq_true,if_false,Ce,hk]]
 rfl
theorem HP {env:Env}{y:Str}{c:Addr}:∀(names:List (Str×NameKind)) (acc:List (Str×Addr)),(names.foldl (Ce env) acc).lookup y=some c →
  acc.lookup y=some c\/((y,NameKind.free)∈names/\(env.cells.lookup y).getD 0=c)
 | [],acc,h=>.inl h
 | (n,k)::r,acc,h=>by
  rw [List.foldl_cons] at h
  rcases HP r _ h with q|⟨q,z⟩
  ·unfold Ce at q
   by_cases hk:k=.free
   ·rw [if_pos hk,List.lookup_cons] at q
    cases hy:y==n with
    | true =>
     rw [hy] at q
     have e:y=n:=eq_of_beq hy
     subst e hk
     exact .inr ⟨List.mem_cons_self,Option.some.inj q⟩
    | false =>
     rw [hy] at q
     exact .inl q
   ·rw [if_neg hk] at q
    exact .inl q
  ·exact .inr ⟨List.mem_cons_of_mem _ q,z⟩
theorem FJ {env:Env}{y:Str}:∀(names:List (Str×NameKind)) (acc:List (Str×Addr)),((y,NameKind.free)∈names\/∃c,acc.lookup y=some c)→∃c,(names.foldl (Ce env) acc).lookup y=some c
 | [],acc,h=>by
  rcases h with h|h
  ·cases h
  ·exact h
 | (n,k)::r,acc,h=>by
  rw [List.foldl_cons]
  refine FJ r _ ?_
  by_cases hy:(y,NameKind.free)∈r
  ·exact .inl hy
  ·refine .inr ?_
   rcases h with h|⟨c,h⟩
   ·rcases List.mem_cons.mp h with e|e
    ·cases e
     exact ⟨_,by unfold Ce;rw [if_pos rfl,List.lookup_cons_self]⟩
    ·exact absurd e hy
   ·unfold Ce
    by_cases hk:k=.free
    ·rw [if_pos hk,List.lookup_cons]
     cases y==n with
     | true=>exact ⟨_,rfl⟩
     | false=>exact ⟨c,h⟩
    ·rw [if_neg hk]
     exact ⟨c,h⟩
theorem Gh {prog:Program}{w:World}{A:Around}{R:Result→Shared→Prop}{s:Shared}{elt target iter:Expr}{ifs:List Expr}{scope:Scope}{pos:Pos}{it acc:Value}{env:Env}(I:Nat→Shared→Prop)
  (turn:∀n s,I n s→wpAny (model prog w) A (pyNext it) (fun r s₁=>match r with
   | none=>R (.ok .next) s₁
   | some v=>wpAny (model prog w) A (letOwnedTupleGo target it v) (fun _ s₁'=>wpAny (model prog w) A (assign target env v) (fun _ s₂ =>
     wpAny (model prog w) A (forIn ifs true fun c r=>if r=true then do let ok ← isTrue c env (eval c env);pure (ForInStep.yield ok) else pure (ForInStep.yield r)) (fun ok s₃ =>
      if ok=true then wpAny (model prog w) A (eval elt env) (fun x s₄ =>
       wpAny (model prog w) A (call (.builtin "list.append") [acc,x]) (fun _ s₅=>∃m,m<n/\I m s₅) (fun _ _=>False) s₄) (fun _ _=>False) s₃
      else ∃m,m<n/\I m s₃) (fun _ _=>False) s₂) (fun _ _=>False) s₁') (fun _ _=>False) s₁) (fun _ _=>False) s)
  (n:Nat) (h:I n s) :
  codeAny (model prog w) A (.compLoop (.ListComp elt [⟨target,iter,ifs,0⟩] scope pos) 0 it acc env) R s:=by
 refine codeAny_loop rfl I (fun n s hI=>?_) n h
 show wpAny _ A ((compTurn (.ListComp elt [⟨target,iter,ifs,0⟩] scope pos) 0 it acc env).onRaise (fun x=>do noteFrame x env;theTreesLotGoes x)) _ _ s
 refine wpAny_noted ?_
 rw [compTurn_list]
 refine wpAny_bind (wpAny_standAt (wpAny_bind (wpAny_mono (turn n s hI) (fun r s₁ h₁=>?_) fun _ _ h'=>h'.elim)))
 cases r with
 | none=>exact wpAny_pure h₁
 | some v =>
  refine wpAny_bind (wpAny_mono h₁ (fun _ s₁' h₁'=>?_) fun _ _ h'=>h'.elim)
  refine wpAny_bind (wpAny_mono h₁' (fun _ s₂ h₂=>wpAny_bind (wpAny_mono h₂ (fun ok s₃ h₃=>?_) fun _ _ h'=>h'.elim)) fun _ _ h'=>h'.elim)
  cases ok with
  | false=>exact wpAny_pure ⟨rfl,h₃⟩
  | true =>
   exact wpAny_bind (wpAny_bind (wpAny_mono h₃ (fun x s₄ h₄=>wpAny_bind (wpAny_mono h₄ (fun _ s₅ h₅=>wpAny_pure (wpAny_pure ⟨rfl,h₅⟩)) fun _ _ h'=>h'.elim)) fun _ _ h'=>h'.elim))
def PTs (X:Cx) (ifs:List Expr) (t:TT):Prop :=
 ∀(pins:List (Addr×Obj)) (s:Shared) (σ:St) (H:Hp) (Q:Bool→Hp→Prop),Inv X pins σ H s→t σ H Q →
  wpAny (model X.prog X.w) X.A (forIn ifs true fun c r=>if r=true then do let ok ← isTrue c X.env (eval c X.env);pure (ForInStep.yield ok) else pure (ForInStep.yield r)) (TP X pins σ Q) X.xe s
def O4:TT:=fun _ H Q=>Q true H
theorem B9 {X:Cx}:PTs X [] O4:=fun pins s σ H Q I h=>wpAny_tests_nil ⟨H,I,h⟩
theorem DY {X:Cx}{c:Expr}{t:TT}(h:PT X c t):PTs X [c] t:=fun pins s σ H Q I hw=>wpAny_tests_one (h pins s σ H Q I hw)
def Aw (X:Cx) (scope:Scope) (N:List Str) (C:Addr) (s:Shared) (H:Hp) (ex:List Addr):Cx :=
 { X with N:=N,s₀:=s,H₀:=H,env:=compEnvC scope (Ds X.env scope.names) C X.env,outer:=X.stack,stack:=X.stack,ex:=ex,fn:=fun _=>false,pn:=[],xe:=fun _ _=>False }
def pick (σ:St) (j:Nat):Option V:=(σ[j]?).getD none
def Nw (n0:Nat) (fr:List Nat) (g:TG) (tt:TT) (te:TE) (σ:St) (Q:VK) (J:It) (H1:Hp):Prop:=∃W:Nat→Nat→St→List V→Hp→Prop,
 (∃m,W 0 m (List.replicate n0 none++fr.map (pick σ)) [] H1)/\∀i m τ acc H,W i m τ acc H →
  (J.stop i H/\∀D,H D=none→Q (.ref D) (upd H D (.lst acc))) \/
  (J.go i H/\acc.length<sizeLine/\∀x H',J.yld i H x H'→g x τ H' fun τ1 H1=>tt τ1 H1 fun b H2 =>
   if b=true then te τ1 H2 fun y H3=>∃m',m'<m/\W (i+1) m' τ1 (acc++[y]) H3 else ∃m',m'<m/\W (i+1) m' τ1 acc H2)
def LO (n0:Nat) (fr:List Nat) (wi:TI) (g:TG) (tt:TT) (te:TE):TE:=fun σ H Q=>wi σ H (Nw n0 fr g tt te σ Q)
theorem EN {env:Env}:∀{names:List (Str×NameKind)}{y:Str},(∀z∈names,z.2≠.cell) →
    ((names.map fun (n,k)=>if (k==NameKind.free&&env.scope.kind==.function&&env.kindOf n==some .cell) then (n,NameKind.cell) else (n,k)).lookup y=some .cell \/
     (names.map fun (n,k)=>if (k==NameKind.free&&env.scope.kind==.function&&env.kindOf n==some .cell) then (n,NameKind.cell) else (n,k)).lookup y=some .free)→(y,NameKind.free)∈names
  | [],y,_,h=>by simp at h
  | (n,k)::r,y,hc,h=>by
    have ih:=@EN env r y fun z hz=>hc z (List.mem_cons_of_mem _ hz)
    by_cases hy:y=n
    · subst hy
      by_cases hk:k=.free
      · subst hk;exact List.mem_cons_self
      · have hkb:(k==NameKind.free)=false:=by simpa using hk
        simp only [List.map_cons,hkb,Bool.false_and,Bool.false_eq_true,if_false,List.lookup_cons_self,Option.some.injEq] at h
        rcases h with h|h
        · exact absurd h (hc _ List.mem_cons_self)
        · exact absurd h hk
    · have hyb:(y==n)=false:=by simpa using hy
      refine List.mem_cons_of_mem _ (ih ?_)
      simp only [List.map_cons] at h
      by_cases hcnd:(k==NameKind.free&&env.scope.kind==.function&&env.kindOf n==some .cell)=true
      · rw [if_pos hcnd] at h
        simp only [List.lookup_cons,hyb] at h
        exact h
      · rw [if_neg hcnd] at h
        simp only [List.lookup_cons,hyb] at h
        exact h
theorem By {env:Env}:∀{names:List (Str×NameKind)}{y:Str},names.lookup y=some .free →
    (names.map fun (n,k)=>if (k==NameKind.free&&env.scope.kind==.function&&env.kindOf n==some .cell) then (n,NameKind.cell) else (n,k)).lookup y=some .cell \/
     (names.map fun (n,k)=>if (k==NameKind.free&&env.scope.kind==.function&&env.kindOf n==some .cell) then (n,NameKind.cell) else (n,k)).lookup y=some .free
  | [],y,h=>by simp at h
  | (n,k)::r,y,h=>by
    have ih:=@By env r y
    simp only [List.map_cons]
    cases hy:y==n with
    | true =>
      simp only [List.lookup_cons,hy] at h
      cases h
      by_cases hcnd:(NameKind.free==NameKind.free&&env.scope.kind==.function&&env.kindOf n==some .cell)=true
      · rw [if_pos hcnd];simp [List.lookup_cons,hy]
      · rw [if_neg hcnd];simp [List.lookup_cons,hy]
    | false =>
      simp only [List.lookup_cons,hy] at h
      by_cases hcnd:(k==NameKind.free&&env.scope.kind==.function&&env.kindOf n==some .cell)=true
      · rw [if_pos hcnd];simp only [List.lookup_cons,hy];exact ih h
      · rw [if_neg hcnd];simp only [List.lookup_cons,hy];exact ih h
def MP (X:Cx) (scope:Scope):List (Str×Nat)→Prop
 | []=>True
 | p::r=>X.N[p.2]?=some p.1/\scope.names.lookup p.1=some .free/\MP X scope r
theorem MP.all {X:Cx}{scope:Scope}:∀{fr:List (Str×Nat)},MP X scope fr→∀p∈fr,X.N[p.2]?=some p.1/\scope.names.lookup p.1=some .free
 | p::r,h,q,hq=>by
  rcases List.mem_cons.mp hq with e|e
  ·subst e;exact ⟨h.1,h.2.1⟩
  ·exact MP.all h.2.2 q e
section
variable {X:Cx}
theorem RT {tg iter elt:Expr}{ifs:List Expr}{scope:Scope}{wi:TI}{g:TG}{tt:TT}{te:TE}{own:List Str}{fr:List (Str×Nat)}{pos:Pos}
  (hc:X.calm=true) (hi:PI X tg iter wi)
  (hk:scope.kind=.function) (hcell:∀y∈scope.names,y.2≠.cell) (hnames:∀y∈scope.names,y.2=.local→scope.names.lookup y.1=some .local)
  (hfree:∀y∈scope.names,y.2=.free→X.env.kindOf y.1=some .cell\/X.env.kindOf y.1=some .free) (hfr:MP X scope fr)
  (hg:∀C s H ex,PG (Aw X scope (own++fr.map (·.1)) C s H ex) tg g)
  (ht:∀C s H ex,PTs (Aw X scope (own++fr.map (·.1)) C s H ex) ifs tt)
  (he:∀C s H ex,PE (Aw X scope (own++fr.map (·.1)) C s H ex) elt te)
  (hs:∀x,foldedSetIterable iter X.env x=pure x:=by intro _;rfl) :
  PE X (.ListComp elt [⟨tg,iter,ifs,0⟩] scope pos) (LO own.length (fr.map (·.2)) wi g tt te):=by
 intro pins s σ H Q I h
 rw [eval_ListComp]
 have hcl:∀y c,(Ds X.env scope.names).lookup y=some c→X.env.cells.lookup y=some c:=fun y c e=>by
  rcases HP scope.names [] e with q|⟨q,z⟩
  ·simp at q
  ·obtain ⟨c',e'⟩:=I.ok.has y (hfree _ q rfl)
   rw [e'] at z
   rw [e',←z]
   rfl
 have hclos:closureFor scope X.env=pure (Ds X.env scope.names):=Fm fun y hy e=>I.ok.has y.1 (hfree y hy e)
 refine wpAny_comprehension_free (use:=none) (cl:=Ds X.env scope.names) rfl hs hclos hk hnames ?_
 refine thn (hi pins s σ H _ I h) fun v s1 h1=>thn h1 fun itv s2 h2=>?_
 obtain ⟨it,fp,tn,J,H2,e,I2,T,st2,f2,W,⟨m0,w0⟩,turn⟩:=h2
 subst e
 refine wpAny_newObj_type (wpAny_newFunctionEnv hcell (by intro y hy;simp at hy) (fun h₁ hns₁ hsb₁=>?_) hk)
 dsimp only at hns₁ hsb₁ ⊢
 generalize hH2:s2.heap.push { cls:=.type "list", dict:=none,data:=.seq ([]:List Value).toArray }=HL at hns₁ hsb₁ ⊢
 have hC:HL.objs.size=s2.heap.objs.size+1:=by rw [←hH2,Heap.size_push]
 generalize hCC:HL.objs.size=C at hns₁ hsb₁ hC ⊢
 have hDC:s2.heap.objs.size≠C:=by rw [hC];exact Nat.ne_of_lt (Nat.lt_succ_self _)
 have below:∀b,b<s2.heap.objs.size→b≠C/\b≠s2.heap.objs.size:=fun b hb=>⟨by rw [hC];exact Nat.ne_of_lt (Nat.lt_succ_of_lt hb),Nat.ne_of_lt hb⟩
 have old:∀b o,s2.heap.get? b=some o→h₁.get? b=some o:=fun b o e=>hsb₁.extBut b o (below b (Heap.lt_size e)).1 (Heap.get?_push_of_some _ (hH2 ▸ Heap.get?_push_of_some _ e))
 have eD0:h₁.get? s2.heap.objs.size=some { cls:=.type "list", data:=.seq ([]:List Value).toArray }:=hsb₁.extBut _ _ hDC (Heap.get?_push_of_some _ (hH2 ▸ Heap.get?_push_size _ rfl))
 have fpLt:∀b∈fp,b<s2.heap.objs.size:=fun b hb=>by
  obtain ⟨o,e,_⟩:=T.obj _ _ st2 b hb
  exact Heap.lt_size e
 generalize hD:s2.heap.objs.size=D at hDC below eD0 fpLt hC
 have hDfp:D∉fp:=fun z=>Nat.lt_irrefl _ (fpLt D z)
 have okY:(Aw X scope (own++fr.map (·.1)) C s2 H2 fp).Ok:=by
  refine ⟨I2.ok.mod,hk,I2.ok.glob,I2.ok.blt,by show s2.heap.objs.size≤C;omega,fun x y c e1 e2=>I2.ok.inj x y c (hcl x c e1) (hcl y c e2),fun y hy=>?_,fun x c z _=>(by cases z),I2.ok.hd,I2.ok.frames,.inl rfl,fun b hb=>⟨(below b (fpLt b hb)).1,fun y c e=>?_⟩,I2.bs,
   Nat.le_trans I2.ok.bsz I2.sz,fun b o e hb=>?_,fun b hb z=>?_,I2.stack,I2.Ke⟩
  ·exact FJ scope.names [] (.inl (EN (env:=X.env) hcell hy))
  ·exact (f2 b hb).2.2.2.2.1 y c (hcl y c e)
  ·rcases (f2 b hb).2.2.2.1 with z|z
   ·exact I2.ok.OQ b o e z
   ·exact absurd (Nat.lt_of_lt_of_le (Heap.lt_size e) (Nat.le_trans I2.ok.bsz z)) (Nat.lt_irrefl _)
  ·rcases List.mem_cons.mp (I2.Gv b z) with q|q
   ·exact (f2 b hb).2.1 q
   ·exact (f2 b hb).2.2.1 q
 have cellLt:∀y c,X.env.cells.lookup y=some c→c<D:=fun y c e=>by
  obtain ⟨v,z⟩:=I2.cell y c e
  exact Nat.lt_of_lt_of_le z.lt (Nat.le_of_eq hD)
 have stkLt:∀b∈frs X.stack,b<D:=fun b hb=>by
  rcases List.mem_cons.mp (I2.Gv b hb) with q|q
  ·rw [q];exact Nat.lt_of_lt_of_le I2.lt (Nat.le_of_eq hD)
  ·obtain ⟨_,o,ho,_⟩:=I2.ok.F7.mem q
   exact Nat.lt_of_lt_of_le (Heap.lt_size ho) (Nat.le_trans I2.sz (Nat.le_of_eq hD))
 have fresh:∀a,D≤a→H2 a=none:=fun a ha=>I2.hok.fresh (Nat.le_trans (Nat.le_of_eq hD) ha)
 have IY:Inv (Aw X scope (own++fr.map (·.1)) C s2 H2 fp) [] (List.replicate own.length none++(fr.map (·.2)).map (pick σ)) H2 { s2 with heap:=h₁,toks:=s2.toks+([]:List (Str×Value)).length }:=by
  refine ⟨okY,rfl,I2.bare,Un.kept old,⟨_,hns₁,fun i y v e1 e2 e3=>?_⟩,fun y c e=>?_,fresh C (by omega),fun y c e=>I2.Eu y c (hcl y c e),fun p hp=>absurd (show p∈([]:List (Addr×Obj)) from hp) (by simp),I2.hok.kept old,?_⟩
  ·have e1:(own++fr.map (·.1))[i]?=some y:=e1
   have hi':own.length≤i:=by
    by_cases hlt:i<own.length
    ·rw [List.getElem?_append_left (by simpa using hlt),List.getElem?_replicate,if_pos hlt] at e2
     cases e2
    ·omega
   rw [List.getElem?_append_right hi',List.getElem?_map] at e1
   rw [List.getElem?_append_right (by simpa using hi'),List.getElem?_map,List.getElem?_map,List.length_replicate] at e2
   cases hp:fr[i-own.length]? with
   | none=>rw [hp] at e1;cases e1
   | some p =>
    rw [hp] at e1 e2
    have ey:p.1=y:=Option.some.inj e1
    have ev:pick σ p.2=some v:=Option.some.inj e2
    obtain ⟨a1,a3⟩:=hfr.all p (List.mem_of_getElem? hp)
    have es:σ[p.2]?=some (some v):=by
     unfold pick at ev
     cases q:σ[p.2]? with
     | none=>rw [q] at ev;cases ev
     | some z=>rw [q] at ev;exact congrArg some ev
    have hfk:X.env.kindOf p.1=some .cell\/X.env.kindOf p.1=some .free:=hfree (p.1,.free) (PySem.mem_of_lookup a3) rfl
    obtain ⟨m,hn,hl⟩:=I2.loc
    obtain ⟨u,r,l⟩:=hl p.2 p.1 v a1 es (hfk.elim (fun z=>.inr (.inl z)) fun z=>.inr (.inr z))
    refine ⟨u,r,.inr ?_⟩
    rcases l with ⟨z,_⟩|⟨_,c,ec,zc⟩
    ·rcases hfk with q|q <;> rw [z] at q <;> cases q
    ·obtain ⟨c',ec'⟩:=FJ (env:=X.env) (y:=p.1) scope.names [] (.inl (PySem.mem_of_lookup a3))
     have:c'=c:=Option.some.inj ((hcl _ _ ec').symm.trans ec)
     subst this
     rw [←ey]
     obtain ⟨o,ho,hdd⟩:=zc
     exact ⟨By (env:=X.env) a3,c',ec',o,old _ o ho,hdd⟩
  ·obtain ⟨v,z⟩:=I2.cell y c (hcl y c e)
   obtain ⟨o,ho,hdd⟩:=z
   exact ⟨v,o,old _ o ho,hdd⟩
  ·show (List.replicate own.length (none:Option V)++(fr.map (fun p=>p.2)).map (pick σ)).length=(own++fr.map (fun p=>p.1)).length
   simp
 have fpY:∀{H3:Hp} {ob:Obj},(∀b∈fp,H3 b=none)→∀b∈fp,IH (Aw X scope (own++fr.map (·.1)) C s2 H2 fp) [(D,ob)] H3 b:=fun {H3 ob} hn b hb =>
  ⟨hn b hb,(below b (fpLt b hb)).1,fun z=>okY.Oh b hb z,.inl hb,fun y c e=>(okY.exf b hb).2 y c e,fun p hp=>by
   have e:p=(D,ob):=by simpa [Aw] using hp
   rw [e]
   show D≠b
   exact fun z=>hDfp (z ▸ hb)⟩
 have noC:∀(xs:Array Value) (k:Nat) (v:Option Value),({ cls:=.type "list", data:=.seq xs k }:Obj).data≠.cell v:=fun xs k v z=>by cases z
 have loop:∀s₃:Shared,s₃={ s2 with heap:=h₁,toks:=s2.toks+([]:List (Str×Value)).length } →
   codeAny (model X.prog X.w) X.A (.compLoop (.ListComp elt [⟨tg,iter,ifs,0⟩] scope pos) 0 (.ref it) (.ref D) (compEnvC scope (Ds X.env scope.names) C X.env))
    (compPost (model X.prog X.w) X.A X.xe none (EP X pins σ Q) (.ref D) C) s₃:=by
  rintro s₃ rfl
  refine Gh (fun n s'=>∃(i:Nat) (τ:St) (acc:List V) (H':Hp) (its:List Value) (k:Nat),Inv (Aw X scope (own++fr.map (·.1)) C s2 H2 fp) [] τ H' s'/\tn i s'.heap/\(∀b∈fp,H' b=none)/\H' D=none/\Vals acc its /\
   s'.heap.get? D=some { cls:=.type "list", data:=.seq its.toArray k }/\acc.length≤sizeLine/\W i n τ acc H') ?_ m0
   ⟨0,_,[],H2,[],0,IY,T.keep _ _ _ st2 fun b _ o e=>old b o e,fun b hb=>(f2 b hb).1,fresh D (Nat.le_refl _),.nil,eD0,Nat.zero_le _,w0⟩
  rintro n s3 ⟨i,τ,acc,H3,its,k,I3,st3,fr3,fD,rv,eD,hz,w3⟩
  have I3':Inv (Aw X scope (own++fr.map (·.1)) C s2 H2 fp) [(D,{ cls:=.type "list", data:=.seq its.toArray k })] τ H3 s3:=I3.CZ fun p hp=>by
   have e:p=(D,{ cls:=.type "list", data:=.seq its.toArray k }):=by simpa using hp
   subst e
   exact ⟨eD,fD,hDC,fun z=>Nat.lt_irrefl _ (stkLt D z),noC _ _⟩
  rcases turn i n τ acc H3 w3 with ⟨stop,qn⟩|⟨go,hlt,step⟩
  ·refine thn (T.done (Aw X scope (own++fr.map (·.1)) C s2 H2 fp) rfl rfl rfl hc i _ s3 τ H3 (fun _ _=>False) I3' (fpY fr3) st3 stop) fun r s4 ⟨hr,I4⟩=>?_
   subst hr
   obtain ⟨m,hn4,_⟩:=I4.loc
   obtain ⟨eD4,fD4,_⟩:=I4.pin (D,{ cls:=.type "list", data:=.seq its.toArray k }) (List.mem_append_right _ (List.mem_singleton.mpr rfl))
   refine ⟨m,hn4,fun h' sb=>?_⟩
   have b4:Un (frs X.stack) fp H2 H3 s2.heap s4.heap:=I4.base
   have lt2:∀b o,s2.heap.get? b=some o→b≠C/\b≠D:=fun b o e=>below b (Nat.lt_of_lt_of_le (Heap.lt_size e) (Nat.le_of_eq hD))
   have tr2:∀b o,H2 b=some o→b≠D:=fun b o e z=>by
    have:=fresh D (Nat.le_refl _)
    rw [z,this] at e
    cases e
   have un:Un (frs X.stack) fp H2 (upd H3 D (.lst acc)) s2.heap h':=by
    refine ⟨fun b o e n hb hx=>(sb.2 b (lt2 b o e).1).trans (b4.keep b o e n hb hx),fun b o e n hb hx=>?_,fun b o e n hx=>?_,fun b o e hx=>?_,fun b xs e=>?_,fun b o u e=>?_,fun b ps e=>?_⟩
    ·obtain ⟨sl,q⟩:=b4.slot b o e n hb hx
     exact ⟨sl,(sb.2 b (lt2 b o e).1).trans q⟩
    ·rw [AF (lt2 b o e).2];exact b4.free b o e n hx
    ·obtain ⟨o',q⟩:=b4.there b o e hx
     exact ⟨o',(sb.2 b (lt2 b o e).1).trans q⟩
    ·rw [AF (tr2 _ _ e)];exact b4.Ia b xs e
    ·rw [AF (tr2 _ _ e)];exact b4.IG b o u e
    ·rw [AF (tr2 _ _ e)];exact b4.Ih b ps e
   have hok':HOk X.prog X.w (upd H3 D (.lst acc)) h':=by
    have q:HOk X.prog X.w H3 h':=HOk.other (a:=C) I4.hok I4.free fun b u hb e=>(sb.2 b hb).trans e
    exact q.SE fD4 ⟨hz,its,k,rv,(sb.2 D hDC).trans eD4⟩
   refine ⟨.ref D,upd H3 D (.lst acc),I2.SU (s':={ s4 with heap:=h' }) (ch:=fp) I4.os un hok' I4.bare fun b hb=>⟨(f2 b hb).2.2.2.1,(f2 b hb).2.1,(f2 b hb).2.2.2.2.1,(f2 b hb).2.2.2.2.2⟩,rfl,qn D fD4⟩
  ·refine thn (T.item (Aw X scope (own++fr.map (·.1)) C s2 H2 fp) rfl rfl rfl hc i _ s3 τ H3 (fun _ _=>False) I3' (fpY fr3) st3 go) fun r s4 ⟨u,hr,h4⟩=>?_
   subst hr
   refine thn h4 fun _ s5 ⟨x,H5,I5,r5,y5,st5,fr5⟩=>?_
   have I5':=I5.pinned (fpY fr5) (T.obj _ _ st5)
   refine thn (hg _ _ _ _ _ s5 τ H5 x u _ I5' r5 (step x H5 y5)) fun _ s6 ⟨τ6,H6,I6,q6⟩=>?_
   refine thn (ht _ _ _ _ _ s6 τ6 H6 _ I6 q6) fun b s7 ⟨H7,I7,q7⟩=>?_
   have facts:∀{s8:Shared} {H8:Hp} {τ8:St},Inv (Aw X scope (own++fr.map (·.1)) C s2 H2 fp) ([(D,{ cls:=.type "list", data:=.seq its.toArray k })]++G5 fp s5.heap) τ8 H8 s8 →
     tn (i+1) s8.heap/\(∀b∈fp,H8 b=none)/\H8 D=none/\s8.heap.get? D=some { cls:=.type "list", data:=.seq its.toArray k }:=fun {s8 H8 τ8} I8=>by
    have hp:∀b∈fp,∀o,s5.heap.get? b=some o→s8.heap.get? b=some o/\H8 b=none:=fun b hb o e=>by
     have q:=I8.pin (b,o) (List.mem_append_right _ (List.mem_append_right _ (EW hb e)))
     exact ⟨q.1,q.2.1⟩
    have qD:=I8.pin (D,{ cls:=.type "list", data:=.seq its.toArray k }) (List.mem_append_right _ (List.mem_append_left _ (List.mem_singleton.mpr rfl)))
    refine ⟨T.keep _ _ _ st5 fun b hb o e=>(hp b hb o e).1,fun b hb=>?_,qD.2.1,qD.1⟩
    obtain ⟨o,e,_⟩:=T.obj _ _ st5 b hb
    exact (hp b hb o e).2
   cases b with
   | false =>
    have q7:∃m',m'<n/\W (i+1) m' τ6 acc H7:=q7
    obtain ⟨m',hm,w7⟩:=q7
    obtain ⟨z1,z2,z3,z4⟩:=facts I7
    exact ⟨m',hm,i+1,τ6,acc,H7,its,k,I7.CZ fun p hp=>absurd hp (by simp),z1,z2,z3,rv,z4,hz,w7⟩
   | true =>
    refine thn (he _ _ _ _ _ s7 τ6 H7 _ I7 q7) fun u8 s8 ⟨y,H8,I8,r8,m',hm,w8⟩=>?_
    obtain ⟨z1,z2,z3,z4⟩:=facts I8
    have hl:=rv.length
    refine call_meets F.slot_list_append ⟨_,z4,rfl⟩ F.entry_list_append (F.args_list_append_2 _ _) (PySem.list_append D its.toArray k u8 (by rw [List.size_toArray];omega)) ⟨z4,?_⟩
    have z5:=PySem.IsL.update z4 (·.push u8)
    have z6:its.toArray.push u8=(its++[u8]).toArray:=by simp
    rw [z6] at z5
    have kk:∀b o,b≠D→s8.heap.get? b=some o→(s8.heap.update D (Obj.mapSeq (·.push u8))).get? b=some o:=fun b o hb e=>(Heap.get?_update_other s8.heap (Obj.mapSeq (·.push u8)) (Ne.symm hb)).trans e
    have I8':Inv (Aw X scope (own++fr.map (·.1)) C s2 H2 fp) [] τ6 H8 s8:=I8.CZ fun p hp=>absurd hp (by simp)
    refine ⟨m',hm,i+1,τ6,acc++[y],H8,its++[u8],_,I8'.turned (it:=D) kk z3 hDC (.inr (by show s2.heap.objs.size≤D;omega)) (fun y c e=>Nat.ne_of_lt (cellLt y c (hcl y c e))) (fun p hp=>absurd (show p∈([]:List (Addr×Obj)) from hp) (by simp)),?_,z2,z3,
     rv.append (.cons r8 .nil),z5,?_,w8⟩
    ·exact T.keep _ _ _ z1 fun b hb o e=>kk b o (fun z=>hDfp (z ▸ hb)) e
    ·rw [List.length_append,List.length_singleton];omega
 exact codeAny_compStart_list (loop _ rfl) (T.self X.A 0 _ _ _ (T.keep _ _ _ st2 fun b _ o e=>old b o e) (loop _ rfl))
end
section
variable {X:Cx}
theorem BN {iter elt:Expr}{ifs:List Expr}{scope osc:Scope}{wi:TI}{tt:TT}{te:TE}{x:Str}{px:Pos}{pos:Pos}(fr:List (Str×Nat))
  (hc:X.calm=true) (hi:PI X (.Name x px) iter wi) (ho:X.env.scope=osc)
  (hk:scope.kind=.function) (hcell:∀y∈scope.names,y.2≠.cell) (hnames:∀y∈scope.names,y.2=.local→scope.names.lookup y.1=some .local)
  (hfree:∀y∈scope.names,y.2=.free→osc.names.lookup y.1=some .cell\/osc.names.lookup y.1=some .free) (hfr:MP X scope fr)
  (hx:scope.names.lookup x=some .local) (hnd:(x::fr.map (·.1)).Nodup)
  (ht:∀C s H ex,PTs (Aw X scope (x::fr.map (·.1)) C s H ex) ifs tt)
  (he:∀C s H ex,PE (Aw X scope (x::fr.map (·.1)) C s H ex) elt te)
  (hs:∀x,foldedSetIterable iter X.env x=pure x:=by intro _;rfl) :
  PE X (.ListComp elt [⟨.Name x px,iter,ifs,0⟩] scope pos) (LO 1 (fr.map (·.2)) wi (KL 0) tt te) :=
 RT (own:=[x]) hc hi hk hcell hnames (fun y hy e=>by show X.env.scope.names.lookup y.1=_\/X.env.scope.names.lookup y.1=_;rw [ho];exact hfree y hy e) hfr
  (fun C s H ex=>BM (i:=0) hnd rfl (.inl (lookup_relabel_local hx)) (.inr (lookup_relabel_local hx))) ht he hs
end
section
variable {X:Cx}{tg:Expr}
end
section
variable {X:Cx}
def Ut:V→Option Int→Option Int→Hp→VK→Prop:=fun x lo hi H Q=>∃z,x=.str z/\z.length≤sizeLine/\Q (.str (Txt.slice z lo hi)) H
theorem part_of {v:Value}{o:Option Int}(p:IsPart v o):∃l:Option (Int×Tok),v=partValue l/\l.map (·.1)=o:=by
 cases p with
 | none=>exact ⟨none,rfl,rfl⟩
 | int i t=>exact ⟨some (i,t),rfl,rfl⟩
theorem PJ:SlR X Ut:=by
 intro pins s σ H x v vl vu lo hi sl Q I rx hs pl pu h
 obtain ⟨z,rfl,hz,q⟩:=h
 obtain ⟨t,rfl⟩:=rx
 obtain ⟨l,rfl,rfl⟩:=part_of pl
 obtain ⟨u,rfl,rfl⟩:=part_of pu
 exact ⟨"str", _,F.slot_str_getitem.lookup,typeIs_str _ _ _,wpAny_getItem_str_slice (l:=l) (u:=u) (st:=none) hs rfl
  (post_val_or_str ⟨Nat.le_trans (Txt.slice_le z _ _) hz,fun t' k=>⟨.str _,H,I.tok _,⟨_,rfl⟩,q⟩⟩)⟩
theorem Dj {K:PySem.W.Frag}(hK:X.K=K:=by rfl):Cg X (.builtin "isinstance") (fun xs H Q=>∃x n t b,xs=[x,.ty n]/\HY K H x t/\PySem.W.kitOne K t (.type n)=some b/\Q (.bl b) H):=by
 subst hK
 intro pins s σ H xs us Q I r h
 obtain ⟨x,n,t,b,rfl,ty,e,q⟩:=h
 obtain ⟨u,w',rfl,rx,rn⟩:=vals2 r
 cases (show w'=Value.type n from rn)
 exact Oa I rx ty e fun tk=>⟨.bl b,H,I.tok _,rfl,q⟩
end
mutual
inductive Dv (K:PySem.W.Frag) (H:Hp):V→PyData→Prop where
 | non:Dv K H .non .none
 | bl (b:Bool):Dv K H (.bl b) (.bool b)
 | int (i:Int):Dv K H (.int i) (.int i)
 | str (x:Str):Dv K H (.str x) (.str x)
 | lst {a:Addr} {xs:List V} {ds:List PyData}:SqL K H a xs→Dvs K H xs ds→Dv K H (.ref a) (.list ds)
 | tup {a:Addr} {xs:List V} {ds:List PyData}:SqT K H a xs→Dvs K H xs ds→Dv K H (.ref a) (.tuple ds)
inductive Dvs (K:PySem.W.Frag) (H:Hp):List V→List PyData→Prop where
 | nil:Dvs K H [] []
 | cons {x:V} {d:PyData} {xs:List V} {ds:List PyData}:Dv K H x d→Dvs K H xs ds→Dvs K H (x::xs) (d::ds)
end
section
variable {X:Cx}{pins:List (Addr×Obj)}{σ:St}{H:Hp}{s:Shared}
mutual
theorem Dv.reads (I:Inv X pins σ H s):∀{x:V}{d:PyData}{u:Value},Dv X.K H x d→RelV x u→∃as,Reads s.heap u d as
 | _,_,_,.non,r=>by cases (show _=Value.none from r);exact ⟨_,.none⟩
 | _,_,_,.bl b,r=>by cases (show _=Value.bool b from r);exact ⟨_,.bool b⟩
 | _,_,_,.int i,r=>by obtain ⟨t,rfl⟩:=r;exact ⟨_,.int i t⟩
 | _,_,_,.str x,r=>by obtain ⟨t,rfl⟩:=r;exact ⟨_,.str x t⟩
 | _,_,_,.lst hq ds,r=>by
  cases r
  obtain ⟨its,rv,pl,_⟩:=I.list hq
  obtain ⟨as,q⟩:=Dvs.reads I ds rv
  obtain ⟨o,e,c,n,d⟩:=pl.isList
  exact ⟨_,.list e c d (by simpa using q)⟩
 | _,_,_,.tup hq ds,r=>by
  cases r
  obtain ⟨its,rv,pl,_⟩:=I.tuple hq
  obtain ⟨as,q⟩:=Dvs.reads I ds rv
  obtain ⟨o,e,c,n,d⟩:=pl
  exact ⟨_,.tuple e c d (by simpa using q)⟩
theorem Dvs.reads (I:Inv X pins σ H s):∀{xs:List V}{ds:List PyData}{us:List Value},Dvs X.K H xs ds→Vals xs us→∃as,ReadsAll s.heap us ds as
 | _,_,_,.nil,r=>by cases r;exact ⟨_,.nil⟩
 | _,_,_,.cons d ds,r=>by
  cases r with
  | cons r1 r2 =>
   obtain ⟨as,q⟩:=Dv.reads I d r1
   obtain ⟨bs,p⟩:=Dvs.reads I ds r2
   exact ⟨_,.cons q p⟩
end
end
section
variable {X:Cx}
def UH (K:PySem.W.Frag):R2:=fun x y H Q=>∃d e,Dv K H x d/\Dv K H y e/\SeqAt.shaped d=true/\SeqAt.shaped e=true/\Q (.bl (PyData.eqv d e)) H
def UD (K:PySem.W.Frag):R2:=fun x y H Q=>∃d e,Dv K H x d/\Dv K H y e/\SeqAt.shaped d=true/\SeqAt.shaped e=true/\Q (.bl (!PyData.eqv d e)) H
theorem S0 {K:PySem.W.Frag}(hu:X.A.units+64<cLine) (hK:X.K=K:=by rfl):OpR X (compareOp .Eq) (UH K):=by
 subst hK
 intro pins s σ H x y v u Q I rx ry h
 obtain ⟨d,e,hd,he,sd,se,q⟩:=h
 obtain ⟨as,r1⟩:=hd.reads I rx
 obtain ⟨bs,r2⟩:=he.reads I ry
 exact eq_dataH r1 r2 sd se hu ⟨.bl _,H,I,rfl,q⟩
theorem Mj {K:PySem.W.Frag}(hu:X.A.units+64<cLine) (hK:X.K=K:=by rfl):OpR X (compareOp .NotEq) (UD K):=by
 subst hK
 intro pins s σ H x y v u Q I rx ry h
 obtain ⟨d,e,hd,he,sd,se,q⟩:=h
 obtain ⟨as,r1⟩:=hd.reads I rx
 obtain ⟨bs,r2⟩:=he.reads I ry
 exact ne_dataH r1 r2 sd se hu ⟨.bl _,H,I,rfl,q⟩
end
section
variable {X:Cx}
def Sr (K:PySem.W.Frag):R2:=fun x y H Q=>∃a b xs,x=.ref a/\y=.ref b/\SqL K H a xs/\SqL K H b []/\Q (.bl xs.isEmpty) H
theorem JG {K:PySem.W.Frag}(hu:X.A.units<cLine) (hK:X.K=K:=by rfl):OpR X (compareOp .Eq) (Sr K):=by
 subst hK
 intro pins s σ H x y v u Q I rx ry h
 obtain ⟨a,b,xs,rfl,rfl,ha,hb,q⟩:=h
 cases rx
 cases ry
 obtain ⟨its,r1,p1,_⟩:=I.list ha
 obtain ⟨its2,r2,p2,_⟩:=I.list hb
 cases r2
 have hl:=r1.length
 cases xs with
 | nil =>
  cases r1
  exact SeqAt.eq_listAt (e:=fun _=>true) p1.isList p2.isList rfl hu (fun j h1 _=>absurd h1 (by simp)) ⟨.bl true,H,I,rfl,q⟩
 | cons x r =>
  refine SeqAt.eq_list_lengthsAt p1.isList p2.isList ?_ hu ⟨.bl false,H,I,rfl,q⟩
  rw [List.size_toArray,←hl]
  rfl
end
theorem Dk {α:Type}(xs:List α) (n:Int) (hn:(xs.length:Int)=n) (h0:0<n) (c:Int):∃v,atI xs (c % n)=some v/\v∈xs:=by
 have h1:0≤c % n:=Int.emod_nonneg _ (by omega)
 have h2:c % n<n:=Int.emod_lt_of_pos _ h0
 obtain ⟨j,hj⟩:=Int.eq_ofNat_of_zero_le h1
 have hlt:j<xs.length:=by omega
 refine ⟨xs[j],?_,List.getElem_mem hlt⟩
 rw [hj]
 exact AG (List.getElem?_eq_getElem hlt)
theorem Rq {c:Bool}{A B:Prop}(h1:c=true→A) (h2:c=false→B):if c=true then A else B:=by
 cases c with
 | true=>exact QP (h1 rfl)
 | false=>exact D7 (h2 rfl)
theorem AH.upd {H H':Hp}{a:Addr}{o:HO}(e:AH H H') (h:H' a=none):AH H (upd H' a o):=fun b u q=>by
 rw [AF (AK (e b u q) h)]
 exact e b u q
section
variable {X:Cx}{K:PySem.W.Frag}
theorem Al (hK:X.K=K:=by rfl):IxR X (UG K):=by subst hK;exact Ro
theorem AI (hK:X.K=K:=by rfl):IxR X (UE K):=by subst hK;exact TU
theorem E2 (hK:X.K=K:=by rfl):SlR X (UC K):=by subst hK;exact RB
theorem Pt (hK:X.K=K:=by rfl):OpR X (binaryOp .Add) (SJ K):=by subst hK;exact RW
theorem BB (hK:X.K=K:=by rfl):Cg X (.builtin "len") (fun xs H Q=>∃p ys,xs=[.ref p]/\(SqL K H p ys\/SqT K H p ys)/\Q (.int ys.length) H):=by subst hK;exact K8
theorem Dt (hK:X.K=K:=by rfl):Cg X (.type "list") (fun xs H Q=>∃p ys,xs=[.ref p]/\(SqL K H p ys\/SqT K H p ys)/\∀l,H l=none→Q (.ref l) (upd H l (.lst ys))):=by subst hK;exact K7
theorem Ai {tg l:Expr}{tl:TE}(hl:PE X l tl) (hK:X.K=K:=by rfl):PI X tg l (SR K tl):=by subst hK;exact RP hl
theorem Cb {o e:Expr}{es:List Expr}{to:TE}{t:TA}{name:Str}{apos cpos:Pos}{T id:String}{r:V→List V→Hp→VK→Prop}(pa:PlainAttrs T) (slot:Slot T name id) (hty:typeOf (.builtin id)=pure (.type "method_descriptor")) (hm:MtR X id r) (ho:PE X o to) (ha:PA X (e::es) t)
  (hK:X.K=K:=by rfl) (hbase:attributeBase o name X.env (eval o X.env)=eval o X.env:=by rfl)
  (hfew:((backTo cpos (starEach (e::es) X.env)).all (fun x=>!x.1)&&(backToKw cpos (keywordEach [] X.env)).all (fun x=>x.1.isSome)
   && decide ((e::es).length+([]:List Keyword).length+(if ([]:List Keyword).isEmpty then 0 else 1)<30))=true:=by rfl)
  (hline:(apos.endLine==cpos.line)=true:=by rfl) (hs:starEach (e::es) X.env=(false,eval e X.env)::starEach es X.env:=by rfl) (hplain:(backTo cpos (starEach es X.env)).any (·.1)=false:=by rfl) :
  PE X (.Call (.Attribute o name apos) (e::es) [] cpos) (tBM K T r to t):=by
 subst hK;exact UL pa slot hty hm ho ha hbase hfew hline hs hplain
end
section
variable {X:Cx}{K:PySem.W.Frag}
theorem Fz:OpR X (binaryOp .Mult) (fun x y H Q=>∃z n,x=.str z/\y=.int n/\MulOk z n/\Q (.str (Txt.mul z n)) H):=by
 intro pins s σ H x y v u Q I rx ry h
 obtain ⟨z,n,rfl,rfl,hz,q⟩:=h
 obtain ⟨t,rfl⟩:=rx
 obtain ⟨t',rfl⟩:=ry
 exact SB.mul hz fun t' k=>⟨.str _,H,I.tok _,⟨_,rfl⟩,q⟩
end
end L2
namespace Rev
open PySem PySem.Builtin PySem.Builtin.Str PySem.Builtin.Int
section
variable {prog:Program}{w:World}{A:Around}{R:Result→Shared→Prop}{I:Addr}{fp wr:List Addr}{G:Array GenState→Array GenState→Prop}{n:Nat}{P:Nat→Value→Prop}{St:Nat→Shared→Prop}{Live:Shared→Prop}
end
section
variable {prog:Program}{w:World}{A:Around}{E:Value→Shared→Prop}{s:Shared}
end
section
variable {prog:Program}{w:World}{A:Around}{E:Value→Shared→Prop}{s:Shared}{I:Addr}{fp wr:List Addr}{G:Array GenState→Array GenState→Prop}{n:Nat}{P:Nat→Value→Prop}{St:Nat→Shared→Prop}{Live:Shared→Prop}
end
end Rev
namespace Rev
open PySem PySem.Builtin PySem.Builtin.Str PySem.Builtin.Int
section
variable {prog:Program}{w:World}{A:Around}{E:Value→Shared→Prop}{s:Shared}{x:Str}{t:Tok}{Q:Value→Shared→Prop}{I:Addr}{fp wr:List Addr}{G:Array GenState→Array GenState→Prop}{n:Nat}{P:Nat→Value→Prop}{St:Nat→Shared→Prop}{Live:Shared→Prop}
end
end Rev
namespace L2
open PySem PySem.Spec PyProof.Rows
section
variable {X:Cx}{K:PySem.W.Frag}
end
end L2
namespace Att
open PySem PySem.W PySem.Calls PyProof.Rows
end Att
namespace L2
open PySem PySem.Spec PyProof.Rows
end L2
namespace L2
open PySem PySem.Spec PyProof.Rows
section
variable {X:Cx}{K:PySem.W.Frag}
end
end L2
namespace Fig
open PySem
end Fig
namespace L2
open PySem PySem.Spec PyProof.Rows
section
variable {X:Cx}{K:PySem.W.Frag}{w:World}{o i:Expr}{pos:Pos}{td ty:TE}
end
end L2
namespace L2
open PySem PySem.Spec PyProof.Rows
inductive F2 (Pr:V→V→Prop):List V→List V→Prop where
 | nil:F2 Pr [] []
 | cons {x y:V} {xs ys:List V} (h:Pr x y) (t:F2 Pr xs ys):F2 Pr (x::xs) (y::ys)
theorem BZ.u1 {k:Nat}{A:Around}(r:BZ k A):A.units+1<cLine:=by have:=r.un;omega
def BE (lo hi d:Int):Nat:=if lo<hi then ((hi-lo-1) / d+1).toNat else 0
theorem SH {lo hi d:Int}(hd:1≤d):Builtin.Range.rangeSize lo hi d=(BE lo hi d:Int):=by
 unfold Builtin.Range.rangeSize BE
 rw [if_pos (by omega)]
 split
 ·have:0≤(hi-lo-1) / d:=Int.ediv_nonneg (by omega) (by omega)
  omega
 ·rfl
theorem Nz {lo hi d:Int}(hd:1≤d):(BE lo hi d:Int)≤(if lo<hi then hi-lo else 0):=by
 unfold BE
 split
 ·have h1:0≤(hi-lo-1) / d:=Int.ediv_nonneg (by omega) (by omega)
  have h2:(hi-lo-1) / d≤hi-lo-1:=Int.ediv_le_self _ (by omega)
  omega
 ·exact Int.le_refl 0
section
variable {X:Cx}{tg:Expr}
end
section
variable {X:Cx}
end
end L2
namespace L2
open PySem PySem.Spec PyProof.Rows
section
variable {X:Cx}
theorem Pf {tg iter elt:Expr}{ifs:List Expr}{scope:Scope}{wi:TI}{g:TG}{tt:TT}{te:TE}{own:List Str}{fr:List (Str×Nat)}{pos spos py:Pos}{iy:Nat}{y:Str}
  (hN:X.N.Nodup) (hiy:X.N[iy]?=some y) (hxy:Loc X.env.scope y) (hfy:X.fn y=true\/X.env.scope.names.lookup y=some .local)
  (hc:X.calm=true) (hi:PI X tg iter wi)
  (hk:scope.kind=.function) (hcell:∀y∈scope.names,y.2≠.cell) (hnames:∀y∈scope.names,y.2=.local→scope.names.lookup y.1=some .local)
  (hfree:∀y∈scope.names,y.2=.free→X.env.kindOf y.1=some .cell\/X.env.kindOf y.1=some .free) (hfr:MP X scope fr)
  (hg:∀C s H ex,PG (Aw X scope (own++fr.map (·.1)) C s H ex) tg g)
  (ht:∀C s H ex,PTs (Aw X scope (own++fr.map (·.1)) C s H ex) ifs tt)
  (he:∀C s H ex,PE (Aw X scope (own++fr.map (·.1)) C s H ex) elt te)
  (hsw:swapsWith (.ListComp elt [⟨tg,iter,ifs,0⟩] scope pos) (some (.Name y py)) spos.line X.env=pure true)
  (hs:∀x,foldedSetIterable iter X.env x=pure x:=by intro _;rfl) :
  PS X (.Assign [.Name y py] (.ListComp elt [⟨tg,iter,ifs,0⟩] scope pos) spos) (Sg (LO own.length (fr.map (·.2)) wi g tt te) (KL iy)):=by
 intro pins s σ H D0 I h
 let Q:VK:=fun v H1=>D0.nx (σ.set iy (some v)) H1
 have h:LO own.length (fr.map (·.2)) wi g tt te σ H Q:=h
 rw [exec_Assign_Name_used _ _ _ _ hsw]
 refine wpAny_bind (wpAny_standAt (wpAny_bind ?_))
 show wpAny _ X.A (do let _ ← comprehension (.ListComp elt [⟨tg,iter,ifs,0⟩] scope pos) scope X.env _ (newList []) false (eval iter X.env) (some (assign (.Name y py) X.env))) _ _ s
 have hcl:∀y c,(Ds X.env scope.names).lookup y=some c→X.env.cells.lookup y=some c:=fun y c e=>by
  rcases HP scope.names [] e with q|⟨q,z⟩
  ·simp at q
  ·obtain ⟨c',e'⟩:=I.ok.has y (hfree _ q rfl)
   rw [e'] at z
   rw [e',←z]
   rfl
 have hclos:closureFor scope X.env=pure (Ds X.env scope.names):=Fm fun y hy e=>I.ok.has y.1 (hfree y hy e)
 refine wpAny_bind (wpAny_mono (wpAny_comprehension_free (use:=some (assign (.Name y py) X.env)) (cl:=Ds X.env scope.names) (Q:=fun _ s'=>SP X pins D0 .next s') rfl hs hclos hk hnames ?_) (fun _ s' hq=>wpAny_pure (wpAny_pure hq)) fun _ _ e=>e)
 refine thn (hi pins s σ H _ I h) fun v s1 h1=>thn h1 fun itv s2 h2=>?_
 obtain ⟨it,fp,tn,J,H2,e,I2,T,st2,f2,W,⟨m0,w0⟩,turn⟩:=h2
 subst e
 refine wpAny_newObj_type (wpAny_newFunctionEnv hcell (by intro y hy;simp at hy) (fun h₁ hns₁ hsb₁=>?_) hk)
 dsimp only at hns₁ hsb₁ ⊢
 generalize hH2:s2.heap.push { cls:=.type "list", dict:=none,data:=.seq ([]:List Value).toArray }=HL at hns₁ hsb₁ ⊢
 have hC:HL.objs.size=s2.heap.objs.size+1:=by rw [←hH2,Heap.size_push]
 generalize hCC:HL.objs.size=C at hns₁ hsb₁ hC ⊢
 have hDC:s2.heap.objs.size≠C:=by rw [hC];exact Nat.ne_of_lt (Nat.lt_succ_self _)
 have below:∀b,b<s2.heap.objs.size→b≠C/\b≠s2.heap.objs.size:=fun b hb=>⟨by rw [hC];exact Nat.ne_of_lt (Nat.lt_succ_of_lt hb),Nat.ne_of_lt hb⟩
 have old:∀b o,s2.heap.get? b=some o→h₁.get? b=some o:=fun b o e=>hsb₁.extBut b o (below b (Heap.lt_size e)).1 (Heap.get?_push_of_some _ (hH2 ▸ Heap.get?_push_of_some _ e))
 have eD0:h₁.get? s2.heap.objs.size=some { cls:=.type "list", data:=.seq ([]:List Value).toArray }:=hsb₁.extBut _ _ hDC (Heap.get?_push_of_some _ (hH2 ▸ Heap.get?_push_size _ rfl))
 have fpLt:∀b∈fp,b<s2.heap.objs.size:=fun b hb=>by
  obtain ⟨o,e,_⟩:=T.obj _ _ st2 b hb
  exact Heap.lt_size e
 generalize hD:s2.heap.objs.size=D at hDC below eD0 fpLt hC
 have hDfp:D∉fp:=fun z=>Nat.lt_irrefl _ (fpLt D z)
 have okY:(Aw X scope (own++fr.map (·.1)) C s2 H2 fp).Ok:=by
  refine ⟨I2.ok.mod,hk,I2.ok.glob,I2.ok.blt,by show s2.heap.objs.size≤C;omega,fun x y c e1 e2=>I2.ok.inj x y c (hcl x c e1) (hcl y c e2),fun y hy=>?_,fun x c z _=>(by cases z),I2.ok.hd,I2.ok.frames,.inl rfl,fun b hb=>⟨(below b (fpLt b hb)).1,fun y c e=>?_⟩,I2.bs,
   Nat.le_trans I2.ok.bsz I2.sz,fun b o e hb=>?_,fun b hb z=>?_,I2.stack,I2.Ke⟩
  ·exact FJ scope.names [] (.inl (EN (env:=X.env) hcell hy))
  ·exact (f2 b hb).2.2.2.2.1 y c (hcl y c e)
  ·rcases (f2 b hb).2.2.2.1 with z|z
   ·exact I2.ok.OQ b o e z
   ·exact absurd (Nat.lt_of_lt_of_le (Heap.lt_size e) (Nat.le_trans I2.ok.bsz z)) (Nat.lt_irrefl _)
  ·rcases List.mem_cons.mp (I2.Gv b z) with q|q
   ·exact (f2 b hb).2.1 q
   ·exact (f2 b hb).2.2.1 q
 have cellLt:∀y c,X.env.cells.lookup y=some c→c<D:=fun y c e=>by
  obtain ⟨v,z⟩:=I2.cell y c e
  exact Nat.lt_of_lt_of_le z.lt (Nat.le_of_eq hD)
 have stkLt:∀b∈frs X.stack,b<D:=fun b hb=>by
  rcases List.mem_cons.mp (I2.Gv b hb) with q|q
  ·rw [q];exact Nat.lt_of_lt_of_le I2.lt (Nat.le_of_eq hD)
  ·obtain ⟨_,o,ho,_⟩:=I2.ok.F7.mem q
   exact Nat.lt_of_lt_of_le (Heap.lt_size ho) (Nat.le_trans I2.sz (Nat.le_of_eq hD))
 have fresh:∀a,D≤a→H2 a=none:=fun a ha=>I2.hok.fresh (Nat.le_trans (Nat.le_of_eq hD) ha)
 have IY:Inv (Aw X scope (own++fr.map (·.1)) C s2 H2 fp) [] (List.replicate own.length none++(fr.map (·.2)).map (pick σ)) H2 { s2 with heap:=h₁,toks:=s2.toks+([]:List (Str×Value)).length }:=by
  refine ⟨okY,rfl,I2.bare,Un.kept old,⟨_,hns₁,fun i y v e1 e2 e3=>?_⟩,fun y c e=>?_,fresh C (by omega),fun y c e=>I2.Eu y c (hcl y c e),fun p hp=>absurd (show p∈([]:List (Addr×Obj)) from hp) (by simp),I2.hok.kept old,?_⟩
  ·have e1:(own++fr.map (·.1))[i]?=some y:=e1
   have hi':own.length≤i:=by
    by_cases hlt:i<own.length
    ·rw [List.getElem?_append_left (by simpa using hlt),List.getElem?_replicate,if_pos hlt] at e2
     cases e2
    ·omega
   rw [List.getElem?_append_right hi',List.getElem?_map] at e1
   rw [List.getElem?_append_right (by simpa using hi'),List.getElem?_map,List.getElem?_map,List.length_replicate] at e2
   cases hp:fr[i-own.length]? with
   | none=>rw [hp] at e1;cases e1
   | some p =>
    rw [hp] at e1 e2
    have ey:p.1=y:=Option.some.inj e1
    have ev:pick σ p.2=some v:=Option.some.inj e2
    obtain ⟨a1,a3⟩:=hfr.all p (List.mem_of_getElem? hp)
    have es:σ[p.2]?=some (some v):=by
     unfold pick at ev
     cases q:σ[p.2]? with
     | none=>rw [q] at ev;cases ev
     | some z=>rw [q] at ev;exact congrArg some ev
    have hfk:X.env.kindOf p.1=some .cell\/X.env.kindOf p.1=some .free:=hfree (p.1,.free) (PySem.mem_of_lookup a3) rfl
    obtain ⟨m,hn,hl⟩:=I2.loc
    obtain ⟨u,r,l⟩:=hl p.2 p.1 v a1 es (hfk.elim (fun z=>.inr (.inl z)) fun z=>.inr (.inr z))
    refine ⟨u,r,.inr ?_⟩
    rcases l with ⟨z,_⟩|⟨_,c,ec,zc⟩
    ·rcases hfk with q|q <;> rw [z] at q <;> cases q
    ·obtain ⟨c',ec'⟩:=FJ (env:=X.env) (y:=p.1) scope.names [] (.inl (PySem.mem_of_lookup a3))
     have:c'=c:=Option.some.inj ((hcl _ _ ec').symm.trans ec)
     subst this
     rw [←ey]
     obtain ⟨o,ho,hdd⟩:=zc
     exact ⟨By (env:=X.env) a3,c',ec',o,old _ o ho,hdd⟩
  ·obtain ⟨v,z⟩:=I2.cell y c (hcl y c e)
   obtain ⟨o,ho,hdd⟩:=z
   exact ⟨v,o,old _ o ho,hdd⟩
  ·show (List.replicate own.length (none:Option V)++(fr.map (fun p=>p.2)).map (pick σ)).length=(own++fr.map (fun p=>p.1)).length
   simp
 have fpY:∀{H3:Hp} {ob:Obj},(∀b∈fp,H3 b=none)→∀b∈fp,IH (Aw X scope (own++fr.map (·.1)) C s2 H2 fp) [(D,ob)] H3 b:=fun {H3 ob} hn b hb =>
  ⟨hn b hb,(below b (fpLt b hb)).1,fun z=>okY.Oh b hb z,.inl hb,fun y c e=>(okY.exf b hb).2 y c e,fun p hp=>by
   have e:p=(D,ob):=by simpa [Aw] using hp
   rw [e]
   show D≠b
   exact fun z=>hDfp (z ▸ hb)⟩
 have noC:∀(xs:Array Value) (k:Nat) (v:Option Value),({ cls:=.type "list", data:=.seq xs k }:Obj).data≠.cell v:=fun xs k v z=>by cases z
 have loop:∀s₃:Shared,s₃={ s2 with heap:=h₁,toks:=s2.toks+([]:List (Str×Value)).length } →
   codeAny (model X.prog X.w) X.A (.compLoop (.ListComp elt [⟨tg,iter,ifs,0⟩] scope pos) 0 (.ref it) (.ref D) (compEnvC scope (Ds X.env scope.names) C X.env))
    (compPost (model X.prog X.w) X.A X.xe (some (assign (.Name y py) X.env)) (fun _ s'=>SP X pins D0 .next s') (.ref D) C) s₃:=by
  rintro s₃ rfl
  refine Gh (fun n s'=>∃(i:Nat) (τ:St) (acc:List V) (H':Hp) (its:List Value) (k:Nat),Inv (Aw X scope (own++fr.map (·.1)) C s2 H2 fp) [] τ H' s'/\tn i s'.heap/\(∀b∈fp,H' b=none)/\H' D=none/\Vals acc its /\
   s'.heap.get? D=some { cls:=.type "list", data:=.seq its.toArray k }/\acc.length≤sizeLine/\W i n τ acc H') ?_ m0
   ⟨0,_,[],H2,[],0,IY,T.keep _ _ _ st2 fun b _ o e=>old b o e,fun b hb=>(f2 b hb).1,fresh D (Nat.le_refl _),.nil,eD0,Nat.zero_le _,w0⟩
  rintro n s3 ⟨i,τ,acc,H3,its,k,I3,st3,fr3,fD,rv,eD,hz,w3⟩
  have I3':Inv (Aw X scope (own++fr.map (·.1)) C s2 H2 fp) [(D,{ cls:=.type "list", data:=.seq its.toArray k })] τ H3 s3:=I3.CZ fun p hp=>by
   have e:p=(D,{ cls:=.type "list", data:=.seq its.toArray k }):=by simpa using hp
   subst e
   exact ⟨eD,fD,hDC,fun z=>Nat.lt_irrefl _ (stkLt D z),noC _ _⟩
  rcases turn i n τ acc H3 w3 with ⟨stop,qn⟩|⟨go,hlt,step⟩
  ·refine thn (T.done (Aw X scope (own++fr.map (·.1)) C s2 H2 fp) rfl rfl rfl hc i _ s3 τ H3 (fun _ _=>False) I3' (fpY fr3) st3 stop) fun r s4 ⟨hr,I4⟩=>?_
   subst hr
   obtain ⟨m,hn4,_⟩:=I4.loc
   obtain ⟨eD4,fD4,_⟩:=I4.pin (D,{ cls:=.type "list", data:=.seq its.toArray k }) (List.mem_append_right _ (List.mem_singleton.mpr rfl))
   have b4:Un (frs X.stack) fp H2 H3 s2.heap s4.heap:=I4.base
   have lt2:∀b o,s2.heap.get? b=some o→b≠C/\b≠D:=fun b o e=>below b (Nat.lt_of_lt_of_le (Heap.lt_size e) (Nat.le_of_eq hD))
   have tr2:∀b o,H2 b=some o→b≠D:=fun b o e z=>by
    have:=fresh D (Nat.le_refl _)
    rw [z,this] at e
    cases e
   have un:Un (frs X.stack) fp H2 (upd H3 D (.lst acc)) s2.heap s4.heap:=by
    refine ⟨fun b o e n hb hx=>b4.keep b o e n hb hx,fun b o e n hb hx=>?_,fun b o e n hx=>?_,fun b o e hx=>?_,fun b xs e=>?_,fun b o u e=>?_,fun b ps e=>?_⟩
    ·obtain ⟨sl,q⟩:=b4.slot b o e n hb hx
     exact ⟨sl,q⟩
    ·rw [AF (lt2 b o e).2];exact b4.free b o e n hx
    ·obtain ⟨o',q⟩:=b4.there b o e hx
     exact ⟨o',q⟩
    ·rw [AF (tr2 _ _ e)];exact b4.Ia b xs e
    ·rw [AF (tr2 _ _ e)];exact b4.IG b o u e
    ·rw [AF (tr2 _ _ e)];exact b4.Ih b ps e
   have hok':HOk X.prog X.w (upd H3 D (.lst acc)) s4.heap:=I4.hok.SE fD4 ⟨hz,its,k,rv,eD4⟩
   have IX:Inv X pins σ (upd H3 D (.lst acc)) s4:=I2.SU (s':=s4) (ch:=fp) I4.os un hok' I4.bare fun b hb=>⟨(f2 b hb).2.2.2.1,(f2 b hb).2.1,(f2 b hb).2.2.2.2.1,(f2 b hb).2.2.2.2.2⟩
   have hHC:H3 C=none:=I4.free
   have noCD:∀b:Addr,b<D→C≠b:=fun b hb z=>by
    rw [←z,hC] at hb
    exact Nat.lt_irrefl D (Nat.lt_of_succ_lt hb)
   have hCL:C≠X.env.locals:=noCD _ (Nat.lt_of_lt_of_le I2.lt (Nat.le_of_eq hD))
   show wpAny (model X.prog X.w) X.A (assign (.Name y py) X.env (.ref D)) _ X.xe s4
   refine wpAny_assign_Name (Jv IX hN hiy hxy (v:=.ref D) rfl (fun s5 I5 ⟨a,sb5,ha⟩=>?_) hfy)
   have hCa:C≠a:=by
    rcases ha with z|z
    ·rw [z];exact hCL
    ·exact noCD _ (cellLt _ _ z)
   refine ⟨m,Heap.Ns.sameBut hn4 sb5 hCa,fun h' sb=>⟨_,_,I5.turned (it:=C) (t':=s5.toks) (fun b o hb e=>(sb.2 b hb).trans e) (by rw [AF hDC.symm];exact hHC) hCL (.inr ?_) (fun z c e q=>?_) (fun p hp q=>?_),qn D fD4⟩⟩
   ·exact Nat.le_trans I2.sz (by omega)
   ·exact noCD _ (cellLt z c e) q.symm
   ·exact noCD _ (Nat.lt_of_lt_of_le (Heap.lt_size (I2.pin p hp).1) (Nat.le_of_eq hD)) q.symm
  ·refine thn (T.item (Aw X scope (own++fr.map (·.1)) C s2 H2 fp) rfl rfl rfl hc i _ s3 τ H3 (fun _ _=>False) I3' (fpY fr3) st3 go) fun r s4 ⟨u,hr,h4⟩=>?_
   subst hr
   refine thn h4 fun _ s5 ⟨x,H5,I5,r5,y5,st5,fr5⟩=>?_
   have I5':=I5.pinned (fpY fr5) (T.obj _ _ st5)
   refine thn (hg _ _ _ _ _ s5 τ H5 x u _ I5' r5 (step x H5 y5)) fun _ s6 ⟨τ6,H6,I6,q6⟩=>?_
   refine thn (ht _ _ _ _ _ s6 τ6 H6 _ I6 q6) fun b s7 ⟨H7,I7,q7⟩=>?_
   have facts:∀{s8:Shared} {H8:Hp} {τ8:St},Inv (Aw X scope (own++fr.map (·.1)) C s2 H2 fp) ([(D,{ cls:=.type "list", data:=.seq its.toArray k })]++G5 fp s5.heap) τ8 H8 s8 →
     tn (i+1) s8.heap/\(∀b∈fp,H8 b=none)/\H8 D=none/\s8.heap.get? D=some { cls:=.type "list", data:=.seq its.toArray k }:=fun {s8 H8 τ8} I8=>by
    have hp:∀b∈fp,∀o,s5.heap.get? b=some o→s8.heap.get? b=some o/\H8 b=none:=fun b hb o e=>by
     have q:=I8.pin (b,o) (List.mem_append_right _ (List.mem_append_right _ (EW hb e)))
     exact ⟨q.1,q.2.1⟩
    have qD:=I8.pin (D,{ cls:=.type "list", data:=.seq its.toArray k }) (List.mem_append_right _ (List.mem_append_left _ (List.mem_singleton.mpr rfl)))
    refine ⟨T.keep _ _ _ st5 fun b hb o e=>(hp b hb o e).1,fun b hb=>?_,qD.2.1,qD.1⟩
    obtain ⟨o,e,_⟩:=T.obj _ _ st5 b hb
    exact (hp b hb o e).2
   cases b with
   | false =>
    have q7:∃m',m'<n/\W (i+1) m' τ6 acc H7:=q7
    obtain ⟨m',hm,w7⟩:=q7
    obtain ⟨z1,z2,z3,z4⟩:=facts I7
    exact ⟨m',hm,i+1,τ6,acc,H7,its,k,I7.CZ fun p hp=>absurd hp (by simp),z1,z2,z3,rv,z4,hz,w7⟩
   | true =>
    refine thn (he _ _ _ _ _ s7 τ6 H7 _ I7 q7) fun u8 s8 ⟨y,H8,I8,r8,m',hm,w8⟩=>?_
    obtain ⟨z1,z2,z3,z4⟩:=facts I8
    have hl:=rv.length
    refine call_meets F.slot_list_append ⟨_,z4,rfl⟩ F.entry_list_append (F.args_list_append_2 _ _) (PySem.list_append D its.toArray k u8 (by rw [List.size_toArray];omega)) ⟨z4,?_⟩
    have z5:=PySem.IsL.update z4 (·.push u8)
    have z6:its.toArray.push u8=(its++[u8]).toArray:=by simp
    rw [z6] at z5
    have kk:∀b o,b≠D→s8.heap.get? b=some o→(s8.heap.update D (Obj.mapSeq (·.push u8))).get? b=some o:=fun b o hb e=>(Heap.get?_update_other s8.heap (Obj.mapSeq (·.push u8)) (Ne.symm hb)).trans e
    have I8':Inv (Aw X scope (own++fr.map (·.1)) C s2 H2 fp) [] τ6 H8 s8:=I8.CZ fun p hp=>absurd hp (by simp)
    refine ⟨m',hm,i+1,τ6,acc++[y],H8,its++[u8],_,I8'.turned (it:=D) kk z3 hDC (.inr (by show s2.heap.objs.size≤D;omega)) (fun y c e=>Nat.ne_of_lt (cellLt y c (hcl y c e))) (fun p hp=>absurd (show p∈([]:List (Addr×Obj)) from hp) (by simp)),?_,z2,z3,
     rv.append (.cons r8 .nil),z5,?_,w8⟩
    ·exact T.keep _ _ _ z1 fun b hb o e=>kk b o (fun z=>hDfp (z ▸ hb)) e
    ·rw [List.length_append,List.length_singleton];omega
 exact codeAny_compStart_list (loop _ rfl) (T.self X.A 0 _ _ _ (T.keep _ _ _ st2 fun b _ o e=>old b o e) (loop _ rfl))
theorem FQ {i:Nat}{y:Str}{iter elt:Expr}{ifs:List Expr}{scope osc:Scope}{wi:TI}{tt:TT}{te:TE}{x:Str}{px py pos spos:Pos}(fr:List (Str×Nat))
  (hN:X.N.Nodup) (hiy:X.N[i]?=some y) (hxy:Loc X.env.scope y)
  (hc:X.calm=true) (hi:PI X (.Name x px) iter wi) (ho:X.env.scope=osc)
  (hk:scope.kind=.function) (hcell:∀y∈scope.names,y.2≠.cell) (hnames:∀y∈scope.names,y.2=.local→scope.names.lookup y.1=some .local)
  (hfree:∀y∈scope.names,y.2=.free→osc.names.lookup y.1=some .cell\/osc.names.lookup y.1=some .free) (hfr:MP X scope fr)
  (hx:scope.names.lookup x=some .local) (hnd:(x::fr.map (·.1)).Nodup)
  (ht:∀C s H ex,PTs (Aw X scope (x::fr.map (·.1)) C s H ex) ifs tt)
  (he:∀C s H ex,PE (Aw X scope (x::fr.map (·.1)) C s H ex) elt te)
  (hsw:swapsWith (.ListComp elt [⟨.Name x px,iter,ifs,0⟩] scope pos) (some (.Name y py)) spos.line X.env=pure true:=by rfl)
  (hf:X.fn y=true\/X.env.scope.names.lookup y=some .local:=by first|exact .inl rfl|exact .inr rfl|assumption)
  (hs:∀x,foldedSetIterable iter X.env x=pure x:=by intro _;rfl) :
  PS X (.Assign [.Name y py] (.ListComp elt [⟨.Name x px,iter,ifs,0⟩] scope pos) spos) (Sg (LO 1 (fr.map (·.2)) wi (KL 0) tt te) (KL i)) :=
 Pf (own:=[x]) hN hiy hxy hf hc hi hk hcell hnames (fun y hy e=>by show X.env.scope.names.lookup y.1=_\/X.env.scope.names.lookup y.1=_;rw [ho];exact hfree y hy e) hfr
  (fun C s H ex=>BM (i:=0) hnd rfl (.inl (lookup_relabel_local hx)) (.inr (lookup_relabel_local hx))) ht he hsw hs
end
end L2
namespace L2
open PySem PySem.Spec PyProof.Rows
open Sem (wp)
def Kd {α:Type}:Sem α→Prop
 | .pure _=>True
 | .raise _=>True
 | .unsupported _=>True
 | .finish _=>True
 | .rule _ k=>Kd (k ())
 | .at _ k=>Kd (k ())
 | .load _ _ k=>∀o,Kd (k o)
 | .update _ _ f k=>(∀o,(f o).dict=o.dict)/\Kd (k ())
 | .loadIfAlive _ k=>∀o,Kd (k o)
 | .point _ k=>Kd (k ())
 | .alloc _ k=>∀a,Kd (k a)
 | .fresh k=>∀t,Kd (k t)
 | .ask k=>∀t,Kd (k t)
 | .stack k=>∀l,Kd (k l)
 | _=>False
def DictAt (e:Addr) (d:Option Addr) (h:Heap):Prop:=∃o,h.objs[e]?=some o/\o.dict=d
section
variable {M:Model}{A:Around}{E:Value→Shared→Prop}{s:Shared}{base:Heap}{env:Env}{outer l:List Env}{L e:Addr}{cls a0:Value}{dd:Option Addr}{Q:Unit→Shared→Prop}
end
end L2
namespace L2
open PySem PySem.Spec PyProof.Rows
section
variable {P:Program}{w:World}{K:PySem.W.Frag}{mg:Str→Option Value}{base:Heap}{N:List Str}{qual:Str}{scope:Scope}{f:Addr}{cd:Value}{A:Around}{outer:List Env}{s₀:Shared}{H₀:Hp}{E E':XK}
structure ExC (K:PySem.W.Frag) (C:Addr) (bm:List Value):Prop where
 obj:∃(nm q:Str) (NS:Addr) (bs:List Value) (hdct:Bool) (sn:List Str) (sub:List Value) (ab:Bool) (col:Option Bool) (dd:Option Addr) (k0 k1 k2 k3 k5:Option Value) (mN:Str→Option Value),
  K.lookup C=some (excClassObj nm q C NS bs bm hdct sn sub ab col dd k0 k1 k2 k3 k5 "ValueError.__new__")/\mN "__init__" = none/\∀h:Heap,K.In h→h.Ns NS mN/\OwnTail h [.type "ValueError", .type "Exception", .type "BaseException", .type "object"] bm
 base:bm.contains (.type "BaseException")=true
end
end L2
namespace L2
open PySem PySem.Spec PyProof.Rows
section
variable {X:Cx}{pins:List (Addr×Obj)}{σ:St}{H H':Hp}{s s':Shared}{B h':Heap}
end
end L2
namespace L2
open PySem PySem.Spec PyProof.Rows
section
variable {X:Cx}{pins:List (Addr×Obj)}{σ:St}{H:Hp}{s:Shared}
end
end L2
namespace L2
open PySem PySem.Spec PyProof.Rows
end L2
namespace L2
open PySem PySem.Spec PyProof.Rows
end L2
namespace L2
open PySem PySem.Spec PyProof.Rows
theorem Sm {a b c:Int}(hc1:1≤c) (hc2:c≤2000000) (ha:-(2 ^ 40)≤a) (ha':a<2 ^ 40) (hb:-(2 ^ 40)≤b) (hb':b<2 ^ 40):Builtin.Range.small a b c=true:=by
 have h:=Nz (lo:=a) (hi:=b) hc1
 have hs:=SH (lo:=a) (hi:=b) hc1
 unfold Builtin.Range.small
 have h2:(BE a b c:Int)≤2 ^ 42:=by split at h <;> omega
 have h3:(BE a b c:Int) * c≤2 ^ 42 * 2000000:=Int.mul_le_mul h2 (by omega) (by omega) (by omega)
 have h4:0≤(BE a b c:Int) * c:=Int.mul_nonneg (by omega) (by omega)
 have h5:0≤c * (BE a b c:Int):=Int.mul_nonneg (by omega) (by omega)
 have h6:c * (BE a b c:Int)≤2 ^ 42 * 2000000:=by rw [Int.mul_comm];exact h3
 rw [hs]
 simp only [Builtin.Range.rangeFitsLong,Bool.and_eq_true,Bool.or_eq_true,decide_eq_true_eq,beq_iff_eq,show c > 0 by omega,if_true]
 generalize (BE a b c:Int) * c=A at *
 generalize c * (BE a b c:Int)=B at *
 refine ⟨?_,?_⟩ <;> omega
theorem Aa {α β:Type}{F:α→β→Prop}:∀{l₁:List α}{l₂:List β},l₁.length=l₂.length→(∀(i:Nat) a b,l₁[i]?=some a→l₂[i]?=some b→F a b)→Paired F l₁ l₂
 | [],[],_,_=>.nil
 | a::l₁,b::l₂,hl,h=>.cons (h 0 a b rfl rfl) (Aa (by simpa using hl) fun i x y hx hy=>h (i+1) x y (by simpa using hx) (by simpa using hy))
def Mf (i j d:Int):List Int:=(List.range (BE i j d)).map fun k:Nat=>i+(k:Int) * d
theorem C3 (i j d:Int):(Mf i j d).length=BE i j d:=by unfold Mf;rw [List.length_map,List.length_range]
theorem Iv {i j d:Int}{k:Nat}(h:k<BE i j d):(Mf i j d)[k]?=some (i+(k:Int) * d):=by
 unfold Mf
 rw [List.getElem?_map,List.getElem?_range h]
 rfl
def N2 (ta:TA):TE:=fun σ H Q=>ta σ H fun vs H1=>∃i j d:Int,vs=[.int i,.int j,.int d]/\(1≤d/\d≤2000000/\-(2 ^ 40)≤i/\i<2 ^ 40/\-(2 ^ 40)≤j/\j<2 ^ 40/\BE i j d≤16777216) /\
 ∀l,H1 l=none→Q (.ref l) (upd H1 l (.lst ((Mf i j d).map V.int)))
section
variable {X:Cx}
theorem Lg {a b c:Expr}{ta:TA}{p p2 pos pos2:Pos}(hc:X.calm=true) (hgl:Gl X "list") (hml:X.mg "list" = none) (hg:Gl X "range") (hm:X.mg "range" = none) (ha:PA X [a,b,c] ta)
  (hs:starEach [a,b,c] X.env=[(false,eval a X.env),(false,eval b X.env),(false,eval c X.env)]:=by rfl) (hs2:starEach [b,c] X.env=[(false,eval b X.env),(false,eval c X.env)]:=by rfl)
  (hs0:starEach [.Call (.Name "range" p2) [a,b,c] [] pos2] X.env=[(false,eval (.Call (.Name "range" p2) [a,b,c] [] pos2) X.env)]:=by rfl) :
  PE X (.Call (.Name "list" p) [.Call (.Name "range" p2) [a,b,c] [] pos2] [] pos) (N2 ta):=by
 intro pins s σ H Q I h
 refine wpAny_Call_Name_kw (EZ I hgl hml boot_list ?_)
 refine PyProof.Rows.callWith_type1 ?_ (by rw [hs0];rfl) rfl
 rw [hs0]
 refine Calls.spliced_cons ?_
 refine Call_ (EZ I hg hm boot_range (PyProof.Rows.callWith_type1 (thn (ha pos2 pins s σ H _ I h) fun us s1 ⟨vs,H1,I1,r1,q1⟩=>?_) (by rw [hs,hs2]) (by rw [hs2];rfl)))
 obtain ⟨i,j,d,e,⟨d1,d2,q1,q2,q3,q4,q5⟩,q⟩:=q1
 subst e
 cases r1 with
 | cons r rr =>
  cases rr with
  | cons r' rr =>
   cases rr with
   | cons r2 rr =>
    cases rr
    obtain ⟨t,rfl⟩:=r
    obtain ⟨t',rfl⟩:=r'
    obtain ⟨t2,rfl⟩:=r2
    refine call_range_3 (by omega) ?_ (.inl (PyProof.noPylong_small (by omega)))
    refine Calls.spliced_nil ?_
    have I2:Inv X pins σ H1 { s1 with heap:=s1.heap.push { cls:=.type "range", data:=.fields #[.int i t,.int j t',.int d t2] },toks:=s1.toks }:=I1.kept fun b o e=>Heap.get?_push_of_some _ e
    refine PySem.call_list_range (I1.ok.hd hc) (IsRange.new ..) (Sm d1 d2 q1 q2 q3 q4) (SH d1) q5 fun h' tk acc c' hk hS hacc=>?_
    refine ⟨.ref _,_,I2.laid (t':=tk) hk (Nat.le_refl _) (show A7 X.prog X.w _ h' _ (.lst ((Mf i j d).map V.int)) from ⟨?_,acc.toList,c',?_,by simpa using hS⟩),rfl,q _ (I2.hok.fresh (Nat.le_refl _))⟩
    ·rw [List.length_map,C3]
     exact q5
    ·refine Aa (by rw [List.length_map,C3,Array.length_toList,hacc.1]) fun k x u hx hu=>?_
     have hk':k<BE i j d:=by
      have:=(List.getElem?_eq_some_iff.mp hx).1
      rw [List.length_map,C3] at this
      exact this
     rw [List.getElem?_map,Iv hk'] at hx
     obtain ⟨tk',e⟩:=hacc.2 k u (by simpa using hu)
     rw [←Option.some.inj hx,e]
     exact ⟨_,rfl⟩
theorem KP {K:PySem.W.Frag}(hc:X.calm=true) (hK:X.K=K:=by rfl):Cg X (.builtin "sum") (fun xs H Q=>∃(p:Addr) (ns:List Int),xs=[.ref p]/\SqL K H p (ns.map V.int)/\Q (.int ns.sum) H):=by
 subst hK
 intro pins s σ H xs us Q I r h
 obtain ⟨p,ns,rfl,hq,q⟩:=h
 obtain ⟨u,rfl,ru⟩:=vals1 r
 cases ru
 obtain ⟨its,rv,pl,hz⟩:=I.list hq
 have hi:=intsAre_of rv
 obtain ⟨zs,hx⟩:=hi.allInts.items
 have hl':s.heap.IsList p (intItems zs):=hx ▸ pl.isList
 refine sum_intListG (I.ok.hd hc) hl' fun h' tk t' hk=>?_
 have e1:ns=zs.toList.map (·.1):=by
  rw [←nums_intItems,←hx]
  exact (show numsOf its.toArray.toList=ns from hi.numsOf).symm
 have e2:preSum (numAt zs) zs.size=ns.sum:=by
  rw [preSum_eq,List.take_of_length_le (by simp),e1]
 rw [e2]
 exact ⟨.int _,H,I.kept (t':=tk) hk,⟨_,rfl⟩,q⟩
theorem HQ {K:PySem.W.Frag}(hc:X.calm=true) (hK:X.K=K:=by rfl):Cg X (.builtin "min") (fun xs H Q=>∃(p:Addr) (ns:List Int),xs=[.ref p]/\SqL K H p (ns.map V.int)/\0<ns.length/\∀M,M∈ns→(∀a,a∈ns→M≤a)→Q (.int M) H):=by
 subst hK
 intro pins s σ H xs us Q I r h
 obtain ⟨p,ns,rfl,hq,hne,q⟩:=h
 obtain ⟨u,rfl,ru⟩:=vals1 r
 cases ru
 obtain ⟨its,rv,pl,hz⟩:=I.list hq
 have hi:=intsAre_of rv
 obtain ⟨zs,e⟩:=hi.allInts.items
 have hns:ns=zs.toList.map (·.1):=by
  rw [←nums_intItems,←e]
  exact (show numsOf its.toArray.toList=ns from hi.numsOf).symm
 have hsz:0<zs.size:=by
  have h3:=hne;rw [hns,List.length_map,Array.length_toList] at h3;exact h3
 have hl:s.heap.IsList p (intItems zs):=e ▸ pl.isList
 refine min_intList (I.ok.hd hc) hl hsz fun v h' tk hv hk=>?_
 obtain ⟨t,rfl⟩:=intItems_at hv
 obtain ⟨h1,h2⟩:=argBest_lt (numAt zs) (zs.size-1)
 refine ⟨.int _,H,I.kept (t':=tk) hk,⟨_,rfl⟩,q _ ?_ fun a ha=>?_⟩
 ·rw [hns,numAt_eq];exact getD_mem (by rw [List.length_map,Array.length_toList];omega)
 ·rw [hns] at ha
  obtain ⟨j,hj,rfl⟩:=mem_getD ha
  rw [List.length_map,Array.length_toList] at hj
  rw [←numAt_eq];exact h2 j (by omega)
theorem HR {K:PySem.W.Frag}(hc:X.calm=true) (hK:X.K=K:=by rfl):Cg X (.builtin "max") (fun xs H Q=>∃(p:Addr) (ns:List Int),xs=[.ref p]/\SqL K H p (ns.map V.int)/\0<ns.length/\∀M,M∈ns→(∀a,a∈ns→a≤M)→Q (.int M) H):=by
 subst hK
 intro pins s σ H xs us Q I r h
 obtain ⟨p,ns,rfl,hq,hne,q⟩:=h
 obtain ⟨u,rfl,ru⟩:=vals1 r
 cases ru
 obtain ⟨its,rv,pl,hz⟩:=I.list hq
 have hi:=intsAre_of rv
 obtain ⟨zs,e⟩:=hi.allInts.items
 have hns:ns=zs.toList.map (·.1):=by
  rw [←nums_intItems,←e]
  exact (show numsOf its.toArray.toList=ns from hi.numsOf).symm
 have hsz:0<zs.size:=by
  have h3:=hne;rw [hns,List.length_map,Array.length_toList] at h3;exact h3
 have hl:s.heap.IsList p (intItems zs):=e ▸ pl.isList
 refine max_intList (I.ok.hd hc) hl hsz fun v h' tk hv hk=>?_
 obtain ⟨t,rfl⟩:=intItems_at hv
 obtain ⟨h1,h2⟩:=argBest_gt (numAt zs) (zs.size-1)
 refine ⟨.int _,H,I.kept (t':=tk) hk,⟨_,rfl⟩,q _ ?_ fun a ha=>?_⟩
 ·rw [hns,numAt_eq];exact getD_mem (by rw [List.length_map,Array.length_toList];omega)
 ·rw [hns] at ha
  obtain ⟨j,hj,rfl⟩:=mem_getD ha
  rw [List.length_map,Array.length_toList] at hj
  rw [←numAt_eq];exact h2 j (by omega)
end
theorem Qa {K:PySem.W.Frag}{H:Hp}{x y:V}{d:PyData}{Q:VK}(h1:Dv K H x d) (h2:Dv K H y d) (hs:SeqAt.shaped d=true) (q:Q (.bl true) H):UH K x y H Q :=
 ⟨d,d,h1,h2,hs,hs,by rw [PySem.SeqAt.eqv_refl d (SeqAt.canLay_of_shaped hs)];exact q⟩
theorem JM {K:PySem.W.Frag}{H:Hp}{x y:V}{d:PyData}{Q:VK}(h1:Dv K H x d) (h2:Dv K H y d) (hs:SeqAt.shaped d=true) (q:Q (.bl false) H):UD K x y H Q :=
 ⟨d,d,h1,h2,hs,hs,by rw [PySem.SeqAt.eqv_refl d (SeqAt.canLay_of_shaped hs)];exact q⟩
theorem QB {xs:List V}{lo hi:Option Int}{y:V}(h:y∈F8 xs lo hi):y∈xs:=List.mem_of_mem_drop (List.mem_of_mem_take h)
end L2
namespace L2
open PySem PySem.Spec PyProof.Rows
section
variable {X:Cx}
end
section
variable {X:Cx}
end
end L2
namespace L2
open PySem PySem.Spec PyProof.Rows
abbrev TX:=St→Hp→VK→XK→Prop
section
variable {X:Cx}{k:Nat}{f C:Addr}{fd:FuncData}{ps:List Str}{sp:Sp}{x:Str}{p pos:Pos}{e:Expr}{es:List Expr}{t:TA}{te:TE}
end
section
variable {X:Cx}{cn n:Str}{rpos np hpos pos:Pos}{e0:Expr}{tx:TX}{CF:Addr}{b₀:Stmt}{suite:List Stmt}{th:Addr→TS}{i:Nat}
end
structure ExD (K:PySem.W.Frag) (C:Addr) (bm:List Value):Prop where
 obj:∃(nm q:Str) (NS:Addr) (bs:List Value) (hdct:Bool) (sn:List Str) (sub:List Value) (ab:Bool) (col:Option Bool) (dd:Option Addr) (k0 k1 k2 k3 k5:Option Value),
  K.lookup C=some (excClassObj nm q C NS bs bm hdct sn sub ab col dd k0 k1 k2 k3 k5 "ValueError.__new__") /\
   ∀h:Heap,K.In h→(∃mN,h.Ns NS mN/\mN "__init__" = none)/\OwnTail h [.type "ValueError", .type "Exception", .type "BaseException", .type "object"] bm
section
variable {P:Program}{w:World}{K:PySem.W.Frag}{mg:Str→Option Value}{base:Heap}{N:List Str}{qual:Str}{scope:Scope}{f:Addr}{cd:Value}{A:Around}{outer:List Env}{s₀:Shared}{H₀:Hp}{E':XK}
end
end L2
namespace L2
open PySem PySem.Spec PyProof.Rows
open AutoSeq1 (wpAny_loadPart')
open MeetsSeq
theorem Kb (l:Addr) (items:Array Value) (n:Nat) (dd:Option Addr) (sl:Array (Option Value)) (x:Value) (e:Value→Bool) (he:∀y,y∈items→EqGives y x (e y)) (j:Nat) (hj:j<items.size)
  (hit:e items[j]=true) (hno:∀m (hm:m<items.size),m<j→e items[m]=false) :
  Meets (Builtin.«tuple.index» ⟨[.ref l,x],[]⟩) (fun _ R s=>s.heap.get? l=some { cls:=.type "tuple", dict:=dd,data:=.seq items n,slots:=sl }/\R (.ok (.ret (.int j s.toks))) { s with toks:=s.toks+1 }) :=
 .of_wp fun prog w A R s h=>by
  obtain ⟨hp,g,d,tk,os⟩:=s;obtain ⟨hl,h⟩:=h
  wp_walk using wpAny_loadPart' hl
  change wpAny (model prog w) A.in1 (forIn [:min items.size items.size] ((none,()):Option Fin×Unit) _) _ _ _
  rw [Std.Legacy.Range.forIn_eq_forIn_range']
  simp only [Std.Legacy.Range.size,Nat.sub_zero,Nat.add_sub_cancel,Nat.div_one,Nat.min_self]
  refine wpAny_forIn_list _ (fun rest b s'=>∃k,rest=List.range' k (items.size-k) 1/\k≤j/\b.1=none/\s'=(⟨hp,g,d,tk,os⟩:Shared)) _ ?_ ?_ _ _ ⟨0,rfl,Nat.zero_le _,rfl,rfl⟩
  ·rintro i rest b s' ⟨k,hk,hkj,hb,rfl⟩
   have hks:k<items.size:=Nat.lt_of_le_of_lt hkj hj
   rw [show items.size-k=(items.size-(k+1))+1 by omega,List.range'_succ] at hk
   injection hk with e1 e2
   subst e1 e2
   have hy:items[i]?=some items[i]:=Array.getElem?_eq_getElem hks
   simp only [hy]
   refine wpAny_bind (he _ (Array.getElem_mem hks) prog w _ _ _ _ ?_)
   by_cases hij:i=j
   ·subst hij
    rw [hit]
    wp_walk
    exact ⟨_,rfl,h⟩
   ·rw [hno i hks (by omega)]
    wp_walk
    exact ⟨i+1,rfl,by omega,rfl,rfl⟩
  ·rintro b s' ⟨k,hk,hkj,_⟩
   have:items.size-k=0:=by
    cases hn:items.size-k with
    | zero=>rfl
    | succ m=>rw [hn,List.range'_succ] at hk;cases hk
   omega
section
variable {X:Cx}
theorem NO {ys:List Str}{its:List Value}(r:Vals (ys.map V.str) its) {i:Nat}{z:Str}(h:ys[i]?=some z):∃t,its[i]?=some (.str z t):=by
 obtain ⟨u,hu,t,rfl⟩:=r.get (i:=i) (x:=.str z) (by rw [List.getElem?_map,h];rfl)
 exact ⟨t,hu⟩
def SG (z:Str):Value→Bool
 | .str y _=>y==z
 | _=>false
theorem OR {K:PySem.W.Frag}(hK:X.K=K:=by rfl):MtR X "tuple.index" (fun x xs H Q=>∃(p:Addr) (ys:List Str) (z:Str) (j:Nat),x=.ref p/\xs=[.str z]/\SqT K H p (ys.map V.str)/\ys[j]?=some z/\(∀m,m<j→ys[m]?≠some z)/\Q (.int (j:Int)) H):=by
 subst hK
 intro pins s σ H x xs v us Q I rx rs h
 obtain ⟨p,ys,z,j,rfl,rfl,hq,hj,hno,q⟩:=h
 cases rx
 obtain ⟨u,rfl,t,rfl⟩:=vals1 rs
 obtain ⟨its,rv,ht,hz⟩:=I.tuple hq
 obtain ⟨⟨c,dd,dt,sl⟩,ho,hc,n,hd⟩:=ht
 have hc:c=.type "tuple" := hc
 have hd:dt=.seq its.toArray n:=hd
 subst hc hd
 have hl:=rv.length
 rw [List.length_map] at hl
 have hjl:j<ys.length:=(List.getElem?_eq_some_iff.mp hj).1
 have he:∀y,y∈its.toArray→EqGives y (.str z t) (SG z y):=fun y hy=>by
  obtain ⟨i,hi,rfl⟩:=List.mem_iff_getElem.mp (by simpa using hy)
  obtain ⟨t',e'⟩:=NO rv (List.getElem?_eq_getElem (by omega:i<ys.length))
  rw [List.getElem?_eq_getElem hi] at e'
  rw [Option.some.inj e']
  exact PyProof.Rows.eqGives_str _ _ _ _
 have at_:∀m (hm:m<its.toArray.size),∃t',its.toArray[m]=.str (ys[m]'(by simp at hm;omega)) t':=fun m hm=>by
  have hm':m<ys.length:=by simp at hm;omega
  obtain ⟨t',e'⟩:=NO rv (List.getElem?_eq_getElem hm')
  refine ⟨t',?_⟩
  have hm2:m<its.length:=by omega
  rw [List.getElem?_eq_getElem hm2] at e'
  simpa using Option.some.inj e'
 refine call_meets F.slot_tuple_index ⟨_,ho,rfl⟩ F.entry_tuple_index (F.args_tuple_index_2 _ _) (Kb p its.toArray n dd sl (.str z t) (SG z) he j (by simp;omega) ?_ ?_) ⟨ho,⟨.int (j:Int),H,I.tok _,⟨_,rfl⟩,q⟩⟩
 ·obtain ⟨t',e'⟩:=at_ j (by simp;omega)
  rw [e']
  rw [List.getElem?_eq_getElem hjl] at hj
  show (ys[j]==z)=true
  rw [Option.some.inj hj]
  exact beq_self_eq_true z
 ·intro m hm hmj
  obtain ⟨t',e'⟩:=at_ m hm
  rw [e']
  show (ys[m]==z)=false
  have hne:=hno m hmj
  rw [List.getElem?_eq_getElem (by omega:m<ys.length)] at hne
  exact beq_eq_false_iff_ne.mpr fun q=>hne (congrArg some q)
end
theorem UR {c A B:Prop}[Decidable c] (hc:c) (h:A):if decide c=true then A else B:=by rw [decide_eq_true hc];exact QP h
theorem UQ {c A B:Prop}[Decidable c] (hc:¬ c) (h:B):if decide c=true then A else B:=by rw [decide_eq_false hc];exact D7 h
end L2
namespace L2
open PySem PySem.Spec PyProof.Rows
structure ExI (K:PySem.W.Frag) (C:Addr):Prop where
 ga:PySem.W.findIn K (.ref C) "__getattribute__" = some (some (.builtin "BaseException.__getattribute__"))
 gt:PySem.W.findIn K (.ref C) "__getattr__" = some none
 ck:PySem.W.findIn K (.ref C) "__class__" = some (some (.builtin "object.__class__"))
 sb:PySem.W.subIn K (.ref C) (.type "BaseException")=some true
 so:PySem.W.subIn K (.ref C) (.type "object")=some true
 cl:(PySem.W.clsIn K C).isSome=true
section
variable {prog:Program}{w:World}{A:Around}{E:Value→Shared→Prop}{K:PySem.W.Frag}{h:Heap}{g:Array GenState}{d:Drawn}{t:Nat}{os:OsState}{a C:Addr}{o:Obj}
end
section
variable {X:Cx}
end
theorem AH.Fo {H H':Hp}{b:Addr}{o:HO}(e:AH H H') (h:H b=none):AH H (L2.upd H' b o):=fun c u q=>by
 rw [AF (AK q h)]
 exact e c u q
end L2
namespace L2
open PySem PySem.Spec PyProof.Rows
section
variable {X:Cx}{k:Nat}{f C:Addr}{fd:FuncData}{ps:List Str}{sp:Sp}{m:Str}{apos pos:Pos}{e o:Expr}{es:List Expr}{t:TA}{ta te:TE}
abbrev TSX:=Ends→(St→XK)→St→Hp→Prop
variable {st:Stmt}{sts a b:List Stmt}{c0:Expr}{tx:TX}{u v:TSX}{tc:TT}{x:Str}{px:Pos}{i:Nat}
variable {cn n:Str}{np hpos:Pos}{CF:Addr}{b₀:Stmt}{suite:List Stmt}{th:Addr→TS}
end
section
variable {X:Cx}
end
end L2
namespace L2
open PySem Builtin Builtin.Str
section
variable {X:Cx}
end
theorem Qz {a b:Str}(h:a.cps.toList=b.cps.toList):a=b:=by
 cases a;cases b
 congr 1
 exact Array.toList_inj.mp h
end L2
namespace L2
open PySem PySem.Spec PyProof.Rows
open MeetsSeq
section
variable {X:Cx}
theorem D5 {α β:Type}{F:α→β→Prop}:∀{l₁:List α}{l₂:List β},Paired F l₁ l₂→∀{i:Nat}{a:α}{b:β},l₁[i]?=some a→l₂[i]?=some b→F a b
 | _,_,.nil,i,a,b,h,_=>by simp at h
 | _,_,.cons h _,0,a,b,h1,h2=>by
  have e1:=Option.some.inj h1
  have e2:=Option.some.inj h2
  subst e1 e2
  exact h
 | _,_,.cons _ r,i+1,a,b,h1,h2=>D5 r (i:=i) (by simpa using h1) (by simpa using h2)
theorem Rn {k:Key}{v:Value}(h:Dh k v=true):RelV (kV k) v:=by
 rcases Ay h with ⟨i,t,rfl,rfl⟩|⟨x,t,rfl,rfl⟩
 ·exact ⟨t,rfl⟩
 ·exact ⟨t,rfl⟩
theorem KH {kvs:List (Key×V)}{vs:List (Key×Value)}{acc:List Value}(rel:KV kvs vs) (hl:acc.length=vs.length) (h:∀(j:Nat) (v:Value),acc[j]?=some v→∃(k:Key) (x:Value),vs[j]?=some (k,x)/\Dh k v=true):Vals (kvs.map fun p=>kV p.1) acc:=by
 refine Aa ?_ ?_
 ·rw [List.length_map,hl];exact Paired.length rel
 ·intro i a b ha hb
  obtain ⟨k,x,hv,hk⟩:=h i b hb
  rw [List.getElem?_map] at ha
  obtain ⟨p,hp,rfl⟩:=Option.map_eq_some_iff.mp ha
  have q:=D5 rel hp hv
  rw [q.1]
  exact Rn hk
theorem M8 {K:PySem.W.Frag}(hc:X.calm=true):Cg X (.type "list") (fun xs H Q=>∃(a:Addr) (kvs:List (Key×V)),xs=[.ref a]/\H a=some (.dK kvs)/\∀l,H l=none→Q (.ref l) (upd H l (.lst (kvs.map fun p=>kV p.1)))):=by
 intro pins s σ H xs us Q I r h
 obtain ⟨a,kvs,rfl,e,q⟩:=h
 obtain ⟨u,rfl,rx⟩:=vals1 r
 cases rx
 obtain ⟨z,lo,vs,rel,dd⟩:=JZ I.hok e
 obtain ⟨ep,hat⟩:=dd.dictAt
 have hlen:kvs.length=vs.length:=Paired.length rel
 refine PySem.W.kdl_call (PySem.W.kdl_dict (knd:=AR X.prog X.w) (kvs:=vs) (ep:=ep) lo) (I.ok.hd hc) hat (by omega) fun h' tk acc c' kp e' it=>?_
 refine ⟨.ref s.heap.objs.size,_,I.laid (t':=tk) kp (Nat.le_refl _) (show A7 X.prog X.w _ h' _ (.lst (kvs.map fun p=>kV p.1)) from ⟨by rw [List.length_map];exact z,acc.toList,c',?_,by simpa using e'⟩),rfl,q _ (I.hok.fresh (Nat.le_refl _))⟩
 exact KH rel (by rw [Array.length_toList];exact it.1) fun j v hv=>it.2 j v (by rw [←Array.getElem?_toList];exact hv)
end
end L2
namespace L2
open PySem
section
variable {prog:Program}{w:World}{A:Around}{E:Value→Shared→Prop}{s:Shared}
set_option maxRecDepth 512 in
theorem Sn {b:Addr} {its:Array Value} {n:Nat} {i:Int} {tk:Tok} {y:Value} {Q:Unit→Shared→Prop} (e:s.heap.get? b=some { cls:=.type "list", data:=.seq its n }) (i0:0≤i) (i1:i<2 ^ 63) (i2:i<its.size)
  (q:Q () { s with heap:=s.heap.update b (Obj.mapSeq (·.setIfInBounds i.toNat y)) }):wpAny (model prog w) A (setItem (.ref b) (.int i tk) y) Q E s:=by
 have il:s.heap.IsList b its:=⟨_,e,rfl,n,rfl⟩
 unfold setItem;try (with_reducible refine wpAny_holding ?_);first|(refine wpAny_bind (wpAny_pure ?_))|skip
 refine wpAny_bind (wpAny_sequenceKey il.typeIs (by decide) ?_);refine wpAny_bind (wpAny_callSpecial?_slot (name:=Str.ofString "__setitem__") il.typeIs slot_list_setitem (wpAny_call_entry slot_list_setitem il.typeIs entry_list_setitem ?_ (args_list_setitem _ _ _)))
 show wpAny _ _ (Builtin.List.listSubscript? (.int i tk) >>= _) _ _ s;refine wpAny_bind (wpAny_listSubscript_int (fitsIndex_of i0 i1) ?_)
 clear i1
 obtain ⟨m,rfl⟩:=Int.eq_ofNat_of_zero_le i0
 have hm:m<its.size:=by omega
 have hit:its[m]?=some its[m]:=Array.getElem?_eq_getElem hm
 show wpAny _ _ ((seqItemAt b m >>= fun r=>pure (r.map (m,·))) >>= _) _ _ s;refine wpAny_bind (wpAny_bind (wpAny_seqItemAt e rfl (wpAny_pure ?_)))
 rw [hit]
 show wpAny _ _ (setSeqItemAt b m y >>= _) _ _ s;refine wpAny_bind (wpAny_setSeqItemAt e rfl ?_)
 first|(exact wpAny_bind (wpAny_pure (wpAny_pure ⟨.none,rfl,wpAny_pure q⟩)))|(exact wpAny_pure ⟨.none,rfl,wpAny_pure q⟩)
end
end L2
set_option maxRecDepth 100000
namespace L2
open PySem PySem.Spec PyProof.Rows
open MeetsSeq
section
variable {X:Cx}{o i value:Expr}{pos pos':Pos}{td ty tv:TE}
def UA (td ty tv:TE):TS:=fun D σ H=>tv σ H fun v H1=>td σ H1 fun x H2=>ty σ H2 fun y H3=>∃(l:Addr) (xs:List V) (j:Nat),x=.ref l/\y=.int (j:Int)/\H3 l=some (.lst xs)/\j<xs.length/\D.nx σ (upd H3 l (.lst (xs.set j v)))
theorem LG {x:V}{u:Value}(r:RelV x u):∀{xs:List V}{us:List Value},Vals xs us→∀j,Vals (xs.set j x) (us.set j u)
 | _,_,.nil,_=>.nil
 | _,_,.cons a b,0=>.cons r b
 | _,_,.cons a b,j+1=>.cons a (LG r b j)
theorem RN (ho:PE X o td) (hi:PE X i ty) (hv:PE X value tv) (hs:swapsWith value (some (.Subscript o i pos')) pos.line X.env=pure false) :
  PS X (.Assign [.Subscript o i pos'] value pos) (UA td ty tv):=by
 intro pins s σ H D I h
 refine wpAny_Assign_Subscript (thn (hv pins s σ H _ I h) fun r s1 ⟨v,H1,I1,rv,q1⟩=>thn (ho pins s1 σ H1 _ I1 q1) fun u s2 ⟨x,H2,I2,rx,q2⟩=>thn (hi pins s2 σ H2 _ I2 q2) fun iv s3 ⟨y,H3,I3,ry,l,xs,j,ex,ey,e,hj,q3⟩=>?_) hs
 subst ex ey
 obtain rfl:u=Value.ref l:=rx
 obtain ⟨t,rfl⟩:=ry
 obtain ⟨z,its,n,rs,hl,e'⟩:=I3.OT e
 have len:=rs.length
 have sz:sizeLine=16777216:=sizeLine_eq
 refine Sn e' (by omega) (by omega) (by rw [List.size_toArray];omega) ?_
 exact ⟨σ,_,I3.TH (its':=its.set j r) (t':=s3.toks) e e' (by simp) (LG rv rs j) (by rw [List.length_set];omega),q3⟩
end
end L2
namespace L2
open PySem PySem.Spec PyProof.Rows
structure ExF (K:PySem.W.Frag) (C:Addr) (f:Str):Prop where
 ex:ExI K C
 hd:PySem.W.hasDictIn K C=true
 na:PySem.W.findIn K (.ref C) f=some none
 sa:PySem.W.findIn K (.ref C) "__setattr__" = some (some (.builtin "object.__setattr__"))
section
variable {prog:Program}{w:World}{A:Around}{E:Value→Shared→Prop}{K:PySem.W.Frag}{h:Heap}{g:Array GenState}{d:Drawn}{t:Nat}{os:OsState}{a C dx:Addr}{o:Obj}{f:Str}{v:Value}
end
abbrev VB:List Value:=[.type "ValueError", .type "Exception", .type "BaseException", .type "object"]
structure ExP (K:PySem.W.Frag) (C cF fI:Addr) (f:Str):Prop where
 lk:∃(nm q:Str) (NS:Addr) (bs:List Value) (hdct:Bool) (sn:List Str) (sub:List Value) (ab:Bool) (col:Option Bool) (dd:Option Addr) (k0 k1 k2 k3 k5:Option Value),
  K.lookup C=some (excClassObj nm q C NS bs (.ref cF::VB) hdct sn sub ab col dd k0 k1 k2 k3 k5 "ValueError.__new__")
 tl:PySem.W.excIn K cF VB "ValueError.__new__" = true
 init:PySem.W.findIn K (.ref C) "__init__" = some (some (.ref fI))
 fn:PySem.W.isFn K (.ref fI)=true
 fl:ExF K C f
section
variable {X:Cx}{o e value:Expr}{f:Str}{pos pos':Pos}{ta tv:TE}
end
section
variable {prog:Program}{w:World}{A:Around}{E:Value→Shared→Prop}{K:PySem.W.Frag}{h:Heap}{g:Array GenState}{d:Drawn}{t:Nat}{os:OsState}{C cF fI:Addr}{f:Str}
end
section
variable {P:Program}{w:World}{K:PySem.W.Frag}{mg:Str→Option Value}{base:Heap}{N:List Str}{qual:Str}{scope:Scope}{f:Addr}{cd:Value}{A:Around}{outer:List Env}{s₀:Shared}{H₀:Hp}{E':XK}{fl:Str}
end
end L2
namespace L2
open PySem PySem.Spec PyProof.Rows
theorem Fl {a b:Int}{A B:Prop}(h1:a=b→A) (h2:¬ a=b→B):if decide (V.int a=V.int b)=true then A else B :=
 Rq (fun e=>h1 (V.int.inj (of_decide_eq_true e))) fun e=>h2 fun z=>of_decide_eq_false e (congrArg V.int z)
theorem Hz {a b:Str}{A B:Prop}(h1:a=b→A) (h2:¬ a=b→B):if decide (V.str a=V.str b)=true then A else B :=
 Rq (fun e=>h1 (V.str.inj (of_decide_eq_true e))) fun e=>h2 fun z=>of_decide_eq_false e (congrArg V.str z)
theorem JS {c:Prop}[Decidable c] {A B:Prop}(h1:c→A) (h2:¬ c→B):if decide c=true then A else B :=
 Rq (fun e=>h1 (of_decide_eq_true e)) fun e=>h2 (of_decide_eq_false e)
theorem U1 {c:Bool}{A B:Prop}(h:if c=true then B else A):if (!c)=true then A else B:=by
 cases c
 ·exact h
 ·exact h
def T4 (t:TS):TS:=fun D σ H=>∃N:St→Hp→Prop,t { D with nx:=N } σ H/\∀σ' H',N σ' H'→D.nx σ' H'
theorem E7 {X:Cx}{st:PySem.Stmt}{t:TS}(h:PS X st t):PS X st (T4 t):=fun pins s σ H D I ⟨N,q,k⟩=>by
 refine thn (h pins s σ H { D with nx:=N } I q) fun f s' z=>?_
 cases f with
 | next=>obtain ⟨σ',H',I',n⟩:=z;exact ⟨σ',H',I',k _ _ n⟩
 | brk=>exact z
 | cont=>exact z
 | ret u=>exact z
theorem IB {t:TS} {D:Ends} {σ:St} {H:Hp} (N:St→Hp→Prop) (h:t { D with nx:=N } σ H) (k:∀σ' H',N σ' H'→D.nx σ' H'):T4 t D σ H:=⟨N,h,k⟩
theorem AH.AW {H:Hp}{a:Addr}{o:HO}(h:H a=none):AH H (L2.upd H a o):=(AH.refl H).upd h
end L2
namespace Srt
open PySem PyProof.Rows
structure Cmp (prog:Program) (w:World) (A:Around) (s:Shared) (κ:SortKind) (O:KeyOrd) (kf:Value→O.α) (a₀:Array Keyed):Prop where
 ask:∀p∈a₀.toList,∀q∈a₀.toList,∀(Q:Bool→Shared→Prop) (E:Value→Shared→Prop),Q (O.blt (kf p.1) (kf q.1)) s→wpAny (model prog w) A (keyLt' κ p.1 q.1) Q E s
structure SB (κ:SortKind) (a₀:Array Keyed) (st:SortSt):Prop where
 perm:(arrOf st).Perm a₀
 kind:kindOf st=κ
 failed:failedOf st=none
def KX {O:KeyOrd}(kf:Value→O.α) (xs:Array Keyed) (i:Nat):O.α:=kf ((xs[i]?.map (·.1)).getD .none)
def Up {O:KeyOrd}(kf:Value→O.α) (xs:Array Keyed) (lo hi:Nat):Prop:=∀i j,lo≤i→i≤j→j<hi→O.kle (KX kf xs i) (KX kf xs j)
theorem A5 {O:KeyOrd}{kf:Value→O.α}{xs ys:Array Keyed}{i j:Nat}(h:xs[i]?=ys[j]?):KX kf xs i=KX kf ys j:=by unfold KX;rw [h]
section
variable {prog:Program}{w:World}{A:Around}{E:Value→Shared→Prop}{s:Shared}{κ:SortKind}{O:KeyOrd}{kf:Value→O.α}{a₀:Array Keyed}{st:SortSt}
theorem SB.size (B:SB κ a₀ st):(arrOf st).size=a₀.size:=B.perm.size_eq
theorem SB.put (B:SB κ a₀ st) {xs:Array Keyed}(h:xs.Perm (arrOf st)):SB κ a₀ (setArr st xs):=⟨h.trans B.perm,B.kind,B.failed⟩
theorem SB.at (B:SB κ a₀ st) {i:Nat}(hi:i<a₀.size):∃p,(arrOf st)[i]?=some p/\p∈a₀.toList/\KX kf (arrOf st) i=kf p.1:=by
 have hi':i<(arrOf st).size:=by rw [B.size];exact hi
 refine ⟨(arrOf st)[i],getElem?_pos _ i hi',(Array.perm_iff_toList_perm.mp B.perm).mem_iff.mp (by simp),?_⟩
 unfold KX
 rw [getElem?_pos _ i hi']
 rfl
theorem PY (C:Cmp prog w A s κ O kf a₀) (B:SB κ a₀ st) {p q:Keyed}(hp:p∈a₀.toList) (hq:q∈a₀.toList) {Q:Option Bool→SortSt→Prop}(h:Q (some (O.blt (kf p.1) (kf q.1))) st):wpS (model prog w) A E s (lt' p q) Q st:=by
 rw [lt'_eq]
 refine wpS_bind (wpS_get ?_)
 rw [B.kind]
 exact wpS_bind (wpS_lift (wpAny_attempt (C.ask p hp q hq _ _ ⟨rfl,wpS_pure h⟩)))
theorem Iy (C:Cmp prog w A s κ O kf a₀) (B:SB κ a₀ st) {i j:Nat}(hi:i<a₀.size) (hj:j<a₀.size) {Q:Option Bool→SortSt→Prop}(h:Q (some (O.blt (KX kf (arrOf st) i) (KX kf (arrOf st) j))) st):wpS (model prog w) A E s (ltAt' i j) Q st:=by
 obtain ⟨p,ep,mp,kp⟩:=B.at (kf:=kf) hi
 obtain ⟨q,eq,mq,kq⟩:=B.at (kf:=kf) hj
 rw [kp,kq] at h
 rw [ltAt'_eq]
 refine wpS_bind (wpS_get ?_)
 show wpS _ _ _ _ (elem' (arrOf st) i >>= fun x=>elem' (arrOf st) j >>= fun y=>lt' x y) Q st
 rw [elem'_eq,elem'_eq,ep,eq]
 exact wpS_bind (wpS_pure (wpS_bind (wpS_pure (PY C B mp mq h))))
theorem G9 {xs:Array Keyed}{i j:Nat}(hj:j≤xs.size) (k:Nat):KX kf (mirror xs i j ((j-i) / 2)) k=if i≤k/\k<j then KX kf xs (i+j-1-k) else KX kf xs k:=by
 have e:=getElem?_mirror_all (xs:=xs) (i:=i) hj k
 by_cases h:i≤k/\k<j
 ·rw [if_pos h] at e ⊢;exact A5 e
 ·rw [if_neg h] at e ⊢;exact A5 e
theorem KG {xs:Array Keyed}{src d:Nat}(hs:src<xs.size) (hd:d≤src) (k:Nat):KX kf (bubble xs src d) k=if k=src-d then KX kf xs src else if src-d<k/\k≤src then KX kf xs (k-1) else KX kf xs k:=by
 have e:=getElem?_bubble hs d hd k
 by_cases h1:k=src-d
 ·rw [if_pos h1] at e ⊢;exact A5 e
 ·rw [if_neg h1] at e ⊢
  by_cases h2:src-d<k/\k≤src
  ·rw [if_pos h2] at e ⊢;exact A5 e
  ·rw [if_neg h2] at e ⊢;exact A5 e
structure Ek (lo:Nat) (st st':SortSt):Prop where
 pend:pendingOf st'=pendingOf st
 low:∀k,k<lo→(arrOf st')[k]?=(arrOf st)[k]?
theorem Ek.refl (lo:Nat) (st:SortSt):Ek lo st st:=⟨rfl,fun _ _=>rfl⟩
theorem Ek.trans {lo:Nat}{a b c:SortSt}(x:Ek lo a b) (y:Ek lo b c):Ek lo a c:=⟨y.pend.trans x.pend,fun k h=>(y.low k h).trans (x.low k h)⟩
theorem Pa (C:Cmp prog w A s κ O kf a₀) {lo n ok:Nat}(hn:lo+n≤a₀.size) (hok:ok≤n) (B:SB κ a₀ st) (hs:Up kf (arrOf st) lo (lo+ok)) {Q:Bool→SortSt→Prop}
  (h:∀st',SB κ a₀ st'→Ek lo st st'→Up kf (arrOf st') lo (lo+n)→Q true st'):wpS (model prog w) A E s (binarySort' lo n ok) Q st:=by
 rw [binarySort'_eq]
 refine wpS_bind (wpS_mono (wpS_forRange (I:=fun k c st'=>c=(none,())/\SB κ a₀ st'/\Ek lo st st'/\Up kf (arrOf st') lo (lo+min k n))
  (Q:=fun c st'=>c=(none,())/\SB κ a₀ st'/\Ek lo st st'/\Up kf (arrOf st') lo (lo+n)) ?step ?fin ?init) ?post)
 case post =>
  rintro c st' ⟨rfl,B',K',u⟩
  exact wpS_pure (h st' B' K' u)
 case init =>
  refine ⟨rfl,B,Ek.refl _ _,fun i j h1 h2 h3=>?_⟩
  by_cases z:ok=0
  ·obtain rfl:i=j:=by omega
   exact KeyOrd.kle_refl _
  ·exact hs i j h1 h2 (by omega)
 case fin =>
  rintro c st' ⟨hc,B',K',u⟩
  rw [show min (max (max ok 1) n) n=n by omega] at u
  exact ⟨hc,B',K',u⟩
 case step =>
  rintro k c st' hk1 hk2 ⟨rfl,B',K',u⟩
  rw [show min k n=k by omega] at u
  refine wpS_bind (wpS_mono (wpS_forRange (I:=fun x c st2=>st2=st'/\∃l r,c=(none,l,r)/\l≤r/\r≤k/\r-l≤k-x /\
    (∀i,i<l→O.kle (KX kf (arrOf st') (lo+i)) (KX kf (arrOf st') (lo+k)))/\(∀i,r≤i→i<k→O.klt (KX kf (arrOf st') (lo+k)) (KX kf (arrOf st') (lo+i))))
   (Q:=fun c st2=>st2=st'/\∃l r,c=(none,l,r)/\l≤k/\(∀i,i<l→O.kle (KX kf (arrOf st') (lo+i)) (KX kf (arrOf st') (lo+k)))/\(∀i,l≤i→i<k→O.klt (KX kf (arrOf st') (lo+k)) (KX kf (arrOf st') (lo+i)))) ?i1 ?i2 ?i3) ?i4)
  case i3=>exact ⟨rfl,0,k,rfl,by omega,by omega,by omega,fun i q=>by omega,fun i q1 q2=>by omega⟩
  case i2 =>
   rintro c st2 ⟨rfl,l,r,rfl,h1,h2,h3,h4,h5⟩
   obtain rfl:l=r:=by omega
   exact ⟨rfl,l,l,rfl,h2,h4,h5⟩
  case i1 =>
   rintro x c st2 _ hx ⟨rfl,l,r,rfl,h1,h2,h3,h4,h5⟩
   dsimp only
   by_cases g:l≥r
   ·rw [if_pos g]
    obtain rfl:l=r:=by omega
    exact wpS_pure ⟨rfl,l,l,rfl,h2,h4,h5⟩
   ·rw [if_neg g]
    refine wpS_bind (Iy C B' (by omega) (by omega) ?_)
    cases e:O.blt (KX kf (arrOf st2) (lo+k)) (KX kf (arrOf st2) (lo+(l+r) / 2)) with
    | true =>
     refine wpS_pure ⟨rfl,l,(l+r) / 2,rfl,by omega,by omega,by omega,h4,fun i q1 q2=>?_⟩
     exact KeyOrd.klt_of_klt_of_kle e (u _ _ (by omega) (by omega) (by omega))
    | false =>
     refine wpS_pure ⟨rfl,(l+r) / 2+1,r,rfl,by omega,by omega,by omega,fun i q1=>?_,h5⟩
     exact KeyOrd.kle_trans (u (lo+i) (lo+(l+r) / 2) (by omega) (by omega) (by omega)) (show O.kle _ _ from e)
  case i4 =>
   rintro c st2 ⟨rfl,l,r,rfl,h1,h4,h5⟩
   show wpS _ _ _ _ (moveDown' (lo+k) (lo+l) >>= fun _=>pure (ForInStep.yield (none,()))) _ _
   rw [moveDown'_eq]
   have hks:lo+k<(arrOf st2).size:=by rw [B'.size];omega
   have hd:lo+k-(lo+l)≤lo+k:=by omega
   refine wpS_bind (wpS_modify (wpS_pure ⟨rfl,B'.put (bubble_perm _ _ _),K'.trans ⟨rfl,fun z hz=>?_⟩,?_⟩))
   ·show (bubble (arrOf st2) (lo+k) (lo+k-(lo+l)))[z]?=_
    rw [getElem?_bubble hks _ hd,if_neg (by omega),if_neg (by omega)]
   ·rw [show min (k+1) n=k+1 by omega]
    intro i j q1 q2 q3
    show O.kle (KX kf (bubble (arrOf st2) (lo+k) (lo+k-(lo+l))) i) (KX kf (bubble (arrOf st2) (lo+k) (lo+k-(lo+l))) j)
    rw [KG hks hd,KG hks hd,show lo+k-(lo+k-(lo+l))=lo+l by omega]
    have lowv:∀z,lo≤z→z<lo+l→O.kle (KX kf (arrOf st2) z) (KX kf (arrOf st2) (lo+k)):=fun z z1 z2=>by
     have:=h4 (z-lo) (by omega)
     rwa [show lo+(z-lo)=z by omega] at this
    have hiv:∀z,lo+l≤z→z<lo+k→O.klt (KX kf (arrOf st2) (lo+k)) (KX kf (arrOf st2) z):=fun z z1 z2=>by
     have:=h5 (z-lo) (by omega) (by omega)
     rwa [show lo+(z-lo)=z by omega] at this
    repeat' split
    all_goals first
     | (exfalso;omega)
     | exact KeyOrd.kle_refl _
     | exact lowv _ (by omega) (by omega)
     | exact KeyOrd.kle_of_klt (hiv _ (by omega) (by omega))
     | exact u _ _ (by omega) (by omega) (by omega)
end
end Srt
namespace Srt
open PySem PyProof.Rows
section
variable {prog:Program}{w:World}{A:Around}{E:Value→Shared→Prop}{s:Shared}{κ:SortKind}{O:KeyOrd}{kf:Value→O.α}{a₀:Array Keyed}{st:SortSt}
theorem Up.grow {xs:Array Keyed}{lo n:Nat}(u:Up kf xs lo (lo+n)) (h1:1≤n) (h:O.kle (KX kf xs (lo+n-1)) (KX kf xs (lo+n))):Up kf xs lo (lo+(n+1)):=fun i j q1 q2 q3=>by
 by_cases z:j=lo+n
 ·subst z
  by_cases z2:i=lo+n
  ·subst z2;exact KeyOrd.kle_refl _
  ·exact KeyOrd.kle_trans (u i (lo+n-1) q1 (by omega) (by omega)) h
 ·exact u i j q1 q2 (by omega)
def Dn (kf:Value→O.α) (xs:Array Keyed) (lo hi:Nat):Prop:=∀i j,lo≤i→i≤j→j<hi→O.kle (KX kf xs j) (KX kf xs i)
theorem Dn.grow {xs:Array Keyed}{lo n:Nat}(u:Dn kf xs lo (lo+n)) (h1:1≤n) (h:O.kle (KX kf xs (lo+n)) (KX kf xs (lo+n-1))):Dn kf xs lo (lo+(n+1)):=fun i j q1 q2 q3=>by
 by_cases z:j=lo+n
 ·subst z
  by_cases z2:i=lo+n
  ·subst z2;exact KeyOrd.kle_refl _
  ·exact KeyOrd.kle_trans h (u i (lo+n-1) q1 (by omega) (by omega))
 ·exact u i j q1 q2 (by omega)
theorem Di (B:SB κ a₀ st) {lo i j:Nat}(hi:lo≤i) (hj:j≤a₀.size):SB κ a₀ (setArr st (mirror (arrOf st) i j ((j-i) / 2)))/\Ek lo st (setArr st (mirror (arrOf st) i j ((j-i) / 2))):=by
 refine ⟨B.put (mirror_perm _ _ _ _),rfl,fun k hk=>?_⟩
 show (mirror (arrOf st) i j ((j-i) / 2))[k]?=_
 rw [getElem?_mirror_all (by rw [B.size];exact hj),if_neg (by omega)]
theorem FT (B:SB κ a₀ st) {i j:Nat}(hj:j≤a₀.size) (h:∀k,i≤k→k<j→KX kf (arrOf st) k=KX kf (arrOf st) (j-1)) (k:Nat):KX kf (mirror (arrOf st) i j ((j-i) / 2)) k=KX kf (arrOf st) k:=by
 rw [G9 (by rw [B.size];exact hj)]
 split
 ·rw [h _ (by omega) (by omega),h k (by omega) (by omega)]
 ·rfl
theorem PX (C:Cmp prog w A s κ O kf a₀) {lo nrem n0:Nat}(hn:lo+nrem≤a₀.size) (h0:1≤n0) (h1:n0≤nrem) (B:SB κ a₀ st) (u:Up kf (arrOf st) lo (lo+n0)) {Q:Option (Option Nat)×Nat→SortSt→Prop}
  (h:∀n,n0≤n→n≤nrem→Up kf (arrOf st) lo (lo+n)→(n<nrem→O.klt (KX kf (arrOf st) (lo+n)) (KX kf (arrOf st) (lo+n-1)))→Q (none,n) st)
  {f:Nat→Option (Option Nat)×Nat→StateT SortSt Sem (ForInStep (Option (Option Nat)×Nat))} (hf:∀x c,f x c=(do
   match (← ltAt' (lo+c.2) (lo+c.2-1)) with
   | some b=>if b=true then pure (.done (none,c.2)) else pure (.yield (none,c.2+1))
   | none=>pure (.done (some none,c.2)))):wpS (model prog w) A E s (forIn [n0:nrem] (none,n0) f) Q st:=by
 refine wpS_forRange (I:=fun x c st'=>st'=st/\c=(none,x)/\n0≤x/\x≤nrem/\Up kf (arrOf st) lo (lo+x)) ?_ ?_ ⟨rfl,rfl,Nat.le_refl _,h1,u⟩
 ·rintro x c st' hx1 hx2 ⟨rfl,rfl,h2,h3,u'⟩
  rw [hf]
  refine wpS_bind (Iy C B (by omega) (by omega) ?_)
  cases e:O.blt (KX kf (arrOf st') (lo+x)) (KX kf (arrOf st') (lo+x-1)) with
  | true=>exact wpS_pure (h x h2 h3 u' fun _=>e)
  | false=>exact wpS_pure ⟨rfl,rfl,by omega,by omega,u'.grow (by omega) e⟩
 ·rintro c st' ⟨rfl,rfl,h2,h3,u'⟩
  rw [show max n0 nrem=nrem by omega] at u' ⊢
  exact h nrem h1 (Nat.le_refl _) u' fun q=>absurd q (Nat.lt_irrefl _)
end
section
variable {prog:Program}{w:World}{A:Around}{E:Value→Shared→Prop}{s:Shared}{κ:SortKind}{O:KeyOrd}{kf:Value→O.α}{a₀:Array Keyed}{st:SortSt}
abbrev RSt:=Option (Option Nat)×Nat
def Iw (lo:Nat) (c:RSt):StateT SortSt Sem (ForInStep RSt):=ltAt' (lo+c.2) (lo+c.2-1) >>= fun o=>match o with
 | some b=>if b=true then pure (.done (none,c.2)) else pure (.yield (none,c.2+1))
 | _=>pure (.done (some none,c.2))
def tl3 (lo nrem n:Nat):StateT SortSt Sem (Option Nat):=reverseSlice' lo (lo+n) >>= fun _=>forIn [n:nrem] ((none,n):RSt) (fun _ c=>Iw lo c) >>= fun c=>match c.1 with
 | some r=>pure r
 | none=>pure (some c.2)
abbrev DSt:=Option (Option Nat)×Nat×Nat
def Nm (lo:Nat) (c:DSt):StateT SortSt Sem (ForInStep DSt):=ltAt' (lo+c.2.1) (lo+c.2.1-1) >>= fun o=>match o with
 | some b=>if b=true then (if c.2.2 > 0 then reverseSlice' (lo+c.2.1-(c.2.2+1)) (lo+c.2.1) >>= fun _=>pure (.yield (none,c.2.1+1,0)) else pure (.yield (none,c.2.1+1,0)))
   else ltAt' (lo+c.2.1-1) (lo+c.2.1) >>= fun o2=>match o2 with
    | some b2=>if b2=true then pure (.done (none,c.2.1,c.2.2)) else pure (.yield (none,c.2.1+1,c.2.2+1))
    | _=>pure (.done (some none,c.2.1,c.2.2))
 | _=>pure (.done (some none,c.2.1,c.2.2))
def dsc (lo nrem n:Nat):StateT SortSt Sem (Option Nat):=liftM (rule "list.sort.descending-run") >>= fun _=>forIn [n+1:nrem] ((none,n+1,0):DSt) (fun _ c=>Nm lo c) >>= fun c=>match c.1 with
 | some r=>pure r
 | none=>if c.2.2 > 0 then reverseSlice' (lo+c.2.1-(c.2.2+1)) (lo+c.2.1) >>= fun _=>tl3 lo nrem c.2.1 else tl3 lo nrem c.2.1
theorem SK (C:Cmp prog w A s κ O kf a₀) {lo nrem n:Nat}(hn:lo+nrem≤a₀.size) (h0:1≤n) (h1:n≤nrem) (B:SB κ a₀ st) (dn:Dn kf (arrOf st) lo (lo+n)) {Q:Option Nat→SortSt→Prop}
  (h:∀m st',SB κ a₀ st'→Ek lo st st'→1≤m→m≤nrem→Up kf (arrOf st') lo (lo+m)→Q (some m) st'):wpS (model prog w) A E s (tl3 lo nrem n) Q st:=by
 unfold tl3
 rw [reverseSlice'_eq]
 refine wpS_bind (wpS_modify ?_)
 obtain ⟨B1,K1⟩:=Di B (Nat.le_refl lo) (show lo+n≤a₀.size by omega)
 have u:Up kf (mirror (arrOf st) lo (lo+n) ((lo+n-lo) / 2)) lo (lo+n):=fun i j q1 q2 q3=>by
  rw [G9 (by rw [B.size];omega),G9 (by rw [B.size];omega),if_pos (by omega),if_pos (by omega)]
  exact dn _ _ (by omega) (by omega) (by omega)
 refine wpS_bind (PX C hn h0 h1 B1 u (fun m m1 m2 u2 _=>?_) fun x c=>congrArg (ltAt' _ _ >>= ·) (funext fun o=>by cases o <;> rfl))
 exact wpS_pure (h m _ B1 K1 (by omega) m2 u2)
theorem SM (C:Cmp prog w A s κ O kf a₀) {lo nrem n:Nat}(hn:lo+nrem≤a₀.size) (h0:1≤n) (h1:n<nrem) (B:SB κ a₀ st) (eq:∀k,lo≤k→k<lo+n→KX kf (arrOf st) k=KX kf (arrOf st) (lo+n-1)) (lt:O.klt (KX kf (arrOf st) (lo+n)) (KX kf (arrOf st) (lo+n-1))) {Q:Option Nat→SortSt→Prop}
  (h:∀m st',SB κ a₀ st'→Ek lo st st'→1≤m→m≤nrem→Up kf (arrOf st') lo (lo+m)→Q (some m) st'):wpS (model prog w) A E s (dsc lo nrem n) Q st:=by
 unfold dsc
 refine wpS_bind (wpS_lift (wpAny_rule ⟨rfl,?_⟩))
 have dn0:Dn kf (arrOf st) lo (lo+(n+1)):=Dn.grow (fun i j q1 q2 q3=>by rw [eq i q1 (by omega),eq j (by omega) q3];exact KeyOrd.kle_refl _) h0 (KeyOrd.kle_of_klt lt)
 refine wpS_bind (wpS_mono (wpS_forRange (I:=fun x c st'=>∃e,c=(none,x,e)/\n+1≤x/\x≤nrem/\e+1≤x/\SB κ a₀ st'/\Ek lo st st'/\Dn kf (arrOf st') lo (lo+x)/\∀k,lo+x-(e+1)≤k→k<lo+x→KX kf (arrOf st') k=KX kf (arrOf st') (lo+x-1))
  (Q:=fun c st'=>∃x e,c=(none,x,e)/\n+1≤x/\x≤nrem/\e+1≤x/\SB κ a₀ st'/\Ek lo st st'/\Dn kf (arrOf st') lo (lo+x)/\∀k,lo+x-(e+1)≤k→k<lo+x→KX kf (arrOf st') k=KX kf (arrOf st') (lo+x-1)) ?step ?fin ?init) ?post)
 case init=>exact ⟨0,rfl,Nat.le_refl _,h1,by omega,B,Ek.refl _ _,dn0,fun k q1 q2=>by rw [show k=lo+(n+1)-1 by omega]⟩
 case fin =>
  rintro c st' ⟨e,rfl,x1,x2,r⟩
  exact ⟨_,e,rfl,x1,x2,r⟩
 case step =>
  rintro x c st' hx1 hx2 ⟨e,rfl,x1,x2,e1,B',K',dn,eqs⟩
  unfold Nm
  dsimp only
  refine wpS_bind (Iy C B' (by omega) (by omega) ?_)
  cases b:O.blt (KX kf (arrOf st') (lo+x)) (KX kf (arrOf st') (lo+x-1)) with
  | true =>
   dsimp only
   rw [if_pos rfl]
   have dn2:∀ys:Array Keyed,(∀k,KX kf ys k=KX kf (arrOf st') k)→Dn kf ys lo (lo+(x+1)):=fun ys hk=>by
    have:=dn.grow (by omega) (KeyOrd.kle_of_klt b)
    intro i j q1 q2 q3
    rw [hk,hk]
    exact this i j q1 q2 q3
   by_cases he:e > 0
   ·rw [if_pos he,reverseSlice'_eq]
    refine wpS_bind (wpS_modify (wpS_pure ?_))
    obtain ⟨B1,K1⟩:=Di B' (show lo≤lo+x-(e+1) by omega) (show lo+x≤a₀.size by omega)
    exact ⟨0,rfl,by omega,by omega,by omega,B1,K'.trans K1,dn2 _ (FT B' (by omega) eqs),fun k q1 q2=>by rw [show k=lo+(x+1)-1 by omega]⟩
   ·rw [if_neg he]
    exact wpS_pure ⟨0,rfl,by omega,by omega,by omega,B',K',dn2 _ (fun _=>rfl),fun k q1 q2=>by rw [show k=lo+(x+1)-1 by omega]⟩
  | false =>
   dsimp only
   rw [if_neg Bool.false_ne_true]
   refine wpS_bind (Iy C B' (by omega) (by omega) ?_)
   cases b2:O.blt (KX kf (arrOf st') (lo+x-1)) (KX kf (arrOf st') (lo+x)) with
   | true=>exact wpS_pure ⟨x,e,rfl,x1,x2,e1,B',K',dn,eqs⟩
   | false =>
    have ek:KX kf (arrOf st') (lo+x-1)=KX kf (arrOf st') (lo+x):=O.total _ _ b2 b
    refine wpS_pure ⟨e+1,rfl,by omega,by omega,by omega,B',K',dn.grow (by omega) b2,fun k q1 q2=>?_⟩
    rw [show lo+(x+1)-1=lo+x by omega]
    by_cases z:k=lo+x
    ·rw [z]
    ·rw [eqs k (by omega) (by omega),ek]
 case post =>
  rintro c st' ⟨x,e,rfl,x1,x2,e1,B',K',dn,eqs⟩
  dsimp only
  by_cases he:e > 0
  ·rw [if_pos he,reverseSlice'_eq]
   refine wpS_bind (wpS_modify ?_)
   obtain ⟨B1,K1⟩:=Di B' (show lo≤lo+x-(e+1) by omega) (show lo+x≤a₀.size by omega)
   refine SK C hn (by omega) x2 B1 (fun i j q1 q2 q3=>?_) fun m st2 B2 K2=>h m st2 B2 ((K'.trans K1).trans K2)
   show O.kle (KX kf (mirror (arrOf st') _ _ _) j) (KX kf (mirror (arrOf st') _ _ _) i)
   rw [FT B' (by omega) eqs,FT B' (by omega) eqs]
   exact dn i j q1 q2 q3
  ·rw [if_neg he]
   exact SK C hn (by omega) x2 B' dn fun m st2 B2 K2=>h m st2 B2 (K'.trans K2)
theorem Oy {M:Model}{α σ:Type}{m m':StateT σ Sem α}{Q:α→σ→Prop}{t:σ}(e:m'=m) (h:wpS M A E s m Q t):wpS M A E s m' Q t:=by rw [e];exact h
theorem RL (C:Cmp prog w A s κ O kf a₀) {lo nrem:Nat}(hn:lo+nrem≤a₀.size) (h1:1≤nrem) (B:SB κ a₀ st) {Q:Option Nat→SortSt→Prop}
  (h:∀n st',SB κ a₀ st'→Ek lo st st'→1≤n→n≤nrem→Up kf (arrOf st') lo (lo+n)→Q (some n) st'):wpS (model prog w) A E s (countRun' lo nrem) Q st:=by
 rw [countRun'_eq]
 have u1:Up kf (arrOf st) lo (lo+1):=fun i j q1 q2 q3=>by
  obtain rfl:i=j:=by omega
  exact KeyOrd.kle_refl _
 refine wpS_bind (PX C hn (Nat.le_refl _) h1 B u1 (fun n n1 n2 u kl=>?_) fun x c=>congrArg (ltAt' _ _ >>= ·) (funext fun o=>by cases o <;> rfl))
 dsimp only
 by_cases hnr:n=nrem
 ·subst hnr
  rw [if_pos (beq_self_eq_true n)]
  exact wpS_pure (h n st B (Ek.refl _ _) n1 n2 u)
 ·rw [if_neg (by simpa using hnr)]
  by_cases hg:n > 1
  ·rw [if_pos hg]
   refine wpS_bind (Iy C B (by omega) (by omega) ?_)
   cases b:O.blt (KX kf (arrOf st) lo) (KX kf (arrOf st) (lo+n-1)) with
   | true=>exact wpS_pure (h n st B (Ek.refl _ _) n1 n2 u)
   | false =>
    have eqk:∀k,lo≤k→k<lo+n→KX kf (arrOf st) k=KX kf (arrOf st) (lo+n-1):=fun k q1 q2=>by
     refine KeyOrd.kle_antisymm (u k (lo+n-1) q1 (by omega) (by omega)) (KeyOrd.kle_trans (show O.kle _ _ from b) (u lo k (Nat.le_refl _) q1 q2))
    dsimp only
    rw [if_neg Bool.false_ne_true]
    refine wpS_bind ?_
    rw [reverseSlice'_eq]
    refine wpS_modify ?_
    refine Oy (m:=dsc lo nrem n) ?same ?_
    case same =>
     exact (by
      unfold dsc
      refine congrArg (liftM (rule _) >>= ·) (funext fun _=>congr (congrArg _ (congrArg (forIn _ _) (funext fun _=>funext fun c=>?_))) (funext fun c=>?_))
      ·unfold Nm
       refine congrArg (ltAt' _ _ >>= ·) (funext fun o=>?_)
       cases o with
       | none=>rfl
       | some b =>
        cases b with
        | true=>rfl
        | false=>exact congrArg (ltAt' _ _ >>= ·) (funext fun o2=>by cases o2 <;> rfl)
      ·obtain ⟨c1,c2⟩:=c
       have t3:∀n,tl3 lo nrem n=(reverseSlice' lo (lo+n) >>= fun _=>forIn [n:nrem] ((none,n):RSt) (fun _ c=>Iw lo c) >>= fun c=>match c.1 with
        | some r=>pure r
        | none=>pure (some c.2)):=fun _=>rfl
       have t4:∀n (X:Nat→RSt→StateT SortSt Sem (ForInStep RSt)) (Y:RSt→StateT SortSt Sem (Option Nat)),(∀x c,X x c=Iw lo c)→(∀c,Y c=match c.1 with
        | some r=>pure r
        | none=>pure (some c.2))→(reverseSlice' lo (lo+n) >>= fun _=>forIn [n:nrem] ((none,n):RSt) X >>= Y)=tl3 lo nrem n:=fun n X Y h1 h2=>by
        rw [t3,show X=fun _ c=>Iw lo c from funext fun x=>funext fun c=>h1 x c,show Y=_ from funext h2]
       cases c1 with
       | some r=>rfl
       | none =>
        dsimp only
        by_cases z:c2.2 > 0
        ·rw [if_pos z,if_pos z]
         refine congrArg (reverseSlice' _ _ >>= ·) (funext fun _=>?_)
         exact t4 _ _ _ (fun x c=>congrArg (ltAt' _ _ >>= ·) (funext fun o=>by cases o <;> rfl)) (fun c=>by obtain ⟨d1,d2⟩:=c;cases d1 <;> rfl)
        ·rw [if_neg z,if_neg z]
         exact t4 _ _ _ (fun x c=>congrArg (ltAt' _ _ >>= ·) (funext fun o=>by cases o <;> rfl)) (fun c=>by obtain ⟨d1,d2⟩:=c;cases d1 <;> rfl))
    obtain ⟨B1,K1⟩:=Di B (Nat.le_refl lo) (show lo+n≤a₀.size by omega)
    have me:=FT B (i:=lo) (j:=lo+n) (by omega) eqk
    refine SM C hn n1 (by omega) B1 (fun k q1 q2=>?_) ?_ fun m st2 B2 K2=>h m st2 B2 (K1.trans K2)
    ·show KX kf (mirror (arrOf st) _ _ _) k=KX kf (mirror (arrOf st) _ _ _) _
     rw [me,me]
     exact eqk k q1 q2
    ·show O.klt (KX kf (mirror (arrOf st) _ _ _) _) (KX kf (mirror (arrOf st) _ _ _) _)
     rw [me,me]
     exact kl (by omega)
  ·rw [if_neg hg]
   refine Oy (m:=dsc lo nrem n) ?same ?_
   case same =>
     exact (by
      unfold dsc
      refine congrArg (liftM (rule _) >>= ·) (funext fun _=>congr (congrArg _ (congrArg (forIn _ _) (funext fun _=>funext fun c=>?_))) (funext fun c=>?_))
      ·unfold Nm
       refine congrArg (ltAt' _ _ >>= ·) (funext fun o=>?_)
       cases o with
       | none=>rfl
       | some b =>
        cases b with
        | true=>rfl
        | false=>exact congrArg (ltAt' _ _ >>= ·) (funext fun o2=>by cases o2 <;> rfl)
      ·obtain ⟨c1,c2⟩:=c
       have t3:∀n,tl3 lo nrem n=(reverseSlice' lo (lo+n) >>= fun _=>forIn [n:nrem] ((none,n):RSt) (fun _ c=>Iw lo c) >>= fun c=>match c.1 with
        | some r=>pure r
        | none=>pure (some c.2)):=fun _=>rfl
       have t4:∀n (X:Nat→RSt→StateT SortSt Sem (ForInStep RSt)) (Y:RSt→StateT SortSt Sem (Option Nat)),(∀x c,X x c=Iw lo c)→(∀c,Y c=match c.1 with
        | some r=>pure r
        | none=>pure (some c.2))→(reverseSlice' lo (lo+n) >>= fun _=>forIn [n:nrem] ((none,n):RSt) X >>= Y)=tl3 lo nrem n:=fun n X Y h1 h2=>by
        rw [t3,show X=fun _ c=>Iw lo c from funext fun x=>funext fun c=>h1 x c,show Y=_ from funext h2]
       cases c1 with
       | some r=>rfl
       | none =>
        dsimp only
        by_cases z:c2.2 > 0
        ·rw [if_pos z,if_pos z]
         refine congrArg (reverseSlice' _ _ >>= ·) (funext fun _=>?_)
         exact t4 _ _ _ (fun x c=>congrArg (ltAt' _ _ >>= ·) (funext fun o=>by cases o <;> rfl)) (fun c=>by obtain ⟨d1,d2⟩:=c;cases d1 <;> rfl)
        ·rw [if_neg z,if_neg z]
         exact t4 _ _ _ (fun x c=>congrArg (ltAt' _ _ >>= ·) (funext fun o=>by cases o <;> rfl)) (fun c=>by obtain ⟨d1,d2⟩:=c;cases d1 <;> rfl))
   obtain rfl:n=1:=by omega
   exact SM C hn n1 (by omega) B (fun k q1 q2=>by rw [show k=lo+1-1 by omega]) (kl (by omega)) h
end
end Srt
namespace Srt
open PySem PyProof.Rows
def Rv:Bool→Keyed→Array Keyed→Nat→Nat→Nat→StateT SortSt Sem (Option Nat):=sortPriv% PySem.Builtin.gallop
def P9:Array Keyed→Array Keyed→StateT SortSt Sem (Array Keyed):=sortPriv% PySem.Builtin.mergeLo
def QA:Array Keyed→Array Keyed→StateT SortSt Sem (Array Keyed):=sortPriv% PySem.Builtin.mergeHi
section
variable {prog:Program}{w:World}{A:Around}{E:Value→Shared→Prop}{s:Shared}{κ:SortKind}{O:KeyOrd}{kf:Value→O.α}{a₀:Array Keyed}{st:SortSt}
theorem BQ {arr:Array Keyed}{i:Nat}(hi:i<arr.size) {Q:Keyed→SortSt→Prop}(h:Q arr[i] st):wpS (model prog w) A E s (elem' arr i) Q st:=by
 rw [elem'_eq,getElem?_pos arr i hi]
 exact wpS_pure h
def bey (kf:Value→O.α) (left:Bool) (key:Keyed) (arr:Array Keyed) (base i:Nat):Bool:=if left=true then O.blt (KX kf arr (base+i)) (kf key.1) else !O.blt (kf key.1) (KX kf arr (base+i))
theorem BH {arr:Array Keyed}{i:Nat}(hi:i<arr.size):KX kf arr i=kf arr[i].1:=by
 unfold KX
 rw [getElem?_pos arr i hi]
 rfl
theorem UI (C:Cmp prog w A s κ O kf a₀) (B:SB κ a₀ st) {left:Bool}{key:Keyed}{arr:Array Keyed}{base i:Nat}(hk:key∈a₀.toList) (ha:∀p∈arr.toList,p∈a₀.toList) (hi:base+i<arr.size) {Q:Option Bool→SortSt→Prop}(h:Q (some (bey kf left key arr base i)) st) :
  wpS (model prog w) A E s (elem' arr (base+i) >>= fun x=>if left=true then lt' x key else lt' key x >>= fun o=>pure (o.map fun b=>!b)) Q st:=by
 refine wpS_bind (BQ hi ?_)
 have hm:arr[base+i]∈a₀.toList:=ha _ (by simp)
 unfold bey at h
 rw [BH hi] at h
 cases left with
 | true =>
  rw [if_pos rfl] at h ⊢
  exact PY C B hm hk h
 | false =>
  rw [if_neg Bool.false_ne_true] at h ⊢
  exact wpS_bind (PY C B hk hm (wpS_pure h))
theorem Qg {left:Bool}{key:Keyed}{arr:Array Keyed}{base n i j:Nat}(u:Up kf arr base (base+n)) (hij:i≤j) (hj:j<n) (h:bey kf left key arr base j=true):bey kf left key arr base i=true:=by
 have uu:=u (base+i) (base+j) (by omega) (by omega) (by omega)
 unfold bey at h ⊢
 cases left with
 | true =>
  rw [if_pos rfl] at h ⊢
  exact KeyOrd.klt_of_kle_of_klt uu h
 | false =>
  rw [if_neg Bool.false_ne_true] at h ⊢
  have h:O.kle (KX kf arr (base+j)) (kf key.1):=by show O.blt _ _=false;simpa using h
  have:O.blt (kf key.1) (KX kf arr (base+i))=false:=KeyOrd.kle_trans uu h
  rw [this]
  rfl
theorem Dz (C:Cmp prog w A s κ O kf a₀) (B:SB κ a₀ st) {left:Bool}{key:Keyed}{arr:Array Keyed}{base n hint:Nat}(hk:key∈a₀.toList) (ha:∀p∈arr.toList,p∈a₀.toList) (hb:base+n≤arr.size) (hh:hint<n) (u:Up kf arr base (base+n)) {Q:Option Nat→SortSt→Prop}
  (h:∀k,k≤n→(∀i,i<k→bey kf left key arr base i=true)→(∀i,k≤i→i<n→bey kf left key arr base i=false)→Q (some k) st):wpS (model prog w) A E s (Rv left key arr base n hint) Q st:=by
 have bq:∀{i:Nat} {Q:Option Bool→SortSt→Prop},i<n→Q (some (bey kf left key arr base i)) st→wpS (model prog w) A E s (elem' arr (base+i) >>= fun x=>if left=true then lt' x key else lt' key x >>= fun o=>pure (o.map fun b=>!b)) Q st:=fun hi q=>UI C B hk ha (by omega) q
 have up:∀i j,i≤j→j<n→bey kf left key arr base j=true→bey kf left key arr base i=true:=fun i j q1 q2 q3=>Qg u q1 q2 q3
 refine wpS_bind (bq hh ?_)
 have fin:∀lo hi,lo≤hi→hi≤n→(∀i,i<lo→bey kf left key arr base i=true)→(∀i,hi≤i→i<n→bey kf left key arr base i=false)→∀{f:Nat→Option (Option Nat)×Nat×Nat→StateT SortSt Sem (ForInStep (Option (Option Nat)×Nat×Nat))} {g:Option (Option Nat)×Nat×Nat→StateT SortSt Sem (Option Nat)},
   (∀x c,f x c=if c.2.1≥c.2.2 then pure (.done (none,c.2.1,c.2.2)) else (elem' arr (base+(c.2.1+(c.2.2-c.2.1) / 2)) >>= fun x=>if left=true then lt' x key else lt' key x >>= fun o=>pure (o.map fun b=>!b)) >>= fun o=>match o with
    | some b=>if b=true then pure (.yield (none,c.2.1+(c.2.2-c.2.1) / 2+1,c.2.2)) else pure (.yield (none,c.2.1,c.2.1+(c.2.2-c.2.1) / 2))
    | none=>pure (.done (some none,c.2.1,c.2.2)))→(∀c,g (none,c)=pure (some c.2))→wpS (model prog w) A E s (forIn [:n] ((none,lo,hi):Option (Option Nat)×Nat×Nat) f >>= g) Q st:=by
  intro lo hi h1 h2 h3 h4 f g hf hg
  refine wpS_bind (wpS_mono (wpS_forRange (I:=fun x c st'=>st'=st/\∃l r,c=(none,l,r)/\l≤r/\r≤n/\r-l≤n-x/\(∀i,i<l→bey kf left key arr base i=true)/\(∀i,r≤i→i<n→bey kf left key arr base i=false))
   (Q:=fun c st'=>st'=st/\∃l,c=(none,l,l)/\l≤n/\(∀i,i<l→bey kf left key arr base i=true)/\(∀i,l≤i→i<n→bey kf left key arr base i=false)) ?_ ?_ ⟨rfl,lo,hi,rfl,h1,h2,by omega,h3,h4⟩) ?_)
  ·rintro x c st' _ hx ⟨rfl,l,r,rfl,q1,q2,q3,q4,q5⟩
   rw [hf]
   dsimp only
   by_cases g:l≥r
   ·rw [if_pos g]
    obtain rfl:l=r:=by (clear q3 q2 hx h2 h1 hh hb;omega)
    exact wpS_pure ⟨rfl,l,rfl,q2,q4,q5⟩
   ·rw [if_neg g]
    refine wpS_bind (bq (by (clear q3 q1 hx h2 h1 hh hb;omega)) ?_)
    cases e:bey kf left key arr base (l+(r-l) / 2) with
    | true=>exact wpS_pure ⟨rfl,_,r,rfl,by (clear q3 q2 q1 hx h2 h1 hh hb;omega),q2,by (clear q2 q1 h2 h1 hh hb;omega),fun i z=>up i _ (by omega) (by (clear z q3 q1 hx h2 h1 hh hb;omega)) e,q5⟩
    | false=>exact wpS_pure ⟨rfl,l,_,rfl,by (clear g q3 q2 q1 hx h2 h1 hh hb;omega),by (clear q3 q1 hx h2 h1 hh hb;omega),by (clear q2 q1 h2 h1 hh hb;omega),q4,fun i z1 z2=>by
      cases z:bey kf left key arr base i with
      | false=>rfl
      | true=>rw [up _ i z1 z2 z] at e;cases e⟩
  ·rintro c st' ⟨rfl,l,r,rfl,q1,q2,q3,q4,q5⟩
   obtain rfl:l=r:=by (clear q2 h2 h1 hh hb;omega)
   exact ⟨rfl,l,rfl,q2,q4,q5⟩
  ·rintro c st' ⟨rfl,l,rfl,q2,q4,q5⟩
   rw [hg]
   exact wpS_pure (h l q2 q4 q5)
 cases e:bey kf left key arr base hint with
 | true =>
  refine wpS_bind (wpS_mono (wpS_forRange (I:=fun x c st'=>st'=st/\∃l o,c=(none,l,o)/\l<o/\hint+l<n/\x+1≤o/\bey kf left key arr base (hint+l)=true)
   (Q:=fun c st'=>st'=st/\∃l o,c=(none,l,o)/\l<o/\hint+l<n/\bey kf left key arr base (hint+l)=true/\(o≥n-hint\/(hint+o<n/\bey kf left key arr base (hint+o)=false))) ?_ ?_ ⟨rfl,0,1,rfl,by omega,by omega,by omega,e⟩) ?_)
  ·rintro x c st' _ hx ⟨rfl,l,o,rfl,q1,q2,q3,q4⟩
   dsimp only
   by_cases g:o≥n-hint
   ·rw [if_pos g]
    exact wpS_pure ⟨rfl,l,o,rfl,q1,q2,q4,.inl g⟩
   ·rw [if_neg g]
    refine wpS_bind (bq (by omega) ?_)
    cases e2:bey kf left key arr base (hint+o) with
    | true=>exact wpS_pure ⟨rfl,o,_,rfl,by omega,by omega,by omega,e2⟩
    | false=>exact wpS_pure ⟨rfl,l,o,rfl,q1,q2,q4,.inr ⟨by omega,e2⟩⟩
  ·rintro c st' ⟨rfl,l,o,rfl,q1,q2,q3,q4⟩
   exact ⟨rfl,l,o,rfl,q1,q2,q4,.inl (by omega)⟩
  ·rintro c st' ⟨rfl,l,o,rfl,q1,q2,q4,q5⟩
   refine fin (hint+l+1) (hint+min o (n-hint)) (by omega) (by omega) (fun i z=>up i _ (by omega) q2 q4) (fun i z1 z2=>?_) (fun x c=>?_) (fun c=>rfl)
   ·rcases q5 with q5|⟨q5,q6⟩
    ·omega
    ·cases z:bey kf left key arr base i with
     | false=>rfl
     | true=>rw [up (hint+o) i (by (clear q5 q2 q1 hb;omega)) z2 z] at q6;cases q6
   ·dsimp only
    split
    ·rfl
    ·exact congrArg (_ >>= ·) (funext fun o=>by cases o <;> rfl)
 | false =>
  refine wpS_bind (wpS_mono (wpS_forRange (I:=fun x c st'=>st'=st/\∃l o,c=(none,l,o)/\l<o/\l≤hint/\x+1≤o/\bey kf left key arr base (hint-l)=false)
   (Q:=fun c st'=>st'=st/\∃l o,c=(none,l,o)/\l<o/\l≤hint/\bey kf left key arr base (hint-l)=false/\(o≥hint+1\/(o≤hint/\bey kf left key arr base (hint-o)=true))) ?_ ?_ ⟨rfl,0,1,rfl,by omega,by omega,by omega,e⟩) ?_)
  ·rintro x c st' _ hx ⟨rfl,l,o,rfl,q1,q2,q3,q4⟩
   dsimp only
   by_cases g:o≥hint+1
   ·rw [if_pos g]
    exact wpS_pure ⟨rfl,l,o,rfl,q1,q2,q4,.inl g⟩
   ·rw [if_neg g]
    refine wpS_bind (bq (by omega) ?_)
    cases e2:bey kf left key arr base (hint-o) with
    | false=>exact wpS_pure ⟨rfl,o,_,rfl,by omega,by omega,by omega,e2⟩
    | true=>exact wpS_pure ⟨rfl,l,o,rfl,q1,q2,q4,.inr ⟨by omega,e2⟩⟩
  ·rintro c st' ⟨rfl,l,o,rfl,q1,q2,q3,q4⟩
   exact ⟨rfl,l,o,rfl,q1,q2,q4,.inl (by omega)⟩
  ·rintro c st' ⟨rfl,l,o,rfl,q1,q2,q4,q5⟩
   refine fin (hint+1-min o (hint+1)) (hint-l) (by (clear q5 hh hb;omega)) (by omega) (fun i z=>?_) (fun i z1 z2=>?_) (fun x c=>?_) (fun c=>rfl)
   ·rcases q5 with q5|⟨q5,q6⟩
    ·(clear q2 q1 hh hb;omega)
    ·exact up i _ (by (clear q2 q1 hh hb;omega)) (by omega) q6
   ·cases z:bey kf left key arr base i with
    | false=>rfl
    | true=>rw [up (hint-l) i (by omega) z2 z] at q4;cases q4
   ·dsimp only
    split
    ·rfl
    ·exact congrArg (_ >>= ·) (funext fun o=>by cases o <;> rfl)
end
structure J (R:Keyed→Keyed→Prop) (la lb lo:List Keyed) (i j:Nat):Prop where
 perm:lo.Perm (la.take i++lb.take j)
 srt:lo.Pairwise R
 a:∀x∈lo,∀y∈la.drop i,R x y
 b:∀x∈lo,∀y∈lb.drop j,R x y
section
variable {R:Keyed→Keyed→Prop}{la lb lo:List Keyed}{i j k:Nat}
theorem J.swap (h:J R la lb lo i j):J R lb la lo j i:=⟨h.perm.trans List.perm_append_comm,h.srt,h.b,h.a⟩
theorem J.Lr (h:J R la lb lo i j) (pa:la.Pairwise R) (hx:∀x∈(la.drop i).take k,∀y∈lb.drop j,R x y):J R la lb (lo++(la.drop i).take k) (i+k) j:=by
 have pd:((la.drop i).take k++(la.drop i).drop k).Pairwise R:=by rw [List.take_append_drop];exact pa.sublist (List.drop_sublist _ _)
 obtain ⟨p1,_,p3⟩:=List.pairwise_append.mp pd
 have ed:la.drop (i+k)=(la.drop i).drop k:=by rw [List.drop_drop]
 refine ⟨?_,List.pairwise_append.mpr ⟨h.srt,p1,fun x hx y hy=>h.a x hx y (List.mem_of_mem_take hy)⟩,fun x hx' y hy=>?_,fun x hx' y hy=>?_⟩
 ·rw [List.take_add,List.append_assoc]
  refine (h.perm.append_right _).trans ?_
  rw [List.append_assoc]
  exact List.Perm.append_left _ List.perm_append_comm
 ·rw [ed] at hy
  rcases List.mem_append.mp hx' with q|q
  ·exact h.a x q y (List.mem_of_mem_drop hy)
  ·exact p3 x q y hy
 ·rcases List.mem_append.mp hx' with q|q
  ·exact h.b x q y hy
  ·exact hx x q y hy
theorem J.Nb (h:J R la lb lo i j) (pb:lb.Pairwise R) (hx:∀x∈(lb.drop j).take k,∀y∈la.drop i,R x y):J R la lb (lo++(lb.drop j).take k) i (j+k):=(h.swap.Lr pb hx).swap
def Fin (R:Keyed→Keyed→Prop) (la lb l:List Keyed):Prop:=l.Perm (la++lb)/\l.Pairwise R
theorem J.Rx (h:J R la lb lo i j) (pa:la.Pairwise R) (pb:lb.Pairwise R) (hx:∀x∈la.drop i,∀y∈lb.drop j,R x y):Fin R la lb (lo++la.drop i++lb.drop j):=by
 refine ⟨?_,List.pairwise_append.mpr ⟨List.pairwise_append.mpr ⟨h.srt,pa.sublist (List.drop_sublist _ _),h.a⟩,pb.sublist (List.drop_sublist _ _),fun x hx' y hy=>?_⟩⟩
 ·refine ((h.perm.append_right _).append_right _).trans ?_
  have e1:la=la.take i++la.drop i:=(List.take_append_drop _ _).symm
  have e2:lb=lb.take j++lb.drop j:=(List.take_append_drop _ _).symm
  conv=>rhs;rw [e1,e2]
  rw [List.append_assoc,List.append_assoc,List.append_assoc]
  refine List.Perm.append_left _ ?_
  rw [←List.append_assoc,←List.append_assoc]
  exact List.Perm.append_right _ List.perm_append_comm
 ·rcases List.mem_append.mp hx' with q|q
  ·exact h.b x q y hy
  ·exact hx x q y hy
theorem Fin.swap {l:List Keyed}(h:Fin R lb la l):Fin R la lb l:=⟨h.1.trans List.perm_append_comm,h.2⟩
end
theorem NN {out a:Array Keyed}{i k:Nat}:(out++a.extract i (i+k)).toList=out.toList++(a.toList.drop i).take k:=by
 simp [List.extract_eq_take_drop]
theorem GH {a:Array Keyed}{i:Nat}:(a.extract i).toList=a.toList.drop i:=by
 simp only [Array.toList_extract,List.extract_eq_take_drop]
 exact List.take_of_length_le (by simp)
theorem GV {a:Array Keyed}{i:Nat}(hi:i<a.size):(a.toList.drop i).take 1=[a[i]]:=by
 rw [List.drop_eq_getElem_cons (by simpa using hi)]
 simp
theorem LM {out a:Array Keyed}{i:Nat}(hi:i<a.size):(out.push a[i]).toList=out.toList++(a.toList.drop i).take 1:=by
 rw [GV hi]
 simp
section
variable {prog:Program}{w:World}{A:Around}{E:Value→Shared→Prop}{s:Shared}{κ:SortKind}{O:KeyOrd}{kf:Value→O.α}{a₀:Array Keyed}{st:SortSt}
def RK (kf:Value→O.α):Keyed→Keyed→Prop:=fun p q=>O.kle (kf p.1) (kf q.1)
theorem GF {a:Array Keyed}(h:a.toList.Pairwise (RK kf)) {lo hi:Nat}(hh:hi≤a.size):Up kf a lo hi:=fun i j q1 q2 q3=>by
 by_cases z:i=j
 ·rw [z];exact KeyOrd.kle_refl _
 ·rw [BH (by omega:i<a.size),BH (by omega:j<a.size)]
  have:=List.pairwise_iff_getElem.mp h i j (by simp;omega) (by simp;omega) (by omega)
  simpa [RK] using this
theorem CS {a:Array Keyed}{i:Nat}{p:Keyed}(h:p∈a.toList.drop i):∃k,∃(hk:i+k<a.size),p=a[i+k]:=by
 obtain ⟨k,hk,e⟩:=List.mem_iff_getElem.mp h
 rw [List.length_drop,Array.length_toList] at hk
 refine ⟨k,by omega,?_⟩
 rw [←e,List.getElem_drop]
 simp
theorem C6 {a:Array Keyed}{i k:Nat}{p:Keyed}(h:p∈(a.toList.drop i).take k):∃m,m<k/\∃(hk:i+m<a.size),p=a[i+m]:=by
 obtain ⟨m,hm,e⟩:=List.mem_iff_getElem.mp h
 rw [List.length_take,List.length_drop,Array.length_toList] at hm
 refine ⟨m,by omega,by omega,?_⟩
 rw [←e,List.getElem_take,List.getElem_drop]
 simp
structure Still (κ:SortKind) (a₀:Array Keyed) (st st':SortSt):Prop where
 sb:SB κ a₀ st'
 arr:arrOf st'=arrOf st
 pend:pendingOf st'=pendingOf st
theorem Still.gal {st st':SortSt}(x:Still κ a₀ st st') (g:Nat):Still κ a₀ st (SortSt.mk' (kindOf st') (arrOf st') (pendingOf st') g (failedOf st')):=⟨⟨x.sb.perm,x.sb.kind,x.sb.failed⟩,x.arr,x.pend⟩
theorem AY {M:Model}{A:Around}{E:Value→Shared→Prop}{s:Shared}{α:Type}{c:Prop}[Decidable c] {x y:StateT SortSt Sem α}{Q:α→SortSt→Prop}{st:SortSt}(h:c) (k:wpS M A E s x Q st):wpS M A E s (if c then x else y) Q st:=by rw [if_pos h];exact k
theorem Ac {M:Model}{A:Around}{E:Value→Shared→Prop}{s:Shared}{α:Type}{c:Prop}[Decidable c] {x y:StateT SortSt Sem α}{Q:α→SortSt→Prop}{st:SortSt}(h:¬ c) (k:wpS M A E s y Q st):wpS M A E s (if c then x else y) Q st:=by rw [if_neg h];exact k
theorem N8 (C:Cmp prog w A s κ O kf a₀) (B:SB κ a₀ st) {a b:Array Keyed}(ha:∀p∈a.toList,p∈a₀.toList) (hb:∀p∈b.toList,p∈a₀.toList) (a1:1≤a.size) (b1:1≤b.size) (pa:a.toList.Pairwise (RK kf)) (pb:b.toList.Pairwise (RK kf))
  (first:∀p∈a.toList,RK kf b[0] p) (last:∀p∈b.toList,RK kf p a[a.size-1]) {Q:Array Keyed→SortSt→Prop}
  (h:∀m st',Still κ a₀ st st'→Fin (RK kf) a.toList b.toList m.toList→Q m st'):wpS (model prog w) A E s (P9 a b) Q st:=by
 have fDone:∀{out:Array Keyed} {ia ib:Nat},J (RK kf) a.toList b.toList out.toList ia ib→(ib=b.size\/ia=a.size)→Fin (RK kf) a.toList b.toList (out++a.extract ia++b.extract ib).toList:=fun {out ia ib} j e=>by
  rw [Array.toList_append,Array.toList_append,GH,GH]
  refine j.Rx pa pb fun x hx y hy=>?_
  rcases e with rfl|rfl
  ·rw [List.drop_of_length_le (by simp)] at hy;cases hy
  ·rw [List.drop_of_length_le (by simp)] at hx;cases hx
 have fLast:∀{out:Array Keyed} {ia ib:Nat},J (RK kf) a.toList b.toList out.toList ia ib→ia+1=a.size→Fin (RK kf) a.toList b.toList (out++b.extract ib++a.extract ia).toList:=fun {out ia ib} j e=>by
  rw [Array.toList_append,Array.toList_append,GH,GH]
  refine (j.swap.Rx pb pa fun x hx y hy=>?_).swap
  obtain ⟨k,hk,rfl⟩:=CS hy
  have:k=0:=by omega
  subst this
  have:=last x (List.mem_of_mem_drop hx)
  simpa [show a.size-1=ia by omega] using this
 have am:∀{i:Nat} (hi:i<a.size),a[i]∈a₀.toList:=fun hi=>ha _ (by simp)
 have bm:∀{i:Nat} (hi:i<b.size),b[i]∈a₀.toList:=fun hi=>hb _ (by simp)
 have la:∀{i k:Nat} (hk:i+k<a.size),RK kf (a[i]'(by omega)) a[i+k]:=fun {i k} hk=>by
  have:=GF pa (lo:=0) (Nat.le_refl _) i (i+k) (by omega) (by omega) hk
  rw [BH (by omega:i<a.size),BH hk] at this
  exact this
 have lb:∀{i k:Nat} (hk:i+k<b.size),RK kf (b[i]'(by omega)) b[i+k]:=fun {i k} hk=>by
  have:=GF pb (lo:=0) (Nat.le_refl _) i (i+k) (by omega) (by omega) hk
  rw [BH (by omega:i<b.size),BH hk] at this
  exact this
 have oneB:∀{out:Array Keyed} {ia ib:Nat} (h1:ia<a.size) (h2:ib<b.size),J (RK kf) a.toList b.toList out.toList ia ib→RK kf b[ib] a[ia]→J (RK kf) a.toList b.toList (out.push b[ib]).toList ia (ib+1):=fun {out ia ib} h1 h2 j r=>by
  rw [LM h2]
  refine j.Nb pb fun x hx y hy=>?_
  rw [GV h2,List.mem_singleton] at hx
  obtain ⟨k,hk,rfl⟩:=CS hy
  rw [hx]
  exact KeyOrd.kle_trans r (la hk)
 have oneA:∀{out:Array Keyed} {ia ib:Nat} (h1:ia<a.size) (h2:ib<b.size),J (RK kf) a.toList b.toList out.toList ia ib→RK kf a[ia] b[ib]→J (RK kf) a.toList b.toList (out.push a[ia]).toList (ia+1) ib:=fun {out ia ib} h1 h2 j r=>by
  rw [LM h1]
  refine j.Lr pa fun x hx y hy=>?_
  rw [GV h1,List.mem_singleton] at hx
  obtain ⟨k,hk,rfl⟩:=CS hy
  rw [hx]
  exact KeyOrd.kle_trans r (lb hk)
 refine wpS_bind (wpS_lift (wpAny_rule ⟨rfl,?_⟩))
 refine wpS_bind (BQ (by omega:0<b.size) ?_)
 have j0:J (RK kf) a.toList b.toList (#[b[0]]:Array Keyed).toList 0 1:=by
  refine ⟨?_,by simp,fun x hx y hy=>?_,fun x hx y hy=>?_⟩
  ·rw [←GV (by omega:0<b.size)]
   simp
  ·simp at hx hy;subst hx;exact first y (by simpa using hy)
  ·simp only [List.mem_singleton] at hx
   obtain ⟨k,hk,rfl⟩:=CS hy
   rw [hx]
   have:=lb (i:=0) (k:=1+k) (by omega)
   simpa using this
 dsimp only
 by_cases e1:1=b.size
 ·refine AY (by simpa using e1) ?_
  exact wpS_pure (h _ st ⟨B,rfl,rfl⟩ (fDone j0 (.inl e1)))
 refine Ac (by simpa using e1) ?_
 by_cases e2:0+1=a.size
 ·refine AY (by simpa using e2) ?_
  exact wpS_pure (h _ st ⟨B,rfl,rfl⟩ (fLast j0 e2))
 refine Ac (by simpa using e2) ?_
 refine wpS_bind (wpS_get ?_)
 refine wpS_bind (wpS_mono (wpS_forRange
  (I:=fun x c st'=>Still κ a₀ st st'/\∃out ia ib g,c=(none,out,ia,ib,g)/\J (RK kf) a.toList b.toList out.toList ia ib/\ia+1<a.size/\ib<b.size/\x+1≤ia+ib)
  (Q:=fun c st'=>Still κ a₀ st st'/\∃r,c.1=some r/\Fin (RK kf) a.toList b.toList r.toList) ?step ?fin ?init) ?post)
 case init=>exact ⟨⟨B,rfl,rfl⟩,_,0,1,_,rfl,j0,by omega,by omega,by omega⟩
 case fin =>
  rintro c st' ⟨S,out,ia,ib,g,rfl,j,h1,h2,h3⟩
  omega
 case post =>
  rintro c st' ⟨S,r,e,f⟩
  obtain ⟨c1,c2⟩:=c
  obtain rfl:c1=some r:=e
  exact wpS_pure (h r st' S f)
 case step =>
  rintro x c st1 _ hx ⟨S,out,ia,ib,g,rfl,j,h1,h2,h3⟩
  dsimp only
  refine wpS_bind (wpS_mono (wpS_forRange
   (I:=fun y c st'=>st'=st1/\∃out' ia' ib' p q,c=(none,out',ia',ib',p,q)/\J (RK kf) a.toList b.toList out'.toList ia' ib'/\ia'+1<a.size/\ib'<b.size/\ia+ib+y≤ia'+ib')
   (Q:=fun c st'=>st'=st1/\((∃r,c.1=some r/\Fin (RK kf) a.toList b.toList r.toList)\/∃out' ia' ib' p q,c=(none,out',ia',ib',p,q)/\J (RK kf) a.toList b.toList out'.toList ia' ib'/\ia'+1<a.size/\ib'<b.size/\ia+ib+1≤ia'+ib')) ?s1 ?s2 ?s3) ?s4)
  case s3=>exact ⟨rfl,out,ia,ib,0,0,rfl,j,h1,h2,Nat.le_refl _⟩
  case s2 =>
   rintro c st' ⟨rfl,out',ia',ib',p,q,rfl,j',g1,g2,g3⟩
   exact ⟨rfl,.inr ⟨out',ia',ib',p,q,rfl,j',g1,g2,by omega⟩⟩
  case s1 =>
   rintro y c st' _ hy ⟨rfl,out',ia',ib',p,q,rfl,j',g1,g2,g3⟩
   dsimp only
   refine wpS_bind (BQ g2 (wpS_bind (BQ (by omega:ia'<a.size) (wpS_bind (PY C S.sb (bm g2) (am (by omega)) ?_)))))
   cases e:O.blt (kf b[ib'].1) (kf (a[ia']'(by omega)).1) with
   | true =>
    dsimp only
    refine AY rfl ?_
    refine wpS_bind (BQ g2 ?_)
    have j2:=oneB (by omega) g2 j' (KeyOrd.kle_of_klt e)
    by_cases z:ib'+1=b.size
    ·refine AY (by simpa using z) ?_
     exact wpS_pure ⟨rfl,.inl ⟨_,rfl,fDone j2 (.inl z)⟩⟩
    ·refine Ac (by simpa using z) ?_
     split
     ·exact wpS_pure ⟨rfl,.inr ⟨_,_,_,_,_,rfl,j2,g1,by omega,by omega⟩⟩
     ·exact wpS_pure ⟨rfl,_,_,_,_,_,rfl,j2,g1,by omega,by omega⟩
   | false =>
    dsimp only
    refine Ac Bool.false_ne_true ?_
    refine wpS_bind (BQ (by omega:ia'<a.size) ?_)
    have j2:=oneA (by omega) g2 j' e
    by_cases z:ia'+1+1=a.size
    ·refine AY (by simpa using z) ?_
     exact wpS_pure ⟨rfl,.inl ⟨_,rfl,fLast j2 z⟩⟩
    ·refine Ac (by simpa using z) ?_
     split
     ·exact wpS_pure ⟨rfl,.inr ⟨_,_,_,_,_,rfl,j2,by omega,g2,by omega⟩⟩
     ·exact wpS_pure ⟨rfl,_,_,_,_,_,rfl,j2,by omega,g2,by omega⟩
  case s4 =>
   rintro c st' ⟨rfl,⟨r,e,f⟩|⟨out',ia',ib',p,q,rfl,j',g1,g2,g3⟩⟩
   ·obtain ⟨c1,c2⟩:=c
    obtain rfl:c1=some r:=e
    exact wpS_pure ⟨S,r,rfl,f⟩
   dsimp only
   refine wpS_bind (wpS_lift (wpAny_rule ⟨rfl,?_⟩))
   refine wpS_bind (wpS_mono (wpS_forRange
    (I:=fun y c st2=>Still κ a₀ st st2/\∃o2 i2 k2 m2 p q,c=(none,o2,i2,k2,m2,p,q)/\J (RK kf) a.toList b.toList o2.toList i2 k2/\i2+1<a.size/\k2<b.size/\ia+ib+1≤i2+k2)
    (Q:=fun c st2=>Still κ a₀ st st2/\((∃r,c.1=some r/\Fin (RK kf) a.toList b.toList r.toList)\/∃o2 i2 k2 m2 p q,c=(none,o2,i2,k2,m2,p,q)/\J (RK kf) a.toList b.toList o2.toList i2 k2/\i2+1<a.size/\k2<b.size/\ia+ib+1≤i2+k2)) ?t1 ?t2 ?t3) ?t4)
   case t3=>exact ⟨S,out',ia',ib',_,p,q,rfl,j',g1,g2,g3⟩
   case t2 =>
    rintro c st2 ⟨S2,r⟩
    exact ⟨S2,.inr r⟩
   case t4 =>
    rintro c st2 ⟨S2,⟨r,e,f⟩|⟨o2,i2,k2,m2,p,q,rfl,j2,f1,f2,f3⟩⟩
    ·obtain ⟨c1,c2⟩:=c
     obtain rfl:c1=some r:=e
     exact wpS_pure ⟨S2,r,rfl,f⟩
    ·refine wpS_bind (wpS_modify (wpS_pure ⟨S2.gal _,o2,i2,k2,_,rfl,j2,f1,f2,by omega⟩))
   case t1 =>
    rintro y c st2 _ hy ⟨S2,o2,i2,k2,m2,p,q,rfl,j2,f1,f2,f3⟩
    dsimp only
    refine (fun (key:∀m3:Nat,(?G:Nat→Prop) m3)=>?u) ?v
    case u =>
     by_cases z:m2 > 1
     ·refine AY z ?_
      generalize m2-1=m3
      exact key m3
     ·refine Ac z ?_
      generalize m2=m3
      exact key m3
    case v =>
     intro m3
     try dsimp only
     refine wpS_bind (wpS_modify ?_)
     have S3:=S2.gal m3
     refine wpS_bind (BQ f2 ?_)
     refine (fun (key:∀(k i3:Nat) (o3:Array Keyed),J (RK kf) a.toList b.toList o3.toList i3 k2→(∀m (hm:m<a.size),i3≤m→RK kf b[k2] a[m])→i3+1<a.size→ia+ib+1≤i3+k2→(?G2:Nat→Nat→Array Keyed→Prop) k i3 o3)=>?u2) ?v2
     case u2 =>
      refine wpS_bind (Dz C S3.sb (bm f2) ha (by omega) (by omega) (GF pa (by omega)) fun k hk bl bg=>?_)
      have runA:∀m,m<k→∀(hm:i2+m<a.size),RK kf a[i2+m] b[k2]:=fun m z hm=>by
       have:=bl m z
       unfold bey at this
       rw [if_neg Bool.false_ne_true,BH hm] at this
       show O.blt _ _=false
       simpa using this
      have runB:∀m,k≤m→∀(hm:i2+m<a.size),RK kf b[k2] a[i2+m]:=fun m z hm=>by
       have:=bg m z (by (clear z runA bg bl hk key f3 f2 hy g3 g2 g1 h3 h2 h1 hx e2 e1 j0 last first b1 a1;omega))
       unfold bey at this
       rw [if_neg Bool.false_ne_true,BH hm] at this
       exact KeyOrd.kle_of_klt (by show O.blt _ _=true;simpa using this)
      have j3:J (RK kf) a.toList b.toList (o2++a.extract i2 (i2+k)).toList (i2+k) k2:=by
       rw [NN]
       refine j2.Lr pa fun x hx y hy=>?_
       obtain ⟨m,hm,hm2,rfl⟩:=C6 hx
       obtain ⟨m',hm',rfl⟩:=CS hy
       exact KeyOrd.kle_trans (runA m hm hm2) (lb hm')
      dsimp only
      have pre:(k > 0/\i2+k+1=a.size)\/(k > 0/\i2+k=a.size)\/i2+k+1<a.size:=by (clear runB runA bg bl key f3 f2 hy g3 g2 g1 h3 h2 h1 hx e2 e1 j0 last first b1 a1;omega)
      rcases pre with ⟨zk,z1⟩|⟨zk,z1⟩|z1
      ·refine AY zk (AY (by simpa using z1) ?_)
       exact wpS_pure ⟨S3,.inl ⟨_,rfl,fLast j3 z1⟩⟩
      ·refine AY zk (Ac (by simp;omega) (AY (by simpa using z1) ?_))
       exact wpS_pure ⟨S3,.inl ⟨_,rfl,fDone j3 (.inr z1)⟩⟩
      have hB3:∀m (hm:m<a.size),i2+k≤m→RK kf b[k2] a[m]:=fun m hm z=>by
       have:=runB (m-i2) (by (clear hm z1 runB runA bg bl hk key f3 f2 f1 hy g3 g2 g1 h3 h2 h1 hx e2 e1 j0 last first b1 a1;omega)) (by (clear z1 runB runA bg bl hk key f3 f2 f1 hy g3 g2 g1 h3 h2 h1 hx e2 e1 j0 last first b1 a1;omega))
       simpa [show i2+(m-i2)=m by (clear this hm z1 runB runA bg bl hk key f3 f2 f1 hy g3 g2 g1 h3 h2 h1 hx e2 e1 j0 last first b1 a1;omega)] using this
      by_cases zk:k > 0
      ·refine AY zk (Ac (by simp;omega) (Ac (by simp;omega) ?_))
       generalize o2++a.extract i2 (i2+k)=o3 at j3 ⊢
       have f3':ia+ib+1≤(i2+k)+k2:=by omega
       generalize i2+k=i3 at j3 hB3 z1 f3' ⊢
       exact key k i3 o3 j3 hB3 z1 f3'
      ·refine Ac zk ?_
       have zk0:k=0:=by (clear hB3 z1 runB runA bg bl hk key f3 f2 f1 hy g3 g2 g1 h3 h2 h1 hx e2 e1 j0 last first b1 a1;omega)
       have eo:o2++a.extract i2 (i2+k)=o2:=by rw [zk0];simp;omega
       rw [eo,zk0,Nat.add_zero] at j3
       rw [zk0,Nat.add_zero] at hB3 z1
       exact key k i2 o2 j3 hB3 z1 f3
     case v2 =>
      intro k i3 o3 j3 hB3 z1 f3'
      try dsimp only
      have hi3:i3<a.size:=by omega
      refine wpS_bind (BQ f2 ?_)
      have j4:=oneB (by omega) f2 j3 (hB3 i3 (by omega) (Nat.le_refl _))
      by_cases z3:k2+1=b.size
      ·refine AY (by simpa using z3) ?_
       exact wpS_pure ⟨S3,.inl ⟨_,rfl,fDone j4 (.inl z3)⟩⟩
      refine Ac (by simpa using z3) ?_
      refine wpS_bind (BQ (by omega:i3<a.size) ?_)
      refine (fun (key:∀(k' k5:Nat) (o5:Array Keyed),J (RK kf) a.toList b.toList o5.toList i3 k5→(∀m (hm:m<b.size),k5≤m→RK kf (a[i3]'hi3) b[m])→k5<b.size→ia+ib+1≤i3+k5→(?G3:Nat→Nat→Array Keyed→Prop) k' k5 o5)=>?u3) ?v3
      case u3 =>
       refine wpS_bind (Dz C S3.sb (am (by omega)) hb (by omega) (by (clear key hi3 f3' z1 f3 f1 hy g3 g2 g1 h3 h2 h1 hx e2 e1 j0 last first b1 a1;omega)) (GF pb (by omega)) fun k' hk' bl' bg'=>?_)
       have runB':∀m,m<k'→∀(hm:k2+1+m<b.size),RK kf b[k2+1+m] (a[i3]'(by omega)):=fun m z hm=>by
        have:=bl' m z
        unfold bey at this
        rw [if_pos rfl,BH hm] at this
        exact KeyOrd.kle_of_klt this
       have runA':∀m (hm:m<b.size),k2+1+k'≤m→RK kf (a[i3]'(by omega)) b[m]:=fun m hm z=>by
        have:=bg' (m-(k2+1)) (by (clear hm runB' bg' bl' hk' key z3 j4 hi3 f3' z1 hB3 f3 f2 f1 hy g3 g2 g1 h3 h2 h1 hx e2 e1 j0 last first b1 a1;omega)) (by (clear runB' bg' bl' hk' key z3 hi3 f3' z1 f3 f1 hy g3 g2 g1 h3 h2 h1 hx e2 e1 j0 last first b1 a1;omega))
        unfold bey at this
        rw [if_pos rfl] at this
        have e:k2+1+(m-(k2+1))=m:=by (clear this hm runB' bg' bl' hk' key z3 j4 hi3 f3' z1 hB3 f3 f2 f1 hy g3 g2 g1 h3 h2 h1 hx e2 e1 j0 last first b1 a1;omega)
        rw [e,BH hm] at this
        exact this
       have j5:J (RK kf) a.toList b.toList (o3.push b[k2]++b.extract (k2+1) (k2+1+k')).toList i3 (k2+1+k'):=by
        rw [NN]
        refine j4.Nb pb fun x hx y hy=>?_
        obtain ⟨m,hm,hm2,rfl⟩:=C6 hx
        obtain ⟨m',hm',rfl⟩:=CS hy
        exact KeyOrd.kle_trans (runB' m hm hm2) (la hm')
       dsimp only
       have pre:(k' > 0/\k2+1+k'=b.size)\/k2+1+k'<b.size:=by (clear runA' runB' bg' bl' key hi3 f3' z1 f3 f1 hy g3 g2 g1 h3 h2 h1 hx e2 e1 j0 last first b1 a1;omega)
       rcases pre with ⟨zk',z4⟩|z4
       ·refine AY zk' (AY (by simpa using z4) ?_)
        exact wpS_pure ⟨S3,.inl ⟨_,rfl,fDone j5 (.inl z4)⟩⟩
       have f4':ia+ib+1≤i3+(k2+1+k'):=by omega
       by_cases zk':k' > 0
       ·refine AY zk' (Ac (by simp;omega) ?_)
        generalize o3.push b[k2]++b.extract (k2+1) (k2+1+k')=o5 at j5 ⊢
        generalize k2+1+k'=k5 at j5 runA' z4 f4' ⊢
        exact key k' k5 o5 j5 runA' z4 f4'
       ·refine Ac zk' ?_
        have zk0:k'=0:=by (clear f4' z4 j5 runA' runB' bg' bl' hk' key z3 j4 hi3 f3' z1 hB3 f3 f2 f1 hy g3 g2 g1 h3 h2 h1 hx e2 e1 j0 last first b1 a1;omega)
        have eo:o3.push b[k2]++b.extract (k2+1) (k2+1+k')=o3.push b[k2]:=by rw [zk0];simp;(clear zk0 zk' f4' z4 runA' runB' bg' bl' hk' key z3 hi3 f3' z1 f3 f1 hy g3 g2 g1 h3 h2 h1 hx e2 e1 j0 last first b1 a1;omega)
        rw [eo,zk0,Nat.add_zero] at j5
        rw [zk0,Nat.add_zero] at runA' z4 f4'
        exact key k' _ _ j5 runA' z4 f4'
      case v3 =>
       intro k' k5 o5 j5 runA' z4 f4'
       try dsimp only
       refine wpS_bind (BQ (by omega:i3<a.size) ?_)
       have j6:=oneA (by omega) z4 j5 (runA' k5 z4 (Nat.le_refl _))
       by_cases z5:i3+1+1=a.size
       ·refine AY (by simpa using z5) ?_
        exact wpS_pure ⟨S3,.inl ⟨_,rfl,fLast j6 z5⟩⟩
       refine Ac (by simpa using z5) ?_
       by_cases z6:(decide (k<7)&&decide (k'<7))=true
       ·refine AY z6 ?_
        exact wpS_pure ⟨S3,.inr ⟨_,_,_,_,_,_,rfl,j6,by omega,z4,by omega⟩⟩
       ·refine Ac z6 ?_
        exact wpS_pure ⟨S3,_,_,_,_,_,_,rfl,j6,by omega,z4,by omega⟩
end
theorem EA (a:Array Keyed) {n:Nat}(h:n≤a.size):a.toList.reverse.drop (a.size-n)=(a.toList.take n).reverse:=by
 rw [List.drop_reverse]
 congr 2
 simp
 omega
theorem C2 {a:Array Keyed}{n:Nat}(h:n≤a.size) {x:Keyed}(hx:x∈a.toList.reverse.drop (a.size-n)):∃m,∃(hm:m<a.size),m<n/\x=a[m]:=by
 rw [EA a h,List.mem_reverse] at hx
 obtain ⟨m,hm,e⟩:=List.mem_iff_getElem.mp hx
 rw [List.length_take,Array.length_toList] at hm
 refine ⟨m,by omega,by omega,?_⟩
 rw [←e,List.getElem_take]
 simp
theorem GR (a:Array Keyed) {n t:Nat}(h:n≤a.size) (ht:t≤n):(a.toList.reverse.drop (a.size-n)).take (n-t)=(a.extract t n).toList.reverse:=by
 rw [EA a h,List.take_reverse]
 simp only [Array.toList_extract,List.extract_eq_take_drop,List.length_take,Array.length_toList]
 congr 1
 rw [List.drop_take]
 congr 1
 ·omega
 ·congr 1
  omega
theorem GW (a:Array Keyed) {n:Nat}(h:n≤a.size) (h1:1≤n):(a.toList.reverse.drop (a.size-n)).take 1=[a[n-1]]:=by
 have e:=GR a h (show n-1≤n by omega)
 rw [show n-(n-1)=1 by omega] at e
 rw [e]
 have:=GV (a:=a) (i:=n-1) (by omega)
 simp only [Array.toList_extract,List.extract_eq_take_drop]
 rw [show n-(n-1)=1 by omega,this]
 rfl
theorem Nl {R:Keyed→Keyed→Prop}{la lb l:List Keyed}(h:Fin (fun p q=>R q p) la.reverse lb.reverse l.reverse):Fin R la lb l:=by
 refine ⟨(List.reverse_perm l).symm.trans (h.1.trans ((List.reverse_perm la).append (List.reverse_perm lb))),?_⟩
 exact List.pairwise_reverse.mp h.2
section
variable {prog:Program}{w:World}{A:Around}{E:Value→Shared→Prop}{s:Shared}{κ:SortKind}{O:KeyOrd}{kf:Value→O.α}{a₀:Array Keyed}{st:SortSt}
abbrev JH (kf:Value→O.α) (a b out:Array Keyed) (na nb:Nat):Prop:=J (fun p q=>RK kf q p) a.toList.reverse b.toList.reverse out.toList (a.size-na) (b.size-nb)
theorem N9 (C:Cmp prog w A s κ O kf a₀) (B:SB κ a₀ st) {a b:Array Keyed}(ha:∀p∈a.toList,p∈a₀.toList) (hb:∀p∈b.toList,p∈a₀.toList) (a1:1≤a.size) (b1:1≤b.size) (pa:a.toList.Pairwise (RK kf)) (pb:b.toList.Pairwise (RK kf))
  (first:∀p∈a.toList,RK kf b[0] p) (last:∀p∈b.toList,RK kf p a[a.size-1]) {Q:Array Keyed→SortSt→Prop}
  (h:∀m st',Still κ a₀ st st'→Fin (RK kf) a.toList b.toList m.toList→Q m st'):wpS (model prog w) A E s (QA a b) Q st:=by
 have pa':a.toList.reverse.Pairwise (fun p q=>RK kf q p):=List.pairwise_reverse.mpr pa
 have pb':b.toList.reverse.Pairwise (fun p q=>RK kf q p):=List.pairwise_reverse.mpr pb
 have fDone:∀{out:Array Keyed} {na nb:Nat},na≤a.size→nb≤b.size→JH kf a b out na nb→(na=0\/nb=0)→Fin (RK kf) a.toList b.toList (a.extract 0 na++b.extract 0 nb++out.reverse).toList:=fun {out na nb} q1 q2 j e=>by
  refine Nl ?_
  have el:(a.extract 0 na++b.extract 0 nb++out.reverse).toList.reverse=out.toList++b.toList.reverse.drop (b.size-nb)++a.toList.reverse.drop (a.size-na):=by
   rw [EA a q1,EA b q2]
   simp [List.extract_eq_take_drop]
  rw [el]
  refine (j.swap.Rx pb' pa' fun x hx y hy=>?_).swap
  obtain ⟨m,hm,z,rfl⟩:=C2 q2 hx
  obtain ⟨m',hm',z',rfl⟩:=C2 q1 hy
  omega
 have fFirst:∀{out:Array Keyed} {na nb:Nat},na≤a.size→nb≤b.size→JH kf a b out na nb→nb=1→Fin (RK kf) a.toList b.toList (b.extract 0 nb++a.extract 0 na++out.reverse).toList:=fun {out na nb} q1 q2 j e=>by
  refine Nl ?_
  have el:(b.extract 0 nb++a.extract 0 na++out.reverse).toList.reverse=out.toList++a.toList.reverse.drop (a.size-na)++b.toList.reverse.drop (b.size-nb):=by
   rw [EA a q1,EA b q2]
   simp [List.extract_eq_take_drop]
  rw [el]
  refine j.Rx pa' pb' fun x hx y hy=>?_
  obtain ⟨m,hm,z,rfl⟩:=C2 q1 hx
  obtain ⟨m',hm',z',rfl⟩:=C2 q2 hy
  have:m'=0:=by omega
  subst this
  exact first _ (by simp)
 have am:∀{i:Nat} (hi:i<a.size),a[i]∈a₀.toList:=fun hi=>ha _ (by simp)
 have bm:∀{i:Nat} (hi:i<b.size),b[i]∈a₀.toList:=fun hi=>hb _ (by simp)
 have la:∀{i k:Nat} (hk:k<a.size) (h:i≤k),RK kf (a[i]'(by omega)) a[k]:=fun {i k} hk h=>by
  have:=GF pa (lo:=0) (Nat.le_refl _) i k (by omega) (by omega) hk
  rw [BH (by omega:i<a.size),BH hk] at this
  exact this
 have lb:∀{i k:Nat} (hk:k<b.size) (h:i≤k),RK kf (b[i]'(by omega)) b[k]:=fun {i k} hk h=>by
  have:=GF pb (lo:=0) (Nat.le_refl _) i k (by omega) (by omega) hk
  rw [BH (by omega:i<b.size),BH hk] at this
  exact this
 have oneA:∀{out:Array Keyed} {na nb:Nat} (h1:1≤na) (h2:na≤a.size) (h3:1≤nb) (h4:nb≤b.size),JH kf a b out na nb→RK kf b[nb-1] a[na-1]→JH kf a b (out.push a[na-1]) (na-1) nb:=fun {out na nb} h1 h2 h3 h4 j r=>by
  have e:(out.push a[na-1]).toList=out.toList++(a.toList.reverse.drop (a.size-na)).take 1:=by rw [GW a h2 h1];simp
  show J _ _ _ (out.push a[na-1]).toList _ _
  rw [e,show a.size-(na-1)=a.size-na+1 by (clear r h4 h3 last first b1 a1;omega)]
  refine j.Lr pa' fun x hx y hy=>?_
  rw [GW a h2 h1,List.mem_singleton] at hx
  obtain ⟨m,hm,z,rfl⟩:=C2 h4 hy
  rw [hx]
  exact KeyOrd.kle_trans (lb (by omega) (by omega:m≤nb-1)) r
 have oneB:∀{out:Array Keyed} {na nb:Nat} (h1:1≤na) (h2:na≤a.size) (h3:1≤nb) (h4:nb≤b.size),JH kf a b out na nb→RK kf a[na-1] b[nb-1]→JH kf a b (out.push b[nb-1]) na (nb-1):=fun {out na nb} h1 h2 h3 h4 j r=>by
  have e:(out.push b[nb-1]).toList=out.toList++(b.toList.reverse.drop (b.size-nb)).take 1:=by rw [GW b h4 h3];simp
  show J _ _ _ (out.push b[nb-1]).toList _ _
  rw [e,show b.size-(nb-1)=b.size-nb+1 by (clear r h2 h1 last first b1 a1;omega)]
  refine j.Nb pb' fun x hx y hy=>?_
  rw [GW b h4 h3,List.mem_singleton] at hx
  obtain ⟨m,hm,z,rfl⟩:=C2 h2 hy
  rw [hx]
  exact KeyOrd.kle_trans (la (by omega) (by omega:m≤na-1)) r
 refine wpS_bind (wpS_lift (wpAny_rule ⟨rfl,?_⟩))
 refine wpS_bind (BQ (by omega:a.size-1<a.size) ?_)
 have j0:JH kf a b (#[a[a.size-1]]:Array Keyed) (a.size-1) b.size:=by
  refine ⟨?_,by simp,fun x hx y hy=>?_,fun x hx y hy=>?_⟩
  ·have:=GW a (Nat.le_refl _) a1
   rw [Nat.sub_self,List.drop_zero] at this
   rw [show a.size-(a.size-1)=1 by omega,this]
   simp
  ·simp only [List.mem_singleton] at hx
   obtain ⟨m,hm,z,rfl⟩:=C2 (by omega) hy
   rw [hx]
   exact la (by omega) (by omega)
  ·simp only [List.mem_singleton] at hx
   obtain ⟨m,hm,z,rfl⟩:=C2 (Nat.le_refl _) hy
   rw [hx]
   exact last _ (by simp)
 dsimp only
 by_cases e1:a.size-1=0
 ·refine AY (by simpa using e1) ?_
  exact wpS_pure (h _ st ⟨B,rfl,rfl⟩ (fDone (by omega) (Nat.le_refl _) j0 (.inl e1)))
 refine Ac (by simpa using e1) ?_
 by_cases e2:b.size=1
 ·refine AY (by simpa using e2) ?_
  exact wpS_pure (h _ st ⟨B,rfl,rfl⟩ (fFirst (by omega) (Nat.le_refl _) j0 e2))
 refine Ac (by simpa using e2) ?_
 refine wpS_bind (wpS_get ?_)
 refine wpS_bind (wpS_mono (wpS_forRange
  (I:=fun x c st'=>Still κ a₀ st st'/\∃na nb out g,c=(none,na,nb,out,g)/\JH kf a b out na nb/\1≤na/\na≤a.size/\2≤nb/\nb≤b.size/\x+1+na+nb≤a.size+b.size)
  (Q:=fun c st'=>Still κ a₀ st st'/\∃r,c.1=some r/\Fin (RK kf) a.toList b.toList r.toList) ?step ?fin ?init) ?post)
 case init=>exact ⟨⟨B,rfl,rfl⟩,_,_,_,_,rfl,j0,by omega,by omega,by omega,by omega,by omega⟩
 case fin =>
  rintro c st' ⟨S,na,nb,out,g,rfl,j,h1,h2,h3,h4,h5⟩
  omega
 case post =>
  rintro c st' ⟨S,r,e,f⟩
  obtain ⟨c1,c2⟩:=c
  obtain rfl:c1=some r:=e
  exact wpS_pure (h r st' S f)
 case step =>
  rintro x c st1 hx0 hx ⟨S,na,nb,out,g,rfl,j,h1,h2,h3,h4,h5⟩
  dsimp only
  refine wpS_bind (wpS_mono (wpS_forRange
   (I:=fun y c st'=>st'=st1/\∃na' nb' out' p q,c=(none,na',nb',out',p,q)/\JH kf a b out' na' nb'/\1≤na'/\na'≤a.size/\2≤nb'/\nb'≤b.size/\na'+nb'+y≤na+nb)
   (Q:=fun c st'=>st'=st1/\((∃r,c.1=some r/\Fin (RK kf) a.toList b.toList r.toList)\/∃na' nb' out' p q,c=(none,na',nb',out',p,q)/\JH kf a b out' na' nb'/\1≤na'/\na'≤a.size/\2≤nb'/\nb'≤b.size/\na'+nb'+1≤na+nb)) ?s1 ?s2 ?s3) ?s4)
  case s3=>exact ⟨rfl,na,nb,out,0,0,rfl,j,h1,h2,h3,h4,Nat.le_refl _⟩
  case s2 =>
   rintro c st' ⟨rfl,na',nb',out',p,q,rfl,j',g1,g2,g3,g4,g5⟩
   exact ⟨rfl,.inr ⟨na',nb',out',p,q,rfl,j',g1,g2,g3,g4,by omega⟩⟩
  case s1 =>
   rintro y c st' hy0 hy ⟨rfl,na',nb',out',p,q,rfl,j',g1,g2,g3,g4,g5⟩
   clear hy0 h1 h2 h3 h4 h5 hx hx0 e1 e2 j0 j first last
   dsimp only
   refine wpS_bind (BQ (by omega:nb'-1<b.size) (wpS_bind (BQ (by omega:na'-1<a.size) (wpS_bind (PY C S.sb (bm (by omega)) (am (by omega)) ?_)))))
   cases e:O.blt (kf (b[nb'-1]'(by omega)).1) (kf (a[na'-1]'(by omega)).1) with
   | true =>
    dsimp only
    refine AY rfl ?_
    refine wpS_bind (BQ (by omega:na'-1<a.size) ?_)
    have j2:=oneA g1 g2 (by omega) g4 j' (KeyOrd.kle_of_klt e)
    by_cases z:na'-1=0
    ·refine AY (by simpa using z) ?_
     exact wpS_pure ⟨rfl,.inl ⟨_,rfl,fDone (by omega) g4 j2 (.inl z)⟩⟩
    ·refine Ac (by simpa using z) ?_
     split
     ·exact wpS_pure ⟨rfl,.inr ⟨_,_,_,_,_,rfl,j2,by omega,by omega,g3,g4,by omega⟩⟩
     ·exact wpS_pure ⟨rfl,_,_,_,_,_,rfl,j2,by omega,by omega,g3,g4,by omega⟩
   | false =>
    dsimp only
    refine Ac Bool.false_ne_true ?_
    refine wpS_bind (BQ (by omega:nb'-1<b.size) ?_)
    have j2:=oneB g1 g2 (by omega) g4 j' e
    by_cases z:nb'-1=1
    ·refine AY (by simpa using z) ?_
     exact wpS_pure ⟨rfl,.inl ⟨_,rfl,fFirst g2 (by omega) j2 z⟩⟩
    ·refine Ac (by simpa using z) ?_
     split
     ·exact wpS_pure ⟨rfl,.inr ⟨_,_,_,_,_,rfl,j2,g1,g2,by (clear j2 e g5 g4 g2 g1 hy b1 a1;omega),by omega,by omega⟩⟩
     ·exact wpS_pure ⟨rfl,_,_,_,_,_,rfl,j2,g1,g2,by (clear j2 e g5 g4 g2 g1 hy b1 a1;omega),by omega,by omega⟩
  case s4 =>
   rintro c st' ⟨rfl,⟨r,e,f⟩|⟨na',nb',out',p,q,rfl,j',g1,g2,g3,g4,g5⟩⟩
   ·obtain ⟨c1,c2⟩:=c
    obtain rfl:c1=some r:=e
    exact wpS_pure ⟨S,r,rfl,f⟩
   dsimp only
   refine wpS_bind (wpS_lift (wpAny_rule ⟨rfl,?_⟩))
   refine wpS_bind (wpS_mono (wpS_forRange
    (I:=fun y c st2=>Still κ a₀ st st2/\∃i2 k2 o2 m2 p q,c=(none,i2,k2,o2,m2,p,q)/\JH kf a b o2 i2 k2/\1≤i2/\i2≤a.size/\2≤k2/\k2≤b.size/\i2+k2+1≤na+nb)
    (Q:=fun c st2=>Still κ a₀ st st2/\((∃r,c.1=some r/\Fin (RK kf) a.toList b.toList r.toList)\/∃i2 k2 o2 m2 p q,c=(none,i2,k2,o2,m2,p,q)/\JH kf a b o2 i2 k2/\1≤i2/\i2≤a.size/\2≤k2/\k2≤b.size/\i2+k2+1≤na+nb)) ?t1 ?t2 ?t3) ?t4)
   case t3=>exact ⟨S,na',nb',out',_,p,q,rfl,j',g1,g2,g3,g4,g5⟩
   case t2 =>
    rintro c st2 ⟨S2,r⟩
    exact ⟨S2,.inr r⟩
   case t4 =>
    rintro c st2 ⟨S2,⟨r,e,f⟩|⟨i2,k2,o2,m2,p,q,rfl,j2,f1,f2,f3,f4,f5⟩⟩
    ·obtain ⟨c1,c2⟩:=c
     obtain rfl:c1=some r:=e
     exact wpS_pure ⟨S2,r,rfl,f⟩
    ·refine wpS_bind (wpS_modify (wpS_pure ⟨S2.gal _,i2,k2,o2,_,rfl,j2,f1,f2,f3,f4,by omega⟩))
   case t1 =>
    rintro y c st2 hy0 hy ⟨S2,i2,k2,o2,m2,p,q,rfl,j2,f1,f2,f3,f4,f5⟩
    clear hy0 hy j' g1 g2 g3 g4 g5 j h1 h2 h3 h4 h5 hx hx0 e1 e2 j0 S first last
    dsimp only
    refine (fun (key:∀m3:Nat,(?G:Nat→Prop) m3)=>?u) ?v
    case u =>
     by_cases z:m2 > 1
     ·refine AY z ?_
      generalize m2-1=m3
      exact key m3
     ·refine Ac z ?_
      generalize m2=m3
      exact key m3
    case v =>
     intro m3
     try dsimp only
     refine wpS_bind (wpS_modify ?_)
     have S3:=S2.gal m3
     have hk1:k2-1<b.size:=by omega
     refine wpS_bind (BQ hk1 ?_)
     refine (fun (key:∀(c i3:Nat) (o3:Array Keyed),JH kf a b o3 i3 k2→(∀m (hm:m<a.size),m<i3→RK kf a[m] (b[k2-1]'hk1))→1≤i3→i3≤a.size→i3+k2+1≤na+nb→(?G2:Nat→Nat→Array Keyed→Prop) c i3 o3)=>?u2) ?v2
     case u2 =>
      refine wpS_bind (Dz C S3.sb (bm hk1) ha (by omega) (by omega) (GF pa (by omega)) fun t ht bl bg=>?_)
      have runA:∀m (hm:m<a.size),m<t→RK kf a[m] (b[k2-1]'hk1):=fun m hm z=>by
       have:=bl m z
       unfold bey at this
       rw [if_neg Bool.false_ne_true,BH (by omega:0+m<a.size)] at this
       show O.blt _ _=false
       simpa using this
      have runB:∀m (hm:m<a.size),t≤m→m<i2→RK kf (b[k2-1]'hk1) a[m]:=fun m hm z z'=>by
       have:=bg m z z'
       unfold bey at this
       rw [if_neg Bool.false_ne_true,BH (by omega:0+m<a.size)] at this
       exact KeyOrd.kle_of_klt (by show O.blt _ _=true;simpa using this)
      have j3:JH kf a b (o2++(a.extract t i2).reverse) t k2:=by
       have e:(o2++(a.extract t i2).reverse).toList=o2.toList++(a.toList.reverse.drop (a.size-i2)).take (i2-t):=by rw [GR a f2 ht];simp
       show J _ _ _ (o2++(a.extract t i2).reverse).toList _ _
       rw [e,show a.size-t=a.size-i2+(i2-t) by (clear runB runA bg bl key hk1 f5 f4 f3 f1 b1 a1;omega)]
       refine j2.Lr pa' fun x hx y hy=>?_
       rw [GR a f2 ht,List.mem_reverse] at hx
       simp only [Array.toList_extract,List.extract_eq_take_drop] at hx
       obtain ⟨m,hm,hm2,rfl⟩:=C6 hx
       obtain ⟨m',hm',z,rfl⟩:=C2 f4 hy
       exact KeyOrd.kle_trans (lb (by omega) (by (clear hy hm' hx hm2 hm runB runA bg bl key hk1 f5 f4 f2 f1 b1 a1;omega):m'≤k2-1)) (runB _ hm2 (by omega) (by (clear hy z hm' hx hm2 runB runA bg bl key hk1 f5 f4 f3 f2 f1 b1 a1;omega)))
      dsimp only
      have pre:(i2-t > 0/\t=0)\/1≤t:=by (clear runB runA bg bl key hk1 f5 f4 f3 f2 b1 a1;omega)
      rcases pre with ⟨zk,z1⟩|z1
      ·refine AY zk (AY (by simpa using z1) ?_)
       exact wpS_pure ⟨S3,.inl ⟨_,rfl,fDone (by omega) f4 j3 (.inl z1)⟩⟩
      have t2:t≤a.size:=by omega
      have f5':t+k2+1≤na+nb:=by omega
      by_cases zk:i2-t > 0
      ·refine AY zk (Ac (by simp;omega) ?_)
       generalize i2-t=c
       generalize o2++(a.extract t i2).reverse=o3 at j3 ⊢
       clear bl bg ht runB zk
       generalize t=i3 at j3 runA z1 t2 f5' ⊢
       exact key c i3 o3 j3 runA z1 t2 f5'
      ·refine Ac zk ?_
       have zk0:t=i2:=by (clear f5' t2 z1 runB runA bg bl key hk1 f5 f4 f3 f2 f1 b1 a1;omega)
       have eo:o2++(a.extract t i2).reverse=o2:=by rw [zk0];simp;omega
       rw [eo,zk0] at j3
       rw [zk0] at runA z1 t2 f5'
       generalize i2-t=c
       exact key c i2 o2 j3 runA z1 t2 f5'
     case v2 =>
      intro c i3 o3 j3 runA z1 t2 f5'
      try dsimp only
      have hi3:i3-1<a.size:=by omega
      refine wpS_bind (BQ hk1 ?_)
      have j4:=oneB z1 t2 (by omega) f4 j3 (runA _ (by omega) (by omega))
      by_cases z3:k2-1=1
      ·refine AY (by simpa using z3) ?_
       exact wpS_pure ⟨S3,.inl ⟨_,rfl,fFirst t2 (by omega) j4 z3⟩⟩
      refine Ac (by simpa using z3) ?_
      refine wpS_bind (BQ (by omega:i3-1<a.size) ?_)
      refine (fun (key:∀(c' k5:Nat) (o5:Array Keyed),JH kf a b o5 i3 k5→(∀m (hm:m<b.size),m<k5→RK kf b[m] (a[i3-1]'hi3))→2≤k5→k5≤b.size→i3+k5+1≤na+nb→(?G3:Nat→Nat→Array Keyed→Prop) c' k5 o5)=>?u3) ?v3
      case u3 =>
       refine wpS_bind (Dz C S3.sb (am (by omega)) hb (by omega) (by (clear key j4 hi3 f5' t2 runA hk1 f5 f4 f2 f1 b1 a1;omega)) (GF pb (by omega)) fun t' ht' bl' bg'=>?_)
       have runB':∀m (hm:m<b.size),m<t'→RK kf b[m] (a[i3-1]'(by omega)):=fun m hm z=>by
        have:=bl' m z
        unfold bey at this
        rw [if_pos rfl,BH (by omega:0+m<b.size)] at this
        exact KeyOrd.kle_of_klt (by show O.blt _ _=true;simpa using this)
       have runA':∀m (hm:m<b.size),t'≤m→m<k2-1→RK kf (a[i3-1]'(by omega)) b[m]:=fun m hm z z'=>by
        have:=bg' m z z'
        unfold bey at this
        rw [if_pos rfl,BH (by omega:0+m<b.size)] at this
        show O.blt _ _=false
        simpa using this
       have j5:JH kf a b (o3.push (b[k2-1]'hk1)++(b.extract t' (k2-1)).reverse) i3 t':=by
        have e:(o3.push (b[k2-1]'hk1)++(b.extract t' (k2-1)).reverse).toList=(o3.push (b[k2-1]'hk1)).toList++(b.toList.reverse.drop (b.size-(k2-1))).take (k2-1-t'):=by rw [GR b (by omega) ht'];simp
        show J _ _ _ (o3.push (b[k2-1]'hk1)++(b.extract t' (k2-1)).reverse).toList _ _
        rw [e,show b.size-t'=b.size-(k2-1)+(k2-1-t') by (clear runA' runB' bg' bl' key hi3 f5' t2 f5 f2 f1 b1 a1;omega)]
        refine j4.Nb pb' fun x hx y hy=>?_
        rw [GR b (by omega) ht',List.mem_reverse] at hx
        simp only [Array.toList_extract,List.extract_eq_take_drop] at hx
        obtain ⟨m,hm,hm2,rfl⟩:=C6 hx
        obtain ⟨m',hm',z,rfl⟩:=C2 t2 hy
        exact KeyOrd.kle_trans (la (by omega) (by (clear hy hm' hx hm2 e runA' runB' bg' bl' ht' key j4 hi3 f5' t2 runA hk1 f5 f4 f3 f2 f1 b1 a1;omega):m'≤i3-1)) (runA' _ hm2 (by omega) (by (clear hy z hm' hx hm2 e runA' runB' bg' bl' key j4 hi3 f5' t2 runA hk1 f5 f4 f2 f1 b1 a1;omega)))
       dsimp only
       have pre:(k2-1-t' > 0/\t'=1)\/(k2-1-t' > 0/\t'=0)\/2≤t':=by (clear j5 runA' runB' bg' bl' key j4 hi3 f5' t2 runA hk1 f5 f4 f2 f1 b1 a1;omega)
       rcases pre with ⟨zk',z4⟩|⟨zk',z4⟩|z4
       ·refine AY zk' (AY (by simpa using z4) ?_)
        exact wpS_pure ⟨S3,.inl ⟨_,rfl,fFirst t2 (by (clear zk' runA' runB' bg' bl' key z3 j4 hi3 f5' t2 z1 f5 f4 f3 f2 f1 b1 a1;omega)) j5 z4⟩⟩
       ·refine AY zk' (Ac (by simp;omega) (AY (by simpa using z4) ?_))
        exact wpS_pure ⟨S3,.inl ⟨_,rfl,fDone t2 (by (clear zk' runA' runB' bg' bl' key z3 j4 hi3 f5' t2 z1 f5 f4 f3 f2 f1 b1 a1;omega)) j5 (.inr z4)⟩⟩
       have t4:t'≤b.size:=by omega
       have f6':i3+t'+1≤na+nb:=by (clear t4 j5 runA' runB' bg' bl' key j4 hi3 t2 runA hk1 f5 f4 f2 f1 b1 a1;omega)
       by_cases zk':k2-1-t' > 0
       ·refine AY zk' (Ac (by simp;omega) (Ac (by simp;omega) ?_))
        generalize k2-1-t'=c'
        generalize o3.push (b[k2-1]'hk1)++(b.extract t' (k2-1)).reverse=o5 at j5 ⊢
        clear bl' bg' ht' runA' zk'
        generalize t'=k5 at j5 runB' z4 t4 f6' ⊢
        exact key c' k5 o5 j5 runB' z4 t4 f6'
       ·refine Ac zk' ?_
        have zk0:t'=k2-1:=by (clear f6' t4 j5 runA' runB' bg' bl' key j4 hi3 f5' t2 runA hk1 f5 f4 f2 f1 b1 a1;omega)
        have eo:o3.push (b[k2-1]'hk1)++(b.extract t' (k2-1)).reverse=o3.push (b[k2-1]'hk1):=by rw [zk0];simp;(clear zk' f6' t4 z4 runA' runB' bg' bl' ht' key z3 j4 hi3 f5' t2 z1 f5 f4 f3 f2 f1 b1 a1;omega)
        rw [eo,zk0] at j5
        rw [zk0] at runB' z4 t4 f6'
        generalize k2-1-t'=c'
        exact key c' _ _ j5 runB' z4 t4 f6'
      case v3 =>
       intro c' k5 o5 j5 runB' z4 t4 f6'
       try dsimp only
       refine wpS_bind (BQ (by omega:i3-1<a.size) ?_)
       have j6:=oneA z1 t2 (by omega) t4 j5 (runB' _ (by (clear f6' runB' z3 j4 hi3 f5' t2 z1 runA hk1 f5 f4 f3 f2 f1 b1 a1;omega)) (by (clear f6' t4 runB' z3 j4 hi3 f5' t2 z1 runA hk1 f5 f4 f3 f2 f1 b1 a1;omega)))
       by_cases z5:i3-1=0
       ·refine AY (by simpa using z5) ?_
        exact wpS_pure ⟨S3,.inl ⟨_,rfl,fDone (by omega) t4 j6 (.inl z5)⟩⟩
       refine Ac (by simpa using z5) ?_
       split
       ·exact wpS_pure ⟨S3,.inr ⟨_,_,_,_,_,_,rfl,j6,by omega,by omega,z4,t4,by (clear j6 t4 z4 runB' j4 hi3 f5' t2 runA hk1 f5 f4 f3 f2 f1 b1 a1;omega)⟩⟩
       ·exact wpS_pure ⟨S3,_,_,_,_,_,_,rfl,j6,by omega,by omega,z4,t4,by (clear j6 t4 z4 runB' j4 hi3 f5' t2 runA hk1 f5 f4 f3 f2 f1 b1 a1;omega)⟩
end
theorem MB (p:Nat):∀(M:List Keyed) (n:Nat) (xs:Array Keyed),p+n+M.length≤xs.size→((M.zipIdx n).foldl (fun a x=>a.setIfInBounds (p+x.2) x.1) xs).toList=xs.toList.take (p+n)++M++xs.toList.drop (p+n+M.length)
 | [],n,xs,h=>by simp
 | m::r,n,xs,h=>by
  rw [List.length_cons] at h
  rw [List.zipIdx_cons,List.foldl_cons,MB p r (n+1) _ (by simp;omega)]
  have hl:p+n<xs.toList.length:=by simp;omega
  simp only [Array.toList_setIfInBounds]
  rw [List.drop_set_of_lt (by omega),show p+(n+1)=p+n+1 by omega,List.take_add_one,List.take_set_of_le (by omega),List.getElem?_set_self hl,List.length_cons]
  simp [show p+n+1+r.length=p+n+(r.length+1) by omega]
section
variable {prog:Program}{w:World}{A:Around}{E:Value→Shared→Prop}{s:Shared}{κ:SortKind}{O:KeyOrd}{kf:Value→O.α}{a₀:Array Keyed}{st:SortSt}
theorem Li {xs:Array Keyed}{lo hi:Nat}(h:hi≤xs.size) (u:Up kf xs lo hi):(xs.extract lo hi).toList.Pairwise (RK kf):=by
 rw [List.pairwise_iff_getElem]
 intro i j hi' hj hij
 have h1:(xs.extract lo hi).size=hi-lo:=by simp;(clear hij hj hi';omega)
 have e:∀k (hk:k<(xs.extract lo hi).toList.length),(xs.extract lo hi).toList[k]=xs[lo+k]'(by simp at hk;omega):=fun k hk=>by simp
 rw [e i hi',e j hj]
 have hi2:i<hi-lo:=by simp at hi';omega
 have hj2:j<hi-lo:=by simp at hj;omega
 have:=u (lo+i) (lo+j) (by omega) (by omega) (by (clear h1 hij hj hi' h;omega))
 rw [BH (by omega:lo+i<xs.size),BH (by omega:lo+j<xs.size)] at this
 exact this
theorem Nd {xs:Array Keyed}{lo hi:Nat}(h:hi≤xs.size) {p:Keyed}(hp:p∈(xs.extract lo hi).toList):∃m,lo≤m/\m<hi/\∃(hm:m<xs.size),p=xs[m]:=by
 simp only [Array.toList_extract,List.extract_eq_take_drop] at hp
 obtain ⟨m,hm,hm2,rfl⟩:=C6 hp
 exact ⟨lo+m,by omega,by omega,hm2,rfl⟩
theorem Og (xs:Array Keyed) {i j k:Nat}(h1:i≤j) (h2:j≤k) (h3:k≤xs.size):xs.toList=xs.toList.take i++((xs.extract i j).toList++(xs.extract j k).toList)++xs.toList.drop k:=by
 simp only [Array.toList_extract,List.extract_eq_take_drop]
 have e1:List.take (k-i) (xs.toList.drop i)=List.take (j-i) (xs.toList.drop i)++List.take (k-j) (xs.toList.drop j):=by
  rw [show k-i=(j-i)+(k-j) by omega,List.take_add,List.drop_drop,show i+(j-i)=j by omega]
 have e2:xs.toList.drop i=List.take (k-i) (xs.toList.drop i)++xs.toList.drop k:=by
  conv=>lhs;rw [←List.take_append_drop (k-i) (xs.toList.drop i),List.drop_drop,show i+(k-i)=k by omega]
 rw [←e1,List.append_assoc,←e2,List.take_append_drop]
theorem Qu {M:Model}{σ:Type}{t u:σ}{Q:PUnit→σ→Prop}(h:Q ⟨⟩ t):wpS M A E s (set t:StateT σ Sem PUnit) Q u:=by
 unfold wpS
 exact wpAny_pure ⟨rfl,h⟩
theorem OA (C:Cmp prog w A s κ O kf a₀) (B:SB κ a₀ st) {i sa na pw nb pw':Nat}(p1:(pendingOf st)[i]?=some (sa,na,pw)) (p2:(pendingOf st)[i+1]?=some (sa+na,nb,pw')) (n1:1≤na) (n2:1≤nb) (hz:sa+na+nb≤a₀.size)
  (ua:Up kf (arrOf st) sa (sa+na)) (ub:Up kf (arrOf st) (sa+na) (sa+na+nb)) {Q:Bool→SortSt→Prop}
  (h:∀st',SB κ a₀ st'→pendingOf st'=((pendingOf st).setIfInBounds i (sa,na+nb,pw)).eraseIdxIfInBounds (i+1)→Up kf (arrOf st') sa (sa+(na+nb))→(∀k,k<sa\/sa+na+nb≤k→KX kf (arrOf st') k=KX kf (arrOf st) k)→Q true st') :
  wpS (model prog w) A E s (mergeAt' i) Q st:=by
 have sz:=B.size
 refine wpS_bind (wpS_get ?_)
 rw [show (sortPriv% PySem.Builtin.SortState.pending) st=pendingOf st from rfl,p1,p2]
 dsimp only
 refine wpS_bind (Qu (t:=SortSt.mk' (kindOf st) (arrOf st) (((pendingOf st).setIfInBounds i (sa,na+nb,pw)).eraseIdxIfInBounds (i+1)) (gallopOf st) (failedOf st)) ?_)
 have memA:∀p∈(arrOf st).toList,p∈a₀.toList:=fun p hp=>(Array.perm_iff_toList_perm.mp B.perm).mem_iff.mp hp
 have e1:sa+na<(arrOf st).size:=by omega
 refine wpS_bind (BQ e1 ?_)
 generalize hst1:SortSt.mk' (kindOf st) (arrOf st) (((pendingOf st).setIfInBounds i (sa,na+nb,pw)).eraseIdxIfInBounds (i+1)) (gallopOf st) (failedOf st)=st1
 have B1:SB κ a₀ st1:=by rw [←hst1];exact ⟨B.perm,B.kind,B.failed⟩
 have ar1:arrOf st1=arrOf st:=by rw [←hst1]
 have pe1:pendingOf st1=((pendingOf st).setIfInBounds i (sa,na+nb,pw)).eraseIdxIfInBounds (i+1):=by rw [←hst1]
 have keyB:KX kf (arrOf st) (sa+na)=kf ((arrOf st)[sa+na]'e1).1:=BH e1
 refine wpS_bind (Dz (left:=false) (key:=(arrOf st)[sa+na]'e1) (base:=sa) (n:=na) (hint:=0) C B1 (memA _ (by simp)) memA (by omega) (by omega) ua fun k hk bl bg=>?_)
 have lowA:∀j,sa≤j→j<sa+k→O.kle (KX kf (arrOf st) j) (KX kf (arrOf st) (sa+na)):=fun j j1 j2=>by
  have:=bl (j-sa) (by omega)
  unfold bey at this
  rw [if_neg Bool.false_ne_true,←keyB,show sa+(j-sa)=j by omega] at this
  show O.blt _ _=false
  simpa using this
 have highA:∀j,sa+k≤j→j<sa+na→O.kle (KX kf (arrOf st) (sa+na)) (KX kf (arrOf st) j):=fun j j1 j2=>by
  have:=bg (j-sa) (by omega) (by omega)
  unfold bey at this
  rw [if_neg Bool.false_ne_true,←keyB,show sa+(j-sa)=j by omega] at this
  exact KeyOrd.kle_of_klt (by show O.blt _ _=true;simpa using this)
 dsimp only
 by_cases k0:na-k=0
 ·refine AY (by simpa using k0) ?_
  refine wpS_pure (h st1 B1 pe1 ?_ fun z _=>by rw [ar1])
  rw [ar1]
  intro x y h1 h2 h3
  by_cases hx:x<sa+na
  ·by_cases hy:y<sa+na
   ·exact ua x y h1 h2 hy
   ·exact KeyOrd.kle_trans (lowA x h1 (by omega)) (ub _ y (Nat.le_refl _) (by omega) (by omega))
  ·exact ub x y (by omega) h2 (by omega)
 refine Ac (by simpa using k0) ?_
 have e2:sa+k+(na-k)-1<(arrOf st).size:=by (clear k0 sz hz n2 n1;omega)
 refine wpS_bind (BQ e2 ?_)
 have keyA:KX kf (arrOf st) (sa+na-1)=kf ((arrOf st)[sa+k+(na-k)-1]'e2).1:=by
  rw [←BH (kf:=kf) e2]
  congr 1
  omega
 refine wpS_bind (Dz (left:=true) (key:=(arrOf st)[sa+k+(na-k)-1]'e2) (base:=sa+na) (n:=nb) (hint:=nb-1) C B1 (memA _ (by simp)) memA (by omega) (by omega) ub fun k' hk' bl' bg'=>?_)
 have lowB:∀j,sa+na≤j→j<sa+na+k'→O.kle (KX kf (arrOf st) j) (KX kf (arrOf st) (sa+na-1)):=fun j j1 j2=>by
  have:=bl' (j-(sa+na)) (by omega)
  unfold bey at this
  rw [if_pos rfl,←keyA,show sa+na+(j-(sa+na))=j by (clear j2 bg' bl' hk' keyA e2 k0 bg bl hk keyB e1 sz hz n2 n1;omega)] at this
  exact KeyOrd.kle_of_klt this
 have highB:∀j,sa+na+k'≤j→j<sa+na+nb→O.kle (KX kf (arrOf st) (sa+na-1)) (KX kf (arrOf st) j):=fun j j1 j2=>by
  have:=bg' (j-(sa+na)) (by (clear j2 bg' bl' hk' keyA e2 k0 bg bl hk keyB e1 sz hz n2 n1;omega)) (by omega)
  unfold bey at this
  rw [if_pos rfl,←keyA,show sa+na+(j-(sa+na))=j by omega] at this
  exact this
 dsimp only
 by_cases k1:k'=0
 ·refine AY (by simpa using k1) ?_
  refine wpS_pure (h st1 B1 pe1 ?_ fun z _=>by rw [ar1])
  rw [ar1]
  intro x y h1 h2 h3
  by_cases hx:x<sa+na
  ·by_cases hy:y<sa+na
   ·exact ua x y h1 h2 hy
   ·exact KeyOrd.kle_trans (ua x (sa+na-1) h1 (by (clear hy h3 h2 h1 k1 bg' bl' hk' keyA e2 k0 bg bl hk keyB e1 sz hz n2 n1;omega)) (by (clear hy h3 h2 h1 k1 bg' bl' hk' keyA e2 k0 bg bl hk keyB e1 sz hz n2 n1;omega))) (highB y (by omega) (by omega))
  ·exact ub x y (by omega) h2 (by omega)
 refine Ac (by simpa using k1) ?_
 generalize hX:(arrOf st).extract (sa+k) (sa+na)=X
 generalize hY:(arrOf st).extract (sa+na) (sa+na+k')=Y
 have pX:X.toList.Pairwise (RK kf):=by rw [←hX];exact Li (by omega) fun a b q1 q2 q3=>ua a b (by omega) q2 q3
 have pY:Y.toList.Pairwise (RK kf):=by rw [←hY];exact Li (by omega) fun a b q1 q2 q3=>ub a b (by omega) q2 (by omega)
 have zX:X.size=na-k:=by rw [←hX];simp;(clear k1 bg' bl' hk' keyA e2 k0 sz hz n2 n1;omega)
 have zY:Y.size=k':=by rw [←hY];simp;(clear zX k1 bg' bl' keyA e2 k0 hk n2 n1;omega)
 have mX:∀p∈X.toList,∃m,sa+k≤m/\m<sa+na/\∃(hm:m<(arrOf st).size),p=(arrOf st)[m]:=fun p hp=>Nd (by omega) (by rw [hX];exact hp)
 have mY:∀p∈Y.toList,∃m,sa+na≤m/\m<sa+na+k'/\∃(hm:m<(arrOf st).size),p=(arrOf st)[m]:=fun p hp=>Nd (by omega) (by rw [hY];exact hp)
 have y0:Y[0]'(by (clear zX bg' bl' hk' keyA e2 k0 bg bl keyB e1 sz hz n2 n1;omega))=(arrOf st)[sa+na]'e1:=by subst hY;simp
 have xl:X[X.size-1]'(by (clear y0 bg' bl' hk' keyA e2 bg bl keyB e1 sz hz n2;omega))=(arrOf st)[sa+na-1]'(by (clear y0 zY zX k1 hk' k0 hk sz hz n2 n1;omega)):=by
  subst hX
  rw [Array.getElem_extract]
  congr 1
  rw [zX]
  (clear zX y0 bg' bl' hk' keyA e2 bg bl keyB e1 sz hz n2;omega)
 have first:∀p∈X.toList,RK kf (Y[0]'(by (clear xl y0 zX bg' bl' hk' keyA e2 k0 bg bl keyB e1 sz hz n2 n1;omega))) p:=fun p hp=>by
  obtain ⟨m,q1,q2,hm,rfl⟩:=mX p hp
  rw [y0]
  have:=highA m q1 q2
  rw [keyB,BH hm] at this
  exact this
 have last:∀p∈Y.toList,RK kf p (X[X.size-1]'(by (clear xl y0 bg' bl' hk' keyA e2 bg bl keyB e1 sz hz n2;omega))):=fun p hp=>by
  obtain ⟨m,q1,q2,hm,rfl⟩:=mY p hp
  rw [xl]
  have:=lowB m q1 q2
  rw [BH hm,BH (by (clear this hp hm q2 q1 first xl y0 zY zX k1 hk' k0 hk sz hz n2 n1;omega):sa+na-1<(arrOf st).size)] at this
  exact this
 have inX:∀p∈X.toList,p∈a₀.toList:=fun p hp=>by
  obtain ⟨m,q1,q2,hm,rfl⟩:=mX p hp
  exact memA _ (by simp)
 have inY:∀p∈Y.toList,p∈a₀.toList:=fun p hp=>by
  obtain ⟨m,q1,q2,hm,rfl⟩:=mY p hp
  exact memA _ (by simp)
 have fin:∀(M:Array Keyed) (st2:SortSt),Still κ a₀ st1 st2→Fin (RK kf) X.toList Y.toList M.toList→Q true (setArr st2 (M.toList.zipIdx.foldl (fun a x=>a.setIfInBounds (sa+k+x.2) x.1) (arrOf st2))):=fun M st2 S f=>by
  have lM:M.toList.length=(na-k)+k':=by rw [f.1.length_eq,List.length_append];simp [zX,zY]
  have ar2:arrOf st2=arrOf st:=S.arr.trans ar1
  have el:=MB (sa+k) M.toList 0 (arrOf st) (by omega)
  rw [Nat.add_zero,lM,show sa+k+(na-k+k')=sa+na+k' by (clear last first xl y0 zX k1 bg' bl' hk' keyA e2 k0 bg bl keyB e1 sz hz n2 n1;omega)] at el
  generalize hN:M.toList.zipIdx.foldl (fun a x=>a.setIfInBounds (sa+k+x.2) x.1) (arrOf st2)=N
  have eN:N.toList=(arrOf st).toList.take (sa+k)++M.toList++(arrOf st).toList.drop (sa+na+k'):=by rw [←hN,ar2];exact el
  have perm:N.Perm (arrOf st2):=by
   rw [ar2,Array.perm_iff_toList_perm,eN]
   have sp:=Og (arrOf st) (i:=sa+k) (j:=sa+na) (k:=sa+na+k') (by omega) (by omega) (by omega)
   rw [hX,hY] at sp
   conv=>rhs;rw [sp]
   exact List.Perm.append_right _ (List.Perm.append_left _ f.1)
  have lt:((arrOf st).toList.take (sa+k)).length=sa+k:=by simp;(clear lM last first xl y0 zY zX k1 bg' bl' hk' keyA e2 k0 sz hz n2 n1;omega)
  have nOut:∀z,z<sa+k\/sa+na+k'≤z→N[z]?=(arrOf st)[z]?:=fun z hz'=>by
   rw [←Array.getElem?_toList,←Array.getElem?_toList,eN]
   rcases hz' with q|q
   ·rw [List.append_assoc,List.getElem?_append_left (by (clear lM last first xl y0 zY zX k1 bg' bl' hk' keyA e2 k0 bg bl hk keyB e1 sz hz n2 n1;omega)),List.getElem?_take_of_lt q]
   ·rw [List.getElem?_append_right (by rw [List.length_append];(clear last first xl y0 zX k1 bg' bl' hk' keyA e2 k0 bg bl keyB e1 sz hz n2 n1;omega)),List.length_append,lt,lM,List.getElem?_drop]
    congr 1
    (clear last first xl y0 zX k1 bg' bl' hk' keyA e2 k0 bg bl keyB e1 sz hz n2 n1;omega)
  have nIn:∀z,sa+k≤z→z<sa+na+k'→N[z]?=M[z-(sa+k)]?:=fun z q1 q2=>by
   rw [←Array.getElem?_toList,←Array.getElem?_toList,eN,List.append_assoc,List.getElem?_append_right (by (clear q2 lM last first xl y0 zY zX k1 bg' bl' hk' keyA e2 k0 bg bl hk keyB e1 sz hz n2 n1;omega)),lt,List.getElem?_append_left (by (clear last first xl y0 zX k1 bg' bl' hk' keyA e2 k0 bg bl keyB e1 sz hz n2 n1;omega))]
  have upM:Up kf M 0 M.size:=GF f.2 (Nat.le_refl _)
  have sM:M.size=(na-k)+k':=by rw [←lM];simp
  have inM:∀z,sa+k≤z→z<sa+na+k'→∃m,sa+k≤m/\m<sa+na+k'/\KX kf N z=KX kf (arrOf st) m:=fun z q1 q2=>by
   have hz2:z-(sa+k)<M.size:=by (clear last first xl y0 zX k1 bg' bl' hk' keyA e2 k0 bg bl keyB e1 sz hz n2 n1;omega)
   have hm:M[z-(sa+k)]∈X.toList++Y.toList:=f.1.mem_iff.mp (by simp)
   rw [A5 (nIn z q1 q2),BH hz2]
   rcases List.mem_append.mp hm with q|q
   ·obtain ⟨m,q1,q2,hm,e⟩:=mX _ q
    exact ⟨m,q1,by (clear e hm q1 sM lM last first xl y0 zX k1 bg' bl' hk' keyA e2 k0 bg bl hk keyB e1 sz hz n2 n1;omega),by rw [e,BH hm]⟩
   ·obtain ⟨m,q1,q2,hm,e⟩:=mY _ q
    exact ⟨m,by (clear e hm q2 sM lM last first xl y0 zY zX k1 bg' bl' hk' keyA e2 k0 bg bl keyB e1 sz hz n2 n1;omega),q2,by rw [e,BH hm]⟩
  refine h _ (S.sb.put perm) (S.pend.trans pe1) ?_ fun z hz'=>A5 (nOut z (by (clear sM lM last first xl y0 zX k1 bg' bl' keyA e2 k0 bg bl hk keyB e1 sz hz n2 n1;omega)))
  show Up kf N sa (sa+(na+nb))
  intro x y h1 h2 h3
  by_cases x1:x<sa+k
  ·rw [A5 (nOut x (.inl x1))]
   have all:∀m,sa+k≤m→m<sa+na+nb→O.kle (KX kf (arrOf st) x) (KX kf (arrOf st) m):=fun m q1 q2=>by
    by_cases q3:m<sa+na
    ·exact ua x m h1 (by (clear q3 q2 h3 h2 h1 sM lM last first xl y0 zY zX k1 bg' bl' hk' keyA e2 k0 bg bl hk keyB e1 sz hz n2 n1;omega)) q3
    ·exact KeyOrd.kle_trans (lowA x h1 x1) (ub _ m (Nat.le_refl _) (by (clear q2 q1 x1 h3 h2 h1 sM lM last first xl y0 zY zX k1 bg' bl' hk' keyA e2 k0 bg bl hk keyB e1 sz hz n2 n1;omega)) q2)
   by_cases y1:y<sa+k
   ·rw [A5 (nOut y (.inl y1))]
    exact ua x y h1 h2 (by (clear x1 h3 h2 h1 sM lM last first xl y0 zY zX k1 bg' bl' hk' keyA e2 k0 bg bl keyB e1 sz hz n2 n1;omega))
   ·by_cases y2:y<sa+na+k'
    ·obtain ⟨m,q1,q2,e⟩:=inM y (by (clear y2 x1 h3 h2 h1 sM lM last first xl y0 zY zX k1 bg' bl' hk' keyA e2 k0 bg bl hk keyB e1 sz hz n2 n1;omega)) y2
     rw [e]
     exact all m q1 (by (clear q1 y2 y1 x1 h3 h2 h1 sM lM last first xl y0 zX k1 bg' bl' keyA e2 k0 bg bl hk keyB e1 sz hz n2 n1;omega))
    ·rw [A5 (nOut y (.inr (by (clear y1 x1 h3 h2 h1 sM lM last first xl y0 zX k1 bg' bl' hk' keyA e2 k0 bg bl hk keyB e1 sz hz n2 n1;omega))))]
     exact all y (by (clear y2 x1 h3 h2 h1 sM lM last first xl y0 zY zX k1 bg' bl' hk' keyA e2 k0 bg bl hk keyB e1 sz hz n2 n1;omega)) (by (clear y2 y1 x1 h2 h1 sM lM last first xl y0 zY zX k1 bg' bl' hk' keyA e2 k0 bg bl hk keyB e1 sz hz n2 n1;omega))
  ·by_cases x2:x<sa+na+k'
   ·by_cases y2:y<sa+na+k'
    ·rw [A5 (nIn x (by (clear y2 x2 h3 h2 h1 sM lM last first xl y0 zY zX k1 bg' bl' hk' keyA e2 k0 bg bl hk keyB e1 sz hz n2 n1;omega)) x2),A5 (nIn y (by (clear y2 x2 h3 h1 sM lM last first xl y0 zY zX k1 bg' bl' hk' keyA e2 k0 bg bl hk keyB e1 sz hz n2 n1;omega)) y2)]
     exact upM _ _ (by omega) (by (clear y2 x2 h3 h1 sM lM last first xl y0 zY zX k1 bg' bl' hk' keyA e2 k0 bg bl hk keyB e1 sz hz n2 n1;omega)) (by (clear x2 h3 h1 last first xl y0 zX k1 bg' bl' hk' keyA e2 k0 bg bl keyB e1 sz hz n2 n1;omega))
    ·rw [A5 (nOut y (.inr (by (clear x2 x1 h3 h2 h1 sM lM last first xl y0 zX k1 bg' bl' hk' keyA e2 k0 bg bl hk keyB e1 sz hz n2 n1;omega))))]
     obtain ⟨m,q1,q2,e⟩:=inM x (by (clear y2 x2 h3 h2 h1 sM lM last first xl y0 zY zX k1 bg' bl' hk' keyA e2 k0 bg bl hk keyB e1 sz hz n2 n1;omega)) x2
     rw [e]
     by_cases q3:m<sa+na
     ·exact KeyOrd.kle_trans (ua m (sa+na-1) (by (clear q3 q2 y2 x2 x1 h3 h2 h1 sM lM last first xl y0 zY zX k1 bg' bl' hk' keyA e2 k0 bg bl hk keyB e1 sz hz n2 n1;omega)) (by (clear q2 q1 y2 x2 x1 h3 h2 h1 sM lM last first xl y0 zY zX k1 bg' bl' hk' keyA e2 k0 bg bl hk keyB e1 sz hz n2;omega)) (by (clear q2 q1 y2 x2 x1 h3 h2 h1 sM lM last first xl y0 zY zX k1 bg' bl' hk' keyA e2 k0 bg bl hk keyB e1 sz hz n2 n1;omega))) (highB y (by (clear q3 q2 q1 x2 x1 h3 h2 h1 sM lM last first xl y0 zX k1 bg' bl' hk' keyA e2 k0 bg bl hk keyB e1 sz hz n2 n1;omega)) (by (clear q3 q2 q1 y2 x2 x1 h2 h1 sM lM last first xl y0 zY zX k1 bg' bl' hk' keyA e2 k0 bg bl hk keyB e1 sz hz n2 n1;omega)))
     ·exact ub m y (by (clear q2 q1 y2 x2 x1 h3 h2 h1 sM lM last first xl y0 zY zX k1 bg' bl' hk' keyA e2 k0 bg bl hk keyB e1 sz hz n2 n1;omega)) (by (clear q3 q1 x2 x1 h3 h2 h1 sM lM last first xl y0 zX k1 bg' bl' hk' keyA e2 k0 bg bl hk keyB e1 sz hz n2 n1;omega)) (by (clear q3 q2 q1 y2 x2 x1 h2 h1 sM lM last first xl y0 zY zX k1 bg' bl' hk' keyA e2 k0 bg bl hk keyB e1 sz hz n2 n1;omega))
   ·rw [A5 (nOut x (.inr (by (clear x1 h3 h2 h1 sM lM last first xl y0 zX k1 bg' bl' hk' keyA e2 k0 bg bl hk keyB e1 sz hz n2 n1;omega)))),A5 (nOut y (.inr (by (clear x1 h3 h1 sM lM last first xl y0 zX k1 bg' bl' hk' keyA e2 k0 bg bl hk keyB e1 sz hz n2 n1;omega))))]
    exact ub x y (by (clear x1 h3 h2 h1 sM lM last first xl y0 zX k1 bg' bl' hk' keyA e2 k0 bg bl hk keyB e1 sz hz n2 n1;omega)) h2 (by (clear x2 x1 h2 h1 sM lM last first xl y0 zY zX k1 bg' bl' hk' keyA e2 k0 bg bl hk keyB e1 sz hz n2 n1;omega))
 have fin2:∀(M:Array Keyed) (st2:SortSt),Still κ a₀ st1 st2→Fin (RK kf) X.toList Y.toList M.toList→failedOf (setArr st2 (M.toList.zipIdx.foldl (fun a x=>a.setIfInBounds (sa+k+x.2) x.1) (arrOf st2)))=none:=fun M st2 S _=>S.sb.failed
 by_cases le:na-k≤k'
 ·refine AY le ?_
  refine wpS_bind (N8 C B1 inX inY (by (clear le xl y0 bg' bl' hk' keyA e2 bg bl keyB e1 sz hz n2;omega)) (by (clear le last xl y0 zX bg' bl' hk' keyA e2 k0 bg bl keyB e1 sz hz n2 n1;omega)) pX pY first last fun M st2 S f=>?_)
  refine wpS_bind (wpS_modify (wpS_bind (wpS_get ?_)))
  have:=fin M st2 S f
  have e:=fin2 M st2 S f
  refine wpS_pure ?_
  show Q (failedOf (setArr st2 _)).isNone _
  rw [e]
  exact this
 ·refine Ac le ?_
  refine wpS_bind (N9 C B1 inX inY (by (clear last first xl y0 k1 bg' bl' hk' keyA e2 k0 bg bl hk keyB e1 sz hz n2 n1;omega)) (by (clear le last xl y0 zX bg' bl' hk' keyA e2 k0 bg bl keyB e1 sz hz n2 n1;omega)) pX pY first last fun M st2 S f=>?_)
  refine wpS_bind (wpS_modify (wpS_bind (wpS_get ?_)))
  have:=fin M st2 S f
  have e:=fin2 M st2 S f
  refine wpS_pure ?_
  show Q (failedOf (setArr st2 _)).isNone _
  rw [e]
  exact this
def Chain (kf:Value→O.α) (xs:Array Keyed):Nat→List (Nat×Nat×Nat)→Nat→Prop
 | x,[],y=>x=y
 | x,(s,n,_)::r,y=>s=x/\1≤n/\Up kf xs s (s+n)/\Chain kf xs (x+n) r y
theorem Chain.le {xs:Array Keyed}:∀{l:List (Nat×Nat×Nat)}{x y:Nat},Chain kf xs x l y→x+l.length≤y
 | [],x,y,h=>by have h:x=y:=h;simp;omega
 | (s,n,p)::r,x,y,h=>by
  obtain ⟨_,h1,_,h2⟩:=h
  have:=Chain.le h2
  rw [List.length_cons]
  omega
theorem Chain.app {xs:Array Keyed}:∀{l m:List (Nat×Nat×Nat)}{x z:Nat},Chain kf xs x (l++m) z↔∃y,Chain kf xs x l y/\Chain kf xs y m z
 | [],m,x,z=>⟨fun h=>⟨x,rfl,h⟩,fun ⟨y,h1,h2⟩=>by have h1:x=y:=h1;rw [h1];exact h2⟩
 | (s,n,p)::r,m,x,z=>by
  constructor
  ·rintro ⟨h1,h2,h3,h4⟩
   obtain ⟨y,h5,h6⟩:=Chain.app.mp h4
   exact ⟨y,⟨h1,h2,h3,h5⟩,h6⟩
  ·rintro ⟨y,⟨h1,h2,h3,h5⟩,h6⟩
   exact ⟨h1,h2,h3,Chain.app.mpr ⟨y,h5,h6⟩⟩
theorem Chain.keep {xs ys:Array Keyed}:∀{l:List (Nat×Nat×Nat)}{x y:Nat},Chain kf xs x l y→(∀k,x≤k→k<y→KX kf ys k=KX kf xs k)→Chain kf ys x l y
 | [],x,y,h,_=>h
 | (s,n,p)::r,x,y,⟨h1,h2,h3,h4⟩,k=>by
  have:=Chain.le h4
  subst h1
  exact ⟨rfl,h2,fun i j q1 q2 q3=>by rw [k i q1 (by omega),k j (by omega) (by omega)];exact h3 i j q1 q2 q3,Chain.keep h4 fun z z1 z2=>k z (by omega) z2⟩
theorem PZ (C:Cmp prog w A s κ O kf a₀) (B:SB κ a₀ st) {i hi:Nat}(c:Chain kf (arrOf st) 0 (pendingOf st).toList hi) (h1:i+1<(pendingOf st).size) (hz:hi≤a₀.size) {Q:Bool→SortSt→Prop}
  (h:∀st',SB κ a₀ st'→(pendingOf st').size+1=(pendingOf st).size→Chain kf (arrOf st') 0 (pendingOf st').toList hi→(∀k,hi≤k→KX kf (arrOf st') k=KX kf (arrOf st) k)→Q true st'):wpS (model prog w) A E s (mergeAt' i) Q st:=by
 obtain ⟨⟨sa,na,pw⟩,e1⟩:∃x,(pendingOf st)[i]?=some x:=⟨_,getElem?_pos _ i (by omega)⟩
 obtain ⟨⟨sb,nb,pw'⟩,e2⟩:∃x,(pendingOf st)[i+1]?=some x:=⟨_,getElem?_pos _ (i+1) h1⟩
 have sp:(pendingOf st).toList=(pendingOf st).toList.take i++(sa,na,pw)::(sb,nb,pw')::(pendingOf st).toList.drop (i+2):=by
  have l1:i<(pendingOf st).toList.length:=by simp;omega
  have l2:i+1<(pendingOf st).toList.length:=by simp;omega
  conv=>lhs;rw [←List.take_append_drop i (pendingOf st).toList]
  congr 1
  rw [List.drop_eq_getElem_cons l1,List.drop_eq_getElem_cons l2]
  have g1:(pendingOf st).toList[i]=(sa,na,pw):=by
   rw [←Array.getElem?_toList,List.getElem?_eq_getElem l1] at e1
   exact Option.some.inj e1
  have g2:(pendingOf st).toList[i+1]=(sb,nb,pw'):=by
   rw [←Array.getElem?_toList,List.getElem?_eq_getElem l2] at e2
   exact Option.some.inj e2
  rw [g1,g2]
 have ln:((pendingOf st).toList.take i).length=i:=by simp;omega
 generalize (pendingOf st).toList.take i=l1 at sp ln
 generalize (pendingOf st).toList.drop (i+2)=l2 at sp
 rw [sp] at c
 obtain ⟨y,c1,⟨q1,q2,q3,⟨q4,q5,q6,c2⟩⟩⟩:=Chain.app.mp c
 subst q1 q4
 have le1:=c2.le
 refine OA C B e1 e2 q2 q5 (by omega) q3 q6 fun st' B' pe u k=>h st' B' ?_ ?_ fun z hz'=>k z (.inr (by omega))
 ·have l0:(pendingOf st').toList.length+1=(pendingOf st).toList.length:=by
   rw [pe]
   simp only [Array.toList_eraseIdxIfInBounds,Array.toList_setIfInBounds]
   rw [List.length_eraseIdx_of_lt (by simp;omega),List.length_set]
   have:0<(pendingOf st).toList.length:=by simp;omega
   (clear le1 q5 q2 ln hz h1;omega)
  simpa using l0
 ·have pl:(pendingOf st').toList=l1++(sa,na+nb,pw)::l2:=by
   rw [pe]
   simp only [Array.toList_eraseIdxIfInBounds,Array.toList_setIfInBounds,sp]
   rw [List.set_append_right _ _ (by omega),ln,Nat.sub_self,List.set_cons_zero,List.eraseIdx_append_of_length_le (by omega),ln]
   simp
  rw [pl]
  refine Chain.app.mpr ⟨sa,c1.keep fun z _ z2=>k z (.inl z2),rfl,by omega,u,?_⟩
  rw [show sa+(na+nb)=sa+na+nb by omega]
  exact c2.keep fun z z1 _=>k z (.inr z1)
theorem Chain.same {xs:Array Keyed}:∀{l m:List (Nat×Nat×Nat)}{x y:Nat},l.map (fun v=>(v.1,v.2.1))=m.map (fun v=>(v.1,v.2.1))→Chain kf xs x l y→Chain kf xs x m y
 | [],[],_,_,_,h=>h
 | [],_::_,_,_,e,_=>by cases e
 | _::_,[],_,_,e,_=>by cases e
 | (a,n,p)::l,(b,k,q)::m,x,y,e,⟨h1,h2,h3,h4⟩=>by
  have e:=List.cons.inj e
  have e1:(a,n)=(b,k):=e.1
  cases e1
  exact ⟨h1,h2,h3,Chain.same e.2 h4⟩
theorem Ld {st3:SortSt}{lo m x:Nat}(B3:SB κ a₀ st3) (c3:Chain kf (arrOf st3) 0 (pendingOf st3).toList lo) (u3:Up kf (arrOf st3) lo (lo+m)) (h1:1≤m) (h2:lo+m≤a₀.size) (hx:x≤lo\/a₀.size≤lo) :
  SB κ a₀ (setPending st3 ((pendingOf st3).push (lo,m,0)))/\∃lo',((none,lo+m):Option Unit×Nat)=(none,lo')/\(x+1≤lo'\/a₀.size≤lo')/\lo'≤a₀.size/\Chain kf (arrOf (setPending st3 ((pendingOf st3).push (lo,m,0)))) 0 (pendingOf (setPending st3 ((pendingOf st3).push (lo,m,0)))).toList lo':=by
 refine ⟨⟨B3.perm,B3.kind,B3.failed⟩,lo+m,rfl,by omega,h2,?_⟩
 show Chain kf (arrOf st3) 0 ((pendingOf st3).push (lo,m,0)).toList (lo+m)
 rw [Array.toList_push]
 exact Chain.app.mpr ⟨lo,c3,rfl,h1,u3,rfl⟩
theorem PV (C:Cmp prog w A s κ O kf a₀) (B:SB κ a₀ st) (p0:pendingOf st=#[]) {Q:Unit→SortSt→Prop}
    (h:∀st',SB κ a₀ st'→Up kf (arrOf st') 0 a₀.size→Q () st'):wpS (model prog w) A E s sortRuns' Q st:=by
  rw [sortRuns'_eq]
  refine wpS_bind (wpS_get ?_)
  dsimp only
  simp only [B.size]
  generalize minRun' a₀.size a₀.size 0=mr
  refine wpS_bind (wpS_mono (wpS_forRange
    (I:=fun x c st'=>SB κ a₀ st'/\∃lo,c=(none,lo)/\(x≤lo\/a₀.size≤lo)/\lo≤a₀.size/\Chain kf (arrOf st') 0 (pendingOf st').toList lo)
    (Q:=fun c st'=>SB κ a₀ st'/\c=(none,a₀.size)/\Chain kf (arrOf st') 0 (pendingOf st').toList a₀.size) ?step ?fin ?init) ?post)
  case init=>exact ⟨B,0,rfl,.inl (Nat.le_refl _),Nat.zero_le _,by rw [p0];rfl⟩
  case fin =>
    rintro c st' ⟨B',lo,rfl,q1,q2,c⟩
    obtain rfl:lo=a₀.size:=by omega
    exact ⟨B',rfl,c⟩
  case post =>
    rintro c st' ⟨B',rfl,c⟩
    dsimp only
    refine wpS_bind (wpS_mono (wpS_forRange
      (I:=fun x c st2=>c=(none,())/\SB κ a₀ st2/\Chain kf (arrOf st2) 0 (pendingOf st2).toList a₀.size/\((pendingOf st2).size+x≤a₀.size\/(pendingOf st2).size≤1))
      (Q:=fun c st2=>c=(none,())/\SB κ a₀ st2/\Chain kf (arrOf st2) 0 (pendingOf st2).toList a₀.size/\(pendingOf st2).size≤1) ?t1 ?t2 ?t3) ?t4)
    case t3=>exact ⟨rfl,B',c,.inl (by have:=c.le;simp at this;omega)⟩
    case t2 =>
      rintro c2 st2 ⟨rfl,B2,c2,q⟩
      exact ⟨rfl,B2,c2,by omega⟩
    case t4 =>
      rintro c2 st2 ⟨rfl,B2,c2,q⟩
      refine wpS_pure (h st2 B2 ?_)
      generalize (pendingOf st2)=P at c2 q
      obtain ⟨l⟩:=P
      match l,q,c2 with
      | [],_,c2 =>
        have c2:0=a₀.size:=c2
        intro i j _ _ q3
        omega
      | [(a,n,p)],_,c2 =>
        obtain ⟨e1,_,u,e2⟩:=c2
        have e2:0+n=a₀.size:=e2
        subst e1
        rw [←e2]
        exact u
    case t1 =>
      rintro x c2 st2 _ hx ⟨rfl,B2,c2,q⟩
      refine wpS_bind (wpS_get ?_)
      by_cases z:(pendingOf st2).size≤1
      · refine AY z ?_
        exact wpS_pure ⟨rfl,B2,c2,z⟩
      · refine Ac z ?_
        generalize hi:(if Option.any (fun x=>decide (x<(pendingOf st2)[(pendingOf st2).size-2+1]?.elim 0 (fun x=>x.2.1))) (if (pendingOf st2).size-2 > 0 then Option.map (fun x=>x.2.1) (pendingOf st2)[(pendingOf st2).size-2-1]? else none)=true then (pendingOf st2).size-2-1 else (pendingOf st2).size-2)=i
        have aux:∀(c:Prop) [Decidable c] (u v N:Nat),u+1<N→v+1<N→(if c then u else v)+1<N:=fun c _ u v N h1 h2=>by split <;> assumption
        refine wpS_bind (PZ C B2 c2 (by rw [←hi];exact aux _ _ _ _ (by omega) (by omega)) (Nat.le_refl _) fun st3 B3 z3 c3 _=>?_)
        exact wpS_pure ⟨rfl,B3,c3,by omega⟩
  case step =>
    rintro x c st' _ hx ⟨B',lo,rfl,q1,q2,c⟩
    dsimp only
    by_cases z:lo≥a₀.size
    · refine AY z ?_
      obtain rfl:lo=a₀.size:=by omega
      exact wpS_pure ⟨B',rfl,c⟩
    refine Ac z ?_
    refine wpS_bind (RL C (by omega) (by omega) B' fun n st2 B2 K2 n1 n2 u2=>?_)
    have c2:Chain kf (arrOf st2) 0 (pendingOf st2).toList lo:=by
      rw [K2.pend]
      exact c.keep fun k _ k2=>A5 (K2.low k k2)
    dsimp only
    by_cases hm:n<mr
    all_goals first
      | (refine AY hm ?_
         refine wpS_bind (wpS_lift (wpAny_rule ⟨rfl,?_⟩))
         refine wpS_bind (Pa C (by omega) (by omega) B2 u2 fun st3 B3 K3 u3=>?_)
         refine Ac (by simp) ?_
         have n3:1≤min (a₀.size-lo) mr/\lo+min (a₀.size-lo) mr≤a₀.size:=by omega
         have c3:Chain kf (arrOf st3) 0 (pendingOf st3).toList lo:=by
           rw [K3.pend]
           exact c2.keep fun k _ k2=>A5 (K3.low k k2)
         generalize min (a₀.size-lo) mr=m at u3 n3 ⊢)
      | (refine Ac hm ?_
         have n3:1≤n/\lo+n≤a₀.size:=by omega
         have B3:=B2
         have c3:=c2
         have u3:=u2
         generalize n=m at u3 n3 ⊢
         generalize st2=st3 at B3 c3 u3 ⊢)
    all_goals
      refine wpS_bind (wpS_get ?_)
      cases hb:(pendingOf st3).back? with
      | none=>exact wpS_bind (wpS_modify (wpS_pure (Ld B3 c3 u3 n3.1 n3.2 (by omega))))
      | some b =>
        obtain ⟨s1,m1,pw⟩:=b
        dsimp only
        generalize power' a₀.size (2 * s1+m1) (2 * s1+m1+m1+m) a₀.size=pp
        refine wpS_bind (wpS_mono (wpS_forRange
          (I:=fun _ c st4=>c=(none,())/\SB κ a₀ st4/\Chain kf (arrOf st4) 0 (pendingOf st4).toList lo/\Up kf (arrOf st4) lo (lo+m))
          (Q:=fun c st4=>c=(none,())/\SB κ a₀ st4/\Chain kf (arrOf st4) 0 (pendingOf st4).toList lo/\Up kf (arrOf st4) lo (lo+m)) ?r1 (fun _ _ q=>q) ⟨rfl,B3,c3,u3⟩) ?r2)
        case r1 =>
          rintro y c4 st4 _ hy ⟨rfl,B4,c4,u4⟩
          refine wpS_bind (wpS_get ?_)
          by_cases z4:(pendingOf st4).size > 1
          · have e4:=getElem?_pos (pendingOf st4) ((pendingOf st4).size-2) (by (clear hy n3 hm n2 n1 z q2 q1 hx;omega))
            simp only [if_pos z4,e4]
            split
            · exact wpS_pure ⟨rfl,B4,c4,u4⟩
            · refine wpS_bind (PZ C B4 c4 (by (clear hy n3 hm n2 n1 z q2 q1 hx;omega)) q2 fun st5 B5 z5 c5 k5=>?_)
              exact wpS_pure ⟨rfl,B5,c5,fun i j w1 w2 w3=>by rw [k5 i w1,k5 j (by (clear w3 z5 hy n3 hm n2 n1 z q2 q1 hx;omega))];exact u4 i j w1 w2 w3⟩
          · simp only [if_neg z4]
            exact wpS_pure ⟨rfl,B4,c4,u4⟩
        case r2 =>
          rintro c4 st4 ⟨rfl,B4,c4,u4⟩
          dsimp only
          refine wpS_bind (wpS_modify (wpS_bind (wpS_modify (wpS_pure ?_))))
          have B5:SB κ a₀ (setPending st4 ((pendingOf st4).modify ((pendingOf st4).size-1) fun x=>(x.1,x.2.1,pp))):=⟨B4.perm,B4.kind,B4.failed⟩
          refine Ld B5 ?_ u4 n3.1 n3.2 (by omega)
          refine Chain.same (l:=(pendingOf st4).toList) ?_ c4
          show _=((pendingOf st4).modify ((pendingOf st4).size-1) fun x=>(x.1,x.2.1,pp)).toList.map _
          rw [Array.toList_modify]
          refine List.ext_getElem? fun k=>?_
          rw [List.getElem?_map,List.getElem?_map,List.getElem?_modify]
          cases (pendingOf st4).toList[k]? with
          | none=>rfl
          | some v =>
            show some _=some _
            by_cases w:(pendingOf st4).size-1=k
            · simp [w]
            · simp [w]
end
end Srt
namespace L2
open PySem PySem.Spec PyProof.Rows
def kLt:Key→Key→Bool
 | .inl a,.inl b=>decide (a<b)
 | .inl _,.inr _=>true
 | .inr _,.inl _=>false
 | .inr x,.inr y=>decide (x.cps.toList<y.cps.toList)
theorem Kx:∀a,kLt a a=false
 | .inl a=>decide_eq_false (Int.lt_irrefl a)
 | .inr x=>decide_eq_false (List.lt_irrefl _)
theorem OY:∀{a b c},kLt a b=true→kLt b c=true→kLt a c=true
 | .inl a,.inl b,.inl c,h1,h2=>decide_eq_true (Int.lt_trans (of_decide_eq_true h1) (of_decide_eq_true h2))
 | .inl _,.inl _,.inr _,_,_=>rfl
 | .inl _,.inr _,.inr _,_,_=>rfl
 | .inr x,.inr y,.inr z,h1,h2=>decide_eq_true (List.lt_trans (of_decide_eq_true h1) (of_decide_eq_true h2))
theorem OZ:∀{a b},kLt a b=false→kLt b a=false→a=b
 | .inl a,.inl b,h1,h2=>by
  have h1:=of_decide_eq_false h1
  have h2:=of_decide_eq_false h2
  rw [show a=b by omega]
 | .inr x,.inr y,h1,h2=>by
  have h1:=of_decide_eq_false h1
  have h2:=of_decide_eq_false h2
  rw [Qz (List.le_antisymm (List.not_lt.mp h2) (List.not_lt.mp h1))]
def BG:List Key→List Key→Bool
 | [],[]=>false
 | [],_::_=>true
 | _::_,[]=>false
 | a::x,b::y=>if a=b then BG x y else kLt a b
theorem L7:∀x,BG x x=false
 | []=>rfl
 | a::x=>by rw [BG,if_pos rfl];exact L7 x
theorem F5:∀{x y z},BG x y=true→BG y z=true→BG x z=true
 | [],[],_,h,_=>by cases h
 | [],_::_,[],_,h=>by cases h
 | [],_::_,_::_,_,_=>rfl
 | _::_,[],_,h,_=>by cases h
 | _::_,_::_,[],_,h=>by cases h
 | a::x,b::y,c::z,h1,h2=>by
  unfold BG at h1 h2 ⊢
  by_cases e1:a=b
  ·subst e1
   rw [if_pos rfl] at h1
   by_cases e2:a=c
   ·subst e2
    rw [if_pos rfl] at h2 ⊢
    exact F5 h1 h2
   ·rw [if_neg e2] at h2 ⊢
    exact h2
  ·rw [if_neg e1] at h1
   by_cases e2:b=c
   ·subst e2
    rw [if_neg e1]
    exact h1
   ·rw [if_neg e2] at h2
    have h3:=OY h1 h2
    have:a≠c:=fun e=>by rw [e,Kx] at h3;cases h3
    rw [if_neg this]
    exact h3
theorem EY:∀{x y},BG x y=false→BG y x=false→x=y
 | [],[],_,_=>rfl
 | [],_::_,h,_=>by cases h
 | _::_,[],_,h=>by cases h
 | a::x,b::y,h1,h2=>by
  unfold BG at h1 h2
  by_cases e:a=b
  ·subst e
   rw [if_pos rfl] at h1 h2
   rw [EY h1 h2]
  ·rw [if_neg e] at h1
   rw [if_neg (fun z=>e z.symm)] at h2
   exact absurd (OZ h1 h2) e
@[reducible] def lexOrd:KeyOrd where
 α:=List Key
 blt:=BG
 irrefl:=L7
 trans _ _ _:=F5
 negTrans a b c h:=by
  cases e:BG a b with
  | true=>exact .inl rfl
  | false =>
   cases e2:BG b a with
   | true=>exact .inr (F5 e2 h)
   | false=>rw [←EY e e2];exact .inr h
 total _ _:=EY
def A6:Value→Key
 | .int i _=>.inl i
 | .str x _=>.inr x
 | _=>.inl 0
def kfH (h:Heap):Value→List Key
 | .int i _=>[.inl i]
 | .str x _=>[.inr x]
 | .ref a=>match h.get? a with
  | some o=>match o.data with
   | .seq xs _=>xs.toList.map A6
   | _=>[]
  | none=>[]
 | _=>[]
end L2
namespace Srt
open PySem PyProof.Rows
section
variable {prog:Program}{w:World}{A:Around}{E:Value→Shared→Prop}{s:Shared}{O:KeyOrd}
theorem EO {a:Addr}{vs:List Value}{n:Nat}{P:PySem.Fin→Shared→Prop}(ho:s.heap.get? a=some (seqObj "list" vs.toArray n)) (hz:vs.length≤sizeLine) (kf:Value→O.α)
  (cmp:∀h',(∀b o,b≠a→s.heap.get? b=some o→h'.get? b=some o)→2≤vs.length→∃κ,(∀(Q:SortKind→Shared→Prop) (E:Value→Shared→Prop),Q κ { s with heap:=h' }→wpAny (model prog w) A (keyKind' vs.toArray) Q E { s with heap:=h' })/\Cmp prog w A { s with heap:=h' } κ O kf (pairsOf vs))
  (h:∀out:Array Keyed,out.Perm (pairsOf vs)→Up kf out 0 (pairsOf vs).size→P (.done (.ret .none)) { s with heap:=sortedHeap s.heap a vs (out.map (·.2)) }) :
  wpAny (model prog w) A (Builtin.«list.sort» ⟨[.ref a],[]⟩) P E s:=by
 rw [list_sort_plain]
 have ha:a<s.heap.objs.size:=Heap.lt_size ho
 refine wpAny_bind (listItems_at ho rfl (wpAny_bind (listUpdate_at ho rfl ?_)))
 obtain ⟨e1,ho1⟩:∃e1,(s.heap.update a (Obj.mapSeq fun _=>#[])).get? a=some (seqObj "list" #[] e1):=⟨_,get?_update_seq ho (fun _=>#[])⟩
 refine wpAny_bind (seqEpoch_at ho1 rfl (wpAny_bind (wpAny_newTuple (wpAny_bind (wpAny_newList (wpAny_holding ?_))))))
 generalize hh:((s.heap.update a (Obj.mapSeq fun _=>#[])).push (seqObj "tuple" vs.toArray 0)).push (seqObj "list" #[] 0)=h2
 have kp:∀b o,b≠a→s.heap.get? b=some o→h2.get? b=some o:=fun b o hb q=>by
  rw [←hh]
  exact Heap.get?_push_of_some _ (Heap.get?_push_of_some _ ((Heap.get?_update_ne _ _ _ _ hb).trans q))
 have ho6:h2.get? a=some (seqObj "list" #[] e1):=by
  rw [←hh]
  exact Heap.get?_push_of_some _ (Heap.get?_push_of_some _ ho1)
 have fin:∀out:Array Keyed,out.Perm (pairsOf vs)→Up kf out 0 (pairsOf vs).size→P (.done (.ret .none)) { s with heap:=h2.update a (Obj.mapSeq fun _=>out.map (·.2)) }:=fun out h1 h3=>by
  have:=h out h1 h3
  unfold sortedHeap at this
  rw [hh] at this
  exact this
 show wpAny (model prog w) A _ P E { s with heap:=h2 }
 dsimp only
 by_cases h2':vs.toArray.size<2
 ·rw [if_pos h2',if_pos h2']
  refine wpAny_bind (wpAny_pure ?_)
  rw [StateT.run_pure]
  refine wpAny_bind (wpAny_pure ?_)
  dsimp only
  refine wpAny_bind (seqEpoch_at ho6 rfl (wpAny_bind (listUpdate_at ho6 rfl ?_ (hsz2:=by rw [Array.size_map];show (pairsOf vs).size≤_;rw [pairsOf_size];omega))))
  simp only [bne_self_eq_false,Bool.false_eq_true,if_false]
  refine wpAny_pure (fin (vs.toArray.zip vs.toArray) (Array.Perm.refl _) fun i j _ q1 q2=>?_)
  rw [pairsOf_size] at q2
  have hsz:vs.toArray.size=vs.length:=by simp
  obtain rfl:i=j:=by omega
  exact KeyOrd.kle_refl _
 ·rw [if_neg h2',if_neg h2']
  obtain ⟨κ,kk,C⟩:=cmp h2 kp (by simpa using h2')
  refine wpAny_bind (kk _ _ ?_)
  refine wpAny_bind (wpAny_mono (PV C (st:=SortSt.mk' κ (pairsOf vs) #[] 7 none) (Q:=fun _ st'=>SB κ (pairsOf vs) st'/\Up kf (arrOf st') 0 (pairsOf vs).size) ⟨Array.Perm.refl _,rfl,rfl⟩ rfl fun st' B u=>⟨B,u⟩) ?_ fun _ _ e=>e)
  rintro ⟨⟨⟩,st'⟩ s' ⟨rfl,B,u⟩
  dsimp only
  refine wpAny_bind (seqEpoch_at ho6 rfl (wpAny_bind (listUpdate_at ho6 rfl ?_ (hsz2:=by refine Nat.le_trans (Nat.le_of_eq ((Array.size_map ..).trans (B.perm.size_eq.trans (pairsOf_size _)))) ?_;omega))))
  rw [B.failed]
  simp only [bne_self_eq_false,Bool.false_eq_true,if_false]
  exact wpAny_pure (fin _ B.perm u)
end
end Srt
namespace L2
open PySem PySem.Spec PyProof.Rows
def isI:Key→Bool
 | .inl _=>true
 | .inr _=>false
def Bz:Value→Prop
 | .int _ _=>True
 | .str _ _=>True
 | _=>False
section
variable {prog:Program}{w:World}{A:Around}{E:Value→Shared→Prop}{s:Shared}{b:Bool}{Q:Bool→Shared→Prop}
theorem TF (c:Bool) {x y:Value}(hx:Bz x) (hy:Bz y) (hs:isI (A6 x)=isI (A6 y)) (h:Q (kLt (A6 x) (A6 y)) s):wpAny (model prog w) A (oneLt' c x y) Q E s:=by
 cases x <;> first|exact hx.elim|skip
 all_goals (cases y <;> first|exact hy.elim|exact Bool.noConfusion (show true=false from hs)|exact Bool.noConfusion (show false=true from hs)|skip)
 ·cases c with
  | true=>exact oneLt_int h
  | false=>exact PySem.W.kat_one _ _ (PyProof.Rows.lt_int h)
 ·cases c with
  | true=>exact oneLt_str h
  | false=>exact PySem.W.kat_one _ _ (PyProof.Rows.lt_str h)
theorem QZ {x y:Value}(hx:Bz x) (hy:Bz y) (hs:isI (A6 x)=isI (A6 y)) (h:Q (decide (A6 x=A6 y)) s):wpAny (model prog w) A (eqBool x y) Q E s:=by
 cases x <;> first|exact hx.elim|skip
 all_goals (cases y <;> first|exact hy.elim|exact Bool.noConfusion (show true=false from hs)|exact Bool.noConfusion (show false=true from hs)|skip)
 ·rename_i a t c u
  refine MeetsSeq.EqGives.int a c t u prog w A E s Q ?_
  have e:(a==c)=decide (A6 (.int a t)=A6 (.int c u)):=by
   show (a==c)=decide ((Sum.inl a:Key)=Sum.inl c)
   by_cases z:a=c
   ·subst z;simp
   ·rw [decide_eq_false (fun q=>z (Sum.inl.inj q))];simpa using z
  rw [e]
  exact h
 ·rename_i a t c u
  refine eqGives_str a c t u prog w A E s Q ?_
  have e:(a==c)=decide (A6 (.str a t)=A6 (.str c u)):=by
   show (a==c)=decide ((Sum.inr a:Key)=Sum.inr c)
   by_cases z:a=c
   ·subst z;simp
   ·rw [decide_eq_false (fun q=>z (Sum.inr.inj q))];simpa using z
  rw [e]
  exact h
theorem L6:∀(xs ys:List Value) (i:Nat),(∀v∈xs,Bz v)→(∀v∈ys,Bz v)→xs.map (fun v=>isI (A6 v))=ys.map (fun v=>isI (A6 v))→Q (BG (xs.map A6) (ys.map A6)) s→PySem.W.KatLex prog w A b false Q (xs.zip ys) i s
 | [],[],_,_,_,_,h=>PySem.W.kat_nil h
 | [],_::_,_,_,_,e,_=>by cases e
 | _::_,[],_,_,_,e,_=>by cases e
 | x::xs,y::ys,i,hx,hy,e,h=>by
  obtain ⟨e1,e2⟩:=List.cons.inj e
  have fx:=hx x List.mem_cons_self
  have fy:=hy y List.mem_cons_self
  have h:Q (if A6 x=A6 y then BG (xs.map A6) (ys.map A6) else kLt (A6 x) (A6 y)) s:=h
  refine PySem.W.kat_cons (QZ fx fy e1 (PySem.W.kat_go (fun q=>?_) fun q=>?_))
  ·rw [if_pos (of_decide_eq_true q)] at h
   exact PySem.W.kat_yes (L6 xs ys _ (fun v hv=>hx v (List.mem_cons_of_mem _ hv)) (fun v hv=>hy v (List.mem_cons_of_mem _ hv)) e2 h)
  ·rw [if_neg (of_decide_eq_false q)] at h
   exact PySem.W.kat_no (TF _ fx fy e1 h)
end
def HZ (h:Heap) (u:Value) (ks:List Key):Prop:=∃a o items m,u=.ref a/\h.get? a=some o/\o.cls=.type "tuple" /\ o.data=.seq items m/\items.toList.map A6=ks/\∀v∈items.toList,Bz v
theorem HZ.kf {h:Heap}{u:Value}{ks:List Key}(t:HZ h u ks):kfH h u=ks:=by
 obtain ⟨a,o,items,m,rfl,e,_,d,k,_⟩:=t
 simp only [kfH,e,d]
 exact k
inductive CL (h:Heap):List Value→List (List Key)→Prop
 | cI {vs kss}:vs.length=kss.length→(∀(i:Nat) u ks,vs[i]?=some u→kss[i]?=some ks→∃n t,u=.int n t/\ks=[.inl n])→CL h vs kss
 | cS {vs kss}:vs.length=kss.length→(∀(i:Nat) u ks,vs[i]?=some u→kss[i]?=some ks→∃n t,u=.str n t/\ks=[.inr n])→CL h vs kss
 | cT {vs kss} (sh:List Bool):vs.length=kss.length→sh≠[]→(∀(i:Nat) u ks,vs[i]?=some u→kss[i]?=some ks→HZ h u ks/\ks.map isI=sh)→CL h vs kss
theorem CL.len {h:Heap}{vs:List Value}{kss:List (List Key)}(x:CL h vs kss):vs.length=kss.length:=by cases x <;> assumption
theorem CL.kf {h:Heap}{vs:List Value}{kss:List (List Key)}(x:CL h vs kss):∀(i:Nat) u ks,vs[i]?=some u→kss[i]?=some ks→kfH h u=ks:=by
 intro i u ks e1 e2
 cases x with
 | cI _ f=>obtain ⟨n,t,rfl,rfl⟩:=f i u ks e1 e2;rfl
 | cS _ f=>obtain ⟨n,t,rfl,rfl⟩:=f i u ks e1 e2;rfl
 | cT _ _ _ f=>exact (f i u ks e1 e2).1.kf
theorem F4 {α β:Type}{l:List α}{m:List β}(hl:l.length=m.length) {x:α}(h:x∈l):∃(i:Nat) (y:β),l[i]?=some x/\m[i]?=some y:=by
 obtain ⟨i,hi,e⟩:=List.mem_iff_getElem.mp h
 exact ⟨i,m[i]'(by omega),by rw [List.getElem?_eq_getElem hi,e],List.getElem?_eq_getElem _⟩
theorem CL.cmp {prog:Program}{w:World}{A:Around}{s:Shared}{h:Heap}{vs:List Value}{kss:List (List Key)}(x:CL h vs kss) (h2:2≤vs.length) (kp:∀a o items m,.ref a∈vs→h.get? a=some o→o.cls=.type "tuple" → o.data=.seq items m→s.heap.get? a=some o) :
  ∃κ,(∀(Q:SortKind→Shared→Prop) (E:Value→Shared→Prop),Q κ s→wpAny (model prog w) A (keyKind' vs.toArray) Q E s)/\Srt.Cmp prog w A s κ lexOrd (kfH h) (pairsOf vs):=by
 have mp:∀p∈(pairsOf vs).toList,p.1∈vs:=fun p hp=>by rw [pairsOf_toList] at hp;exact (mem_zip_self hp).2
 cases x with
 | cI hl f =>
  refine ⟨oneType',fun Q E q=>PySem.W.kas_kind (T:=.type "int") h2 (fun v hv=>?_) (by decide) (by decide) q,⟨fun p hp q hq Q E k=>?_⟩⟩
  ·obtain ⟨i,ks,e1,e2⟩:=F4 hl hv
   obtain ⟨n,t,rfl,_⟩:=f i _ _ e1 e2
   exact .now
  ·obtain ⟨i,ks,e1,e2⟩:=F4 hl (mp p hp)
   obtain ⟨j,ls,e3,e4⟩:=F4 hl (mp q hq)
   obtain ⟨n,t,u1,_⟩:=f i _ _ e1 e2
   obtain ⟨m,t',u2,_⟩:=f j _ _ e3 e4
   rw [u1,u2] at k ⊢
   rw [keyLt'_oneType]
   refine oneLt_int ?_
   have e:decide (n<m)=BG [.inl n] [.inl m]:=by
    show _=if (Sum.inl n:Key)=Sum.inl m then false else decide (n<m)
    split
    ·rename_i z
     have z:=Sum.inl.inj z
     rw [z];exact decide_eq_false (Int.lt_irrefl m)
    ·rfl
   rw [e]
   exact k
 | cS hl f =>
  refine ⟨oneType',fun Q E q=>PySem.W.kas_kind (T:=.type "str") h2 (fun v hv=>?_) (by decide) (by decide) q,⟨fun p hp q hq Q E k=>?_⟩⟩
  ·obtain ⟨i,ks,e1,e2⟩:=F4 hl hv
   obtain ⟨n,t,rfl,_⟩:=f i _ _ e1 e2
   exact .now
  ·obtain ⟨i,ks,e1,e2⟩:=F4 hl (mp p hp)
   obtain ⟨j,ls,e3,e4⟩:=F4 hl (mp q hq)
   obtain ⟨n,t,u1,_⟩:=f i _ _ e1 e2
   obtain ⟨m,t',u2,_⟩:=f j _ _ e3 e4
   rw [u1,u2] at k ⊢
   rw [keyLt'_oneType]
   refine oneLt_str ?_
   have e:decide (n.cps.toList<m.cps.toList)=BG [.inr n] [.inr m]:=by
    show _=if (Sum.inr n:Key)=Sum.inr m then false else decide (n.cps.toList<m.cps.toList)
    split
    ·rename_i z
     have z:=Sum.inr.inj z
     rw [z];exact decide_eq_false (List.lt_irrefl _)
    ·rfl
   rw [e]
   exact k
 | cT sh hl hn f =>
  have at':∀u∈vs,∃ks,HZ s.heap u ks/\kfH h u=ks/\ks.map isI=sh:=fun u hu=>by
   obtain ⟨i,ks,e1,e2⟩:=F4 hl hu
   obtain ⟨t,z⟩:=f i u ks e1 e2
   refine ⟨ks,?_,t.kf,z⟩
   obtain ⟨a,o,items,m,rfl,e,c,d,r⟩:=t
   exact ⟨a,o,items,m,rfl,kp a o items m hu e c d,c,d,r⟩
  refine ⟨tuples' true,fun Q E q=>?_,⟨fun p hp q hq Q E k=>?_⟩⟩
  ·-- the kind,by the firsts
   have key:∀(l:List Value),(∀u∈l,u∈vs)→∃fs,PySem.W.KatTups s.heap l fs/\fs.length=l.length/\∀v∈fs,Bz v/\isI (A6 v)=sh.headD true:=fun l=>by
    induction l with
    | nil=>exact fun _=>⟨[],trivial,rfl,fun v hv=>by cases hv⟩
    | cons u l ih =>
     intro hu
     obtain ⟨fs,k1,k2,k3⟩:=ih fun v hv=>hu v (List.mem_cons_of_mem _ hv)
     obtain ⟨ks,⟨a,o,items,m,rfl,e,c,d,r,fl⟩,_,z⟩:=at' u (hu u List.mem_cons_self)
     obtain ⟨l0⟩:=items
     match l0,r,fl with
     | [],r,_ =>
      have r:[]=ks:=r
      rw [←r] at z
      exact absurd z.symm hn
     | f0::l1,r,fl =>
      refine ⟨f0::fs,PySem.W.KatTups.cons e c d rfl k1,by rw [List.length_cons,List.length_cons,k2],fun v hv=>?_⟩
      rcases List.mem_cons.mp hv with rfl|hv
      ·refine ⟨fl _ (by simp),?_⟩
       have r:A6 v::l1.map A6=ks:=r
       rw [←z,←r]
       rfl
      ·exact k3 v hv
   obtain ⟨fs,k1,k2,k3⟩:=key vs fun _ h=>h
   cases hh:sh.headD true with
   | true =>
    refine PySem.W.kat_kind (T:=.type "int") k1 (by omega) (fun v hv=>?_) (by decide) q
    obtain ⟨fl,z⟩:=k3 v hv
    rw [hh] at z
    cases v <;> first|exact fl.elim|exact Bool.noConfusion (show true=false from z)|exact Bool.noConfusion (show false=true from z)|exact .now
   | false =>
    refine PySem.W.kat_kind (T:=.type "str") k1 (by omega) (fun v hv=>?_) (by decide) q
    obtain ⟨fl,z⟩:=k3 v hv
    rw [hh] at z
    cases v <;> first|exact fl.elim|exact Bool.noConfusion (show true=false from z)|exact Bool.noConfusion (show false=true from z)|exact .now
  ·obtain ⟨ks,⟨a,o,items,m,u1,e,c,d,r,fl⟩,k1,z1⟩:=at' _ (mp p hp)
   obtain ⟨ls,⟨a',o',items',m',u2,e',c',d',r',fl'⟩,k2,z2⟩:=at' _ (mp q hq)
   have k:Q (BG (kfH h p.1) (kfH h q.1)) s:=k
   rw [k1,k2,←r,←r'] at k
   rw [u1,u2]
   have es:items.toList.map (fun v=>isI (A6 v))=items'.toList.map (fun v=>isI (A6 v)):=by
    have h1:(items.toList.map A6).map isI=(items'.toList.map A6).map isI:=by rw [r,r',z1,z2]
    rw [List.map_map,List.map_map] at h1
    exact h1
   have el:items.size=items'.size:=by
    have:=congrArg List.length es
    simpa using this
   refine PySem.W.kat_lt e d e' d' ?_
   rw [decide_eq_false (by omega)]
   exact L6 _ _ 0 fl fl' es k
inductive Ej (K:PySem.W.Frag) (H:Hp):List V→List (List Key)→Prop
 | cI (ns:List Int):Ej K H (ns.map V.int) (ns.map fun n=>[.inl n])
 | cS (zs:List Str):Ej K H (zs.map V.str) (zs.map fun z=>[.inr z])
 | cT {xs:List V} {kss:List (List Key)} (sh:List Bool):sh≠[]→Paired (fun x ks=>(∃a,x=.ref a/\SqT K H a (ks.map kV))/\ks.map isI=sh) xs kss→Ej K H xs kss
theorem De {α β:Type}{F:α→β→Prop}{bs bs':List β}(p:bs'.Perm bs):∀{as:List α},Paired F as bs→∃as',as'.Perm as/\Paired F as' bs':=by
 induction p with
 | nil=>intro as h;cases h;exact ⟨[],.nil,.nil⟩
 | cons x _ ih =>
  intro as h
  cases h with
  | cons h1 h2 =>
   obtain ⟨as',q1,q2⟩:=ih h2
   exact ⟨_::as',q1.cons _,.cons h1 q2⟩
 | swap x y l =>
  intro as h
  cases h with
  | cons h1 h2 =>
   cases h2 with
   | cons h3 h4=>exact ⟨_,List.Perm.swap _ _ _,.cons h3 (.cons h1 h4)⟩
 | trans _ _ ih1 ih2 =>
  intro as h
  obtain ⟨a1,q1,q2⟩:=ih2 h
  obtain ⟨a2,q3,q4⟩:=ih1 q2
  exact ⟨a2,q3.trans q1,q4⟩
theorem AQ {α β:Type}{F:α→β→Prop}:∀{l:List α}{m:List β},Paired F l m→l.length=m.length/\∀(i:Nat) a b,l[i]?=some a→m[i]?=some b→F a b
 | _,_,.nil=>⟨rfl,fun i a b h=>by simp at h⟩
 | _,_,.cons h r=>by
  obtain ⟨h1,h2⟩:=AQ r
  refine ⟨by rw [List.length_cons,List.length_cons,h1],fun i a b e1 e2=>?_⟩
  cases i with
  | zero=>simp at e1 e2;subst e1 e2;exact h
  | succ i=>exact h2 i a b (by simpa using e1) (by simpa using e2)
theorem FG:∀{ks:List Key}{us:List Value},Vals (ks.map kV) us→us.map A6=ks/\∀v∈us,Bz v
 | [],_,h=>by cases h;exact ⟨rfl,fun v hv=>by cases hv⟩
 | k::ks,_,h=>by
  cases h with
  | cons h1 h2 =>
   obtain ⟨e,f⟩:=FG h2
   cases k with
   | inl i =>
    obtain ⟨t,rfl⟩:=h1
    exact ⟨by rw [List.map_cons,e];rfl,fun v hv=>by rcases List.mem_cons.mp hv with rfl|hv;exact True.intro;exact f v hv⟩
   | inr x =>
    obtain ⟨t,rfl⟩:=h1
    exact ⟨by rw [List.map_cons,e];rfl,fun v hv=>by rcases List.mem_cons.mp hv with rfl|hv;exact True.intro;exact f v hv⟩
section
variable {X:Cx}{pins:List (Addr×Obj)}{σ:St}{H:Hp}{s:Shared}
theorem Ej.vals (I:Inv X pins σ H s) {xs:List V}{kss:List (List Key)}{its:List Value}(h:Ej X.K H xs kss) (r:Vals xs its):CL s.heap its kss:=by
 have hl:=r.length
 cases h with
 | cI ns =>
  rw [List.length_map] at hl
  refine .cI (by rw [List.length_map,hl]) fun i u ks e1 e2=>?_
  rw [List.getElem?_map] at e2
  obtain ⟨n,e3,rfl⟩:=Option.map_eq_some_iff.mp e2
  obtain ⟨u',e4,t,e5⟩:=r.get (i:=i) (x:=.int n) (by rw [List.getElem?_map,e3];rfl)
  rw [e1] at e4
  cases e4
  exact ⟨n,t,e5,rfl⟩
 | cS zs =>
  rw [List.length_map] at hl
  refine .cS (by rw [List.length_map,hl]) fun i u ks e1 e2=>?_
  rw [List.getElem?_map] at e2
  obtain ⟨n,e3,rfl⟩:=Option.map_eq_some_iff.mp e2
  obtain ⟨u',e4,t,e5⟩:=r.get (i:=i) (x:=.str n) (by rw [List.getElem?_map,e3];rfl)
  rw [e1] at e4
  cases e4
  exact ⟨n,t,e5,rfl⟩
 | cT sh hn p =>
  obtain ⟨h1,h2⟩:=AQ p
  refine .cT sh (by omega) hn fun i u ks e1 e2=>?_
  have hi:=(List.getElem?_eq_some_iff.mp e2).1
  have e3:xs[i]?=some xs[i]:=List.getElem?_eq_getElem (by omega)
  obtain ⟨⟨a,ea,hq⟩,z⟩:=h2 i _ _ e3 e2
  obtain ⟨u',e4,e5⟩:=r.get e3
  rw [e1] at e4
  cases e4
  rw [ea] at e5
  obtain rfl:u=Value.ref a:=e5
  obtain ⟨its2,rv,⟨o,ho,hc,n,hd⟩,_⟩:=I.tuple hq
  obtain ⟨k1,k2⟩:=FG rv
  exact ⟨⟨a,o,its2.toArray,n,rfl,ho,hc,hd,by simpa using k1,by simpa using k2⟩,z⟩
end
theorem Kq {X:Cx}{its:List Value}{ys:List V}{kss:List (List Key)}{h:Heap}(r:Vals ys its) (sv:CL h its kss) {out:Array Keyed}(p:out.Perm (pairsOf its)) (u:Srt.Up (O:=lexOrd) (kfH h) out 0 (pairsOf its).size) :
    ∃qs:List (V×List Key),qs.Perm (ys.zip kss)/\Vals (qs.map (·.1)) (out.map (·.2)).toList/\(qs.map (·.2)).Pairwise (fun a b=>BG b a=false):=by
  have pl:out.toList.Perm (its.zip its):=by rw [←pairsOf_toList];exact Array.perm_iff_toList_perm.mp p
  have me:∀q∈out.toList,q.1=q.2/\q.1∈its:=fun q hq=>mem_zip_self (pl.mem_iff.mp hq)
  have e0:(out.map (·.2)).toList=out.toList.map (·.2):=Array.toList_map ..
  have pu:(out.toList.map (·.2)).Perm its:=by
    have:=pl.map (·.2)
    rwa [List.map_snd_zip (Nat.le_refl _)] at this
  have hl:=r.length
  have hk:=sv.len
  have pf:Paired (fun (q:V×List Key) v=>RelV q.1 v/\kfH h v=q.2) (ys.zip kss) its:=by
    refine Aa (by rw [List.length_zip];omega) fun i a b e1 e2=>?_
    obtain ⟨e3,e4⟩:=List.getElem?_zip_eq_some.mp e1
    obtain ⟨v,e5,e6⟩:=r.get e3
    rw [e2] at e5
    cases e5
    exact ⟨e6,sv.kf i b a.2 e2 e4⟩
  obtain ⟨qs,q1,q2⟩:=De pu pf
  obtain ⟨l2,g2⟩:=AQ q2
  refine ⟨qs,q1,?_,?_⟩
  · rw [e0]
    refine Aa (by rw [List.length_map,l2]) fun i a b e1 e2=>?_
    rw [List.getElem?_map] at e1
    obtain ⟨q,e3,rfl⟩:=Option.map_eq_some_iff.mp e1
    exact (g2 i q b e3 e2).1
  · rw [List.pairwise_iff_getElem]
    intro i j hi hj hij
    rw [List.length_map] at hi hj
    rw [List.length_map] at l2
    have hs:(pairsOf its).size=out.size:=p.size_eq.symm
    have ko:∀k (hk:k<qs.length),(qs[k]).2=Srt.KX (O:=lexOrd) (kfH h) out k:=fun k hk=>by
      have hk2 : k < out.size := by have : out.toList.length = out.size := by simp
                                    omega
      rw [Srt.BH hk2]
      have e1:qs[k]?=some qs[k]:=List.getElem?_eq_getElem hk
      have e2:(out.toList.map (·.2))[k]?=some out[k].2:=by rw [List.getElem?_map,Array.getElem?_toList,getElem?_pos out k hk2];rfl
      have:=(g2 k _ _ e1 e2).2
      rw [(me out[k] (by simp)).1,this]
    have := u i j (Nat.zero_le _) (Nat.le_of_lt hij) (by have : out.toList.length = out.size := by simp
                                                         omega)
    rw [←ko i hi,←ko j hj] at this
    rw [List.getElem_map,List.getElem_map]
    exact this
section
variable {X:Cx}{K:PySem.W.Frag}
theorem Gj (hK:X.K=K:=by rfl):Cg X (.builtin "sorted") (fun xs H Q=>∃(p:Addr) (ys:List V) (kss:List (List Key)),xs=[.ref p]/\SqL K H p ys/\Ej K H ys kss /\
  ∀l (qs:List (V×List Key)),H l=none→qs.Perm (ys.zip kss)→(qs.map (·.2)).Pairwise (fun a b=>BG b a=false)→Q (.ref l) (upd H l (.lst (qs.map (·.1))))):=by
 subst hK
 intro pins s σ H xs us Q I r h
 obtain ⟨p,ys,kss,rfl,hq,so,q⟩:=h
 obtain ⟨u,rfl,ru⟩:=vals1 r
 cases ru
 obtain ⟨its,rv,pl,hz⟩:=I.list hq
 have sv:=so.vals I rv
 have hl:=pl.isList
 have hlen:=rv.length
 refine Calls.call_function_entry kind_sorted plain_sorted entry_sorted (args_sorted1 _) ?_
 unfold Builtin.«sorted»
 refine wpAny_bind (m:=checkCount "sorted" 1 1 _) (wpAny_pure ?_)
 refine wpAny_bind (collect_list hl ?_ (by omega))
 refine wpAny_bind (wpAny_newList ?_ (by omega))
 have hsz:((s.heap.push (seqObj "list" #[] 0)).update s.heap.objs.size (Obj.mapSeq (·++its.toArray))).objs.size=s.heap.objs.size+1:=by
  rw [Heap.size_update,size_push']
 have hoL:(((s.heap.push (seqObj "list" #[] 0)).update s.heap.objs.size (Obj.mapSeq (·++its.toArray))).push (seqObj "list" its.toArray 0)).get? (s.heap.objs.size+1)=some (seqObj "list" its.toArray 0):=by
  rw [←hsz];exact Heap.get?_push_size _ rfl
 have kp:∀b o,s.heap.get? b=some o→(((s.heap.push (seqObj "list" #[] 0)).update s.heap.objs.size (Obj.mapSeq (·++its.toArray))).push (seqObj "list" its.toArray 0)).get? b=some o:=fun b o e =>
  Heap.get?_push_of_some _ ((Heap.get?_update_ne _ _ _ _ (Nat.ne_of_lt (Heap.lt_size e))).trans (Heap.get?_push_of_some _ e))
 show wpAny _ _ _ _ _ { s with heap:=((s.heap.push (seqObj "list" #[] 0)).update s.heap.objs.size (Obj.mapSeq (·++its.toArray))).push (seqObj "list" its.toArray 0) }
 rw [hsz]
 refine wpAny_bind (wpAny_holding (wpAny_call_entry slot_list_sort ⟨_,hoL,rfl⟩ entry_list_sort (Srt.EO (O:=lexOrd) hoL (by omega) (kfH s.heap) (fun h' k' h2=>?_) fun out p u=>⟨_,rfl,wpAny_pure ⟨_,rfl,?_⟩⟩) (args_list_sort _)))
 ·refine sv.cmp h2 fun a o items m _ e _ _=>?_
  exact k' a o (Nat.ne_of_lt (Nat.lt_succ_of_lt (Heap.lt_size e))) (kp a o e)
 ·obtain ⟨qs,q1,q2,q3⟩:=Kq (X:=X) rv sv p u
  obtain ⟨e,ho⟩:=sortedAll_at s.heap its (out.map (·.2))
  have lz:(qs.map (·.1)).length≤sizeLine:=by
   rw [List.length_map,q1.length_eq,List.length_zip]
   omega
  refine ⟨.ref (s.heap.objs.size+1),_,I.laid (a:=s.heap.objs.size+1) (o:=.lst (qs.map (·.1))) (t':=s.toks) (fun b o e=>sortedAll_old e) (Nat.le_succ _) ⟨lz,_,e,q2,by rw [Array.toArray_toList];exact ho⟩,rfl,q _ qs (I.hok.fresh (Nat.le_succ _)) q1 q3⟩
theorem Gi {prog:Program}{w:World}{A:Around}{E:Value→Shared→Prop}{s:Shared}{T:String}{r d:Addr}{n:Nat}{P:Nat→Value→Prop}{OK:Heap→Prop}{Q:List Value→Shared→Prop}(K:PySem.W.KdlSrc prog w T r d n P OK) (hh:A.handled=none) (hok:OK s.heap) (hn:n≤sizeLine)
  (hQ:∀h' tk (acc:Array Value),(∀b o,s.heap.get? b=some o→h'.get? b=some o)→s.heap.objs.size<h'.objs.size→ItemsOf P acc n→Q acc.toList { s with heap:=h',toks:=tk }):wpAny (model prog w) A (collect (.ref r)) Q E s:=by
 unfold collect
 refine wpAny_bind (wpAny_runValue (codeAny_builtin F.entry_proto_collect ?_))
 rw [Around.under_plainId F.plain_proto_collect _]
 show wpAny _ A.in1 (newList [] >>= fun l=>again (.builtin "list.__iadd__" ⟨[l,.ref r],[]⟩)) _ _ s
 refine wpAny_bind (wpAny_newObj_type ?_)
 refine wpAny_pure ⟨plainId_quiet F.plain_list_iadd _,codeAny_builtin F.entry_list_iadd ?_⟩
 rw [Around.under_plainId F.plain_list_iadd _]
 have hS₁:(s.heap.push { cls:=.type "list", data:=.seq ([]:List Value).toArray }).get? s.heap.objs.size=some { cls:=.type "list", data:=.seq ([]:List Value).toArray }:=Heap.get?_push_size _ rfl
 have ht:=K.there _ hok
 have kp:∀b o,s.heap.get? b=some o→(s.heap.push { cls:=.type "list", data:=.seq ([]:List Value).toArray }).get? b=some o:=fun b o e=>Heap.get?_push_of_some _ e
 show wpAny _ A.in1 (Builtin.List.listExtendWith (.ref s.heap.objs.size) (.ref r) (.ref s.heap.objs.size)) _ _ _
 have key:∀s',(∃h' tk acc c',s'={ s with heap:=h',toks:=tk }/\(∀b o,b≠s.heap.objs.size→(s.heap.push { cls:=.type "list", data:=.seq ([]:List Value).toArray }).get? b=some o→h'.get? b=some o)/\h'.get? s.heap.objs.size=some { cls:=.type "list", dict:=none,data:=.seq acc c',slots:=#[] }/\ItemsOf P acc n) →
   wpAny (model prog w) A (load s.heap.objs.size >>= fun o=>match o.data with
    | .seq xs _=>pure xs.toList
    | _=>unsupported "internal:collect") Q E s':=fun s' ⟨h',tk,acc,c',e,k1,k2,k3⟩=>by
  subst e
  refine wpAny_bind (wpAny_load k2 ?_)
  exact wpAny_pure (hQ h' tk acc (fun b o e=>k1 b o (Nat.ne_of_lt (Heap.lt_size e)) (kp b o e)) (Heap.lt_size k2) k3)
 refine wpAny_mono (PySem.W.kdl_extend (A:=A) (s:={ s with heap:=s.heap.push { cls:=.type "list", data:=.seq ([]:List Value).toArray } })
  (R:=fun r s'=>r=.ok (.ret (.ref s.heap.objs.size))/\∃h' tk acc c',s'={ s with heap:=h',toks:=tk }/\(∀b o,b≠s.heap.objs.size→(s.heap.push { cls:=.type "list", data:=.seq ([]:List Value).toArray }).get? b=some o→h'.get? b=some o)/\h'.get? s.heap.objs.size=some { cls:=.type "list", dict:=none,data:=.seq acc c',slots:=#[] }/\ItemsOf P acc n)
  K hh (K.keep _ _ hok fun b _ o e=>kp b o e) s.heap.objs.size (Nat.ne_of_gt ht.1) (Nat.ne_of_gt ht.2) _ 0 hS₁ (fun h' tk acc c' k1 k2 k3=>⟨rfl,h',tk,acc,c',rfl,k1,k2,k3⟩) hn) (fun fin s' hf=>?_) fun e s' hf=>by cases hf.1
 cases fin with
 | done f =>
  obtain ⟨e,r⟩:=hf
  cases e
  exact key s' r
 | again c =>
  refine ⟨hf.1,codeAny_mono hf.2 fun r s2 ⟨e,q⟩=>?_⟩
  subst e
  exact key s2 q
theorem K6 (hc:X.calm=true):Cg X (.builtin "sorted") (fun xs H Q=>∃(d:Addr) (kvs:List (Key×V)),xs=[.ref d]/\H d=some (.dK kvs)/\((∀p∈kvs,∃i,p.1=.inl i)\/∀p∈kvs,∃i,p.1=.inr i) /\
  ∀l (ks:List Key),H l=none→ks.Perm (kvs.map (·.1))→ks.Pairwise (fun a b=>kLt b a=false)→Q (.ref l) (upd H l (.lst (ks.map kV)))):=by
 intro pins s σ H xs us Q I r h
 obtain ⟨d,kvs,rfl,e,hty,q⟩:=h
 obtain ⟨u,rfl,ru⟩:=vals1 r
 cases ru
 obtain ⟨z,lo,vs,rel,dd⟩:=JZ I.hok e
 obtain ⟨ep,hat⟩:=dd.dictAt
 have hlen:kvs.length=vs.length:=Paired.length rel
 refine Calls.call_function_entry kind_sorted plain_sorted entry_sorted (args_sorted1 _) ?_
 unfold Builtin.«sorted»
 refine wpAny_bind (m:=checkCount "sorted" 1 1 _) (wpAny_pure ?_)
 refine wpAny_bind (Gi (PySem.W.kdl_dict (knd:=AR X.prog X.w) (kvs:=vs) (ep:=ep) lo) (I.ok.hd hc) hat (by omega) fun h1 tk acc k1 gr it=>?_)
 have rv:Vals (kvs.map fun p=>kV p.1) acc.toList:=KH rel (by rw [Array.length_toList];exact it.1) fun j v hv=>it.2 j v (by rw [←Array.getElem?_toList];exact hv)
 have ra:=rv.length
 rw [List.length_map] at ra
 have sv:CL h1 acc.toList (kvs.map fun p=>[p.1]):=by
  rcases hty with hty|hty
  ·refine .cI (by rw [List.length_map];omega) fun i u ks e1 e2=>?_
   rw [List.getElem?_map] at e2
   obtain ⟨p,e3,rfl⟩:=Option.map_eq_some_iff.mp e2
   obtain ⟨n,en⟩:=hty p (List.mem_of_getElem? e3)
   obtain ⟨u',e4,e5⟩:=rv.get (i:=i) (x:=kV p.1) (by rw [List.getElem?_map,e3];rfl)
   rw [e1] at e4
   cases e4
   rw [en] at e5 ⊢
   obtain ⟨t,rfl⟩:=e5
   exact ⟨n,t,rfl,rfl⟩
  ·refine .cS (by rw [List.length_map];omega) fun i u ks e1 e2=>?_
   rw [List.getElem?_map] at e2
   obtain ⟨p,e3,rfl⟩:=Option.map_eq_some_iff.mp e2
   obtain ⟨n,en⟩:=hty p (List.mem_of_getElem? e3)
   obtain ⟨u',e4,e5⟩:=rv.get (i:=i) (x:=kV p.1) (by rw [List.getElem?_map,e3];rfl)
   rw [e1] at e4
   cases e4
   rw [en] at e5 ⊢
   obtain ⟨t,rfl⟩:=e5
   exact ⟨n,t,rfl,rfl⟩
 generalize hits:acc.toList=its at rv ra sv
 refine wpAny_bind (wpAny_newList ?_ (by omega))
 have hoL:(h1.push (seqObj "list" its.toArray 0)).get? h1.objs.size=some (seqObj "list" its.toArray 0):=Heap.get?_push_size _ rfl
 have grow:s.heap.objs.size≤h1.objs.size:=Nat.le_of_lt gr
 refine wpAny_bind (wpAny_holding (wpAny_call_entry (s:={ s with heap:=h1.push (seqObj "list" its.toArray 0),toks:=tk }) slot_list_sort ⟨_,hoL,rfl⟩ entry_list_sort (Srt.EO (O:=lexOrd) hoL (by omega) (kfH h1) (fun h' k' h2=>?_) fun out p u=>⟨_,rfl,wpAny_pure ⟨_,rfl,?_⟩⟩) (args_list_sort _)))
 ·refine sv.cmp h2 fun a o items m _ e _ _=>?_
  exact k' a o (Nat.ne_of_lt (Heap.lt_size e)) (Heap.get?_push_of_some _ e)
 ·obtain ⟨qs,q1,q2,q3⟩:=Kq (X:=X) rv sv p u
  obtain ⟨e',ho⟩:=sortedHeap_at (h:=h1.push (seqObj "list" its.toArray 0)) (a:=h1.objs.size) (vs:=its) (out:=out.map (·.2)) hoL
  have ep:qs.map (·.1)=(qs.map fun x=>x.2.headD (.inl 0)).map kV:=by
   rw [List.map_map]
   refine List.map_congr_left fun x hx=>?_
   have hm:=q1.mem_iff.mp hx
   obtain ⟨i,hi⟩:=List.mem_iff_getElem?.mp hm
   obtain ⟨e3,e4⟩:=List.getElem?_zip_eq_some.mp hi
   rw [List.getElem?_map] at e3 e4
   obtain ⟨p3,e5,e6⟩:=Option.map_eq_some_iff.mp e3
   rw [e5] at e4
   have e4:some [p3.1]=some x.2:=e4
   show x.1=kV (x.2.headD (.inl 0))
   rw [←e6,←Option.some.inj e4]
   rfl
  have pm:(qs.map fun x=>x.2.headD (.inl 0)).Perm (kvs.map (·.1)):=by
   refine (q1.map _).trans (List.Perm.of_eq ?_)
   rw [show (fun x:V×List Key=>x.2.headD (.inl 0))=(fun l:List Key=>l.headD (.inl 0)) ∘ Prod.snd from rfl,←List.map_map,List.map_snd_zip (by simp),List.map_map]
   rfl
  have pw:(qs.map fun x=>x.2.headD (.inl 0)).Pairwise (fun a b=>kLt b a=false):=by
   rw [List.pairwise_map]
   rw [List.pairwise_map] at q3
   refine q3.imp_of_mem fun {a b} ha hb hab=>?_
   have one:∀x∈qs,∃k,x.2=[k]:=fun x hx=>by
    have hm:=q1.mem_iff.mp hx
    obtain ⟨i,hi⟩:=List.mem_iff_getElem?.mp hm
    obtain ⟨_,e4⟩:=List.getElem?_zip_eq_some.mp hi
    rw [List.getElem?_map] at e4
    obtain ⟨p3,_,e6⟩:=Option.map_eq_some_iff.mp e4
    exact ⟨_,e6.symm⟩
   obtain ⟨x,ex⟩:=one a ha
   obtain ⟨y,ey⟩:=one b hb
   rw [ex,ey] at hab ⊢
   show kLt y x=false
   have hab:(if y=x then false else kLt y x)=false:=hab
   by_cases z:y=x
   ·rw [z];exact Kx x
   ·rw [if_neg z] at hab;exact hab
  have lz:(qs.map (·.1)).length≤sizeLine:=by
   rw [List.length_map,q1.length_eq,List.length_zip,List.length_map]
   omega
  have old:∀b o,s.heap.get? b=some o→(sortedHeap (h1.push (seqObj "list" its.toArray 0)) h1.objs.size its (out.map (·.2))).get? b=some o:=fun b o e=>by
   have e1:=k1 b o e
   have hlt:=Heap.lt_size e1
   rw [sortedHeap_old (Nat.ne_of_lt hlt) (by rw [size_push'];exact Nat.lt_succ_of_lt hlt)]
   exact Heap.get?_push_of_some _ e1
  refine ⟨.ref h1.objs.size,_,I.laid (a:=h1.objs.size) (o:=.lst (qs.map (·.1))) (t':=tk) old grow ⟨lz,_,e',q2,by rw [Array.toArray_toList];exact ho⟩,rfl,?_⟩
  rw [ep]
  exact q _ _ (I.hok.fresh grow) pm pw
end
end L2
namespace L2
open PySem PySem.Spec PyProof.Rows
section
open PySem.SeqAt
open PySem.AutoSeq1 (wpAny_loadPart')
open PySem.MeetsSeq PySem.MeetsSeq2 PySem.MeetsSeq3
theorem Qb (A:Around) (s:Shared) {x y:Value}(hx:Bz x) (hy:Bz y) (hs:isI (A6 x)=isI (A6 y)):SeqAt.EqAt A s x y (decide (A6 x=A6 y)):=by
 intro prog w E Q h
 exact QZ hx hy hs h
theorem PR (A:Around) (s:Shared) {x y:Value}(hx:Bz x) (hy:Bz y) (hs:isI (A6 x)=isI (A6 y)) (prog:Program) (w:World) (E:Value→Shared→Prop) (Q:Value→Shared→Prop) (h:Q (.bool (kLt (A6 x) (A6 y))) s) :
  wpAny (model prog w) A (richCompare .Lt x y) Q E s:=by
 cases x <;> first|exact hx.elim|skip
 all_goals (cases y <;> first|exact hy.elim|exact Bool.noConfusion (show true=false from hs)|exact Bool.noConfusion (show false=true from hs)|skip)
 ·exact (PyProof.Rows.lt_int h:wpAny (model prog w) A (compareOp .Lt _ _) Q E s)
 ·exact (PyProof.Rows.lt_str h:wpAny (model prog w) A (compareOp .Lt _ _) Q E s)
structure Qt (vs ws:List Value) (n m:Nat) (r:Bool):Prop where
 ex:∃(us zs:List Value),vs=us++zs/\(zs=[]\/ws.length≤us.length)/\(∀v∈us,Bz v)/\(∀v∈ws,Bz v)/\(∀(i:Nat) x y,us[i]?=some x→ws[i]?=some y→isI (A6 x)=isI (A6 y))/\BG (us.map A6) (ws.map A6)=r
 len:vs.length+m=ws.length+n
theorem N1 (l b:Addr) (items items2:Array Value) (n n2:Nat) (dd dd2:Option Addr) (sl sl2:Array (Option Value)) (r:Bool) (hx:Qt items.toList items2.toList items.size items2.size r) :
  Meets (Builtin.«tuple.__lt__» ⟨[.ref l,.ref b],[]⟩)
   (fun _ R s=>s.heap.get? l=some { cls:=.type "tuple", dict:=dd,data:=.seq items n,slots:=sl }/\s.heap.get? b=some { cls:=.type "tuple", dict:=dd2,data:=.seq items2 n2,slots:=sl2 } /\
    R (.ok (.ret (.bool r))) s) :=
 .of_wp fun prog w A R s h=>by
  obtain ⟨hp,g,d,tk,os⟩:=s;obtain ⟨hl,hb,h⟩:=h
  have f2:=AutoSeq1.sub_tuple_tuple
  wp_walk using wpAny_loadPart' hl,wpAny_loadPart' hb,wpAny_forIn_list _ (fun rest b s'=>b.1=none/\s'=⟨hp,g,d,tk,os⟩/\∃(vs ws:List Value) (q:Bool),rest=vs.zip ws /\
   Qt vs ws items.size items2.size q/\R (.ok (.ret (.bool q))) ⟨hp,g,d,tk,os⟩) _
  case turn =>
   rintro ⟨y,x⟩ rest b s' ⟨hb',rfl,vs,ws,q,hz,hx',hR⟩
   obtain ⟨⟨us,zs,rfl,h1,h2,h3,h4,h5⟩,hlen⟩:=hx'
   cases ws with
   | nil=>rw [List.zip_nil_right] at hz;cases hz
   | cons c ws =>
    cases us with
    | nil =>
     rcases h1 with h1|h1
     ·subst h1;cases hz
     ·exact absurd h1 (by simp)
    | cons a us =>
     rw [List.cons_append,List.zip_cons_cons] at hz
     injection hz with hyx hrest
     injection hyx with hy hx
     subst hy hx
     have fa:=h2 y List.mem_cons_self
     have fc:=h3 x List.mem_cons_self
     have ks:=h4 0 y x rfl rfl
     have h5:(if A6 y=A6 x then BG (us.map A6) (ws.map A6) else kLt (A6 y) (A6 x))=q:=h5
     refine wpAny_bind (Qb A.in1 ⟨hp,g,d,tk,os⟩ fa fc ks prog w _ _ ?_)
     cases e:decide (A6 y=A6 x) with
     | true =>
      rw [if_pos (of_decide_eq_true e)] at h5
      wp_walk
      refine ⟨rfl,rfl,us++zs,ws,q,hrest,⟨⟨us,zs,rfl,?_,fun v hv=>h2 v (List.mem_cons_of_mem _ hv),fun v hv=>h3 v (List.mem_cons_of_mem _ hv),fun i x y e1 e2=>h4 (i+1) x y (by simpa using e1) (by simpa using e2),h5⟩,?_⟩,hR⟩
      ·rcases h1 with h1|h1
       ·exact .inl h1
       ·refine .inr ?_
        simp only [List.length_cons] at h1
        omega
      ·simp only [List.length_cons,List.cons_append] at hlen
       omega
     | false =>
      rw [if_neg (of_decide_eq_false e)] at h5
      have hri:=PR A.in1 ⟨hp,g,d,tk,os⟩ fa fc ks prog w
      wp_walk using hri
      exact ⟨_,rfl,by rw [h5];exact hR⟩
  case fin =>
   rintro ⟨b1,b2⟩ s' ⟨hb',rfl,vs,ws,q,hz,⟨⟨us,zs,rfl,h1,h2,h3,h4,h5⟩,hlen⟩,hR⟩
   simp only at hb'
   subst hb'
   have hv:q=decide (items.size<items2.size):=by
    rw [←h5]
    cases us with
    | nil =>
     rcases h1 with h1|h1
     ·subst h1
      cases ws with
      | nil =>
       simp only [List.length_nil,List.append_nil] at hlen
       exact (decide_eq_false (by omega)).symm
      | cons c ws =>
       simp only [List.length_nil,List.append_nil,List.length_cons] at hlen
       exact (decide_eq_true (by omega)).symm
     ·have:ws=[]:=List.eq_nil_of_length_eq_zero (by simpa using h1)
      subst this
      simp only [List.length_nil,List.nil_append] at hlen
      exact (decide_eq_false (by omega)).symm
    | cons a us =>
     cases ws with
     | nil =>
      simp only [List.length_nil,List.length_cons,List.cons_append] at hlen
      exact (decide_eq_false (by omega)).symm
     | cons c ws =>
      rw [List.cons_append,List.zip_cons_cons] at hz
      cases hz
   rw [hv] at hR
   wp_walk
   exact ⟨_,rfl,by simpa [Builtin.Tuple.tupleCompareSizes] using hR⟩
  case h =>
   exact ⟨rfl,rfl,items.toList,items2.toList,r,rfl,hx,h⟩
end
section
variable {X:Cx}{K:PySem.W.Frag}
def Uu (K:PySem.W.Frag):R2:=fun x y H Q=>∃a b ks zs ms,x=.ref a/\y=.ref b/\SqT K H a (ks.map kV++zs)/\SqT K H b (ms.map kV)/\(zs=[]\/ms.length≤ks.length)/\(∀(i:Nat) k m,ks[i]?=some k→ms[i]?=some m→isI k=isI m)/\Q (.bl (BG ks ms)) H
theorem LH:∀{xs ys:List V}{us:List Value},Vals (xs++ys) us→∃vs ws,us=vs++ws/\Vals xs vs/\Vals ys ws
 | [],ys,us,h=>⟨[],us,rfl,.nil,h⟩
 | x::xs,ys,_,h=>by
  cases h with
  | cons h1 h2 =>
   obtain ⟨vs,ws,e,p1,p2⟩:=LH h2
   exact ⟨_::vs,ws,by rw [e];rfl,.cons h1 p1,p2⟩
theorem Sy (hu:X.A.units<cLine) (hK:X.K=K:=by rfl):OpR X (compareOp .Lt) (Uu K):=by
  subst hK
  intro pins s σ H x y v u Q I rx ry h
  obtain ⟨a,b,ks,zs,ms,rfl,rfl,ha,hb,hz,hs,q⟩:=h
  cases rx
  cases ry
  obtain ⟨its,r1,p1,_⟩:=I.tuple ha
  obtain ⟨its2,r2,p2,_⟩:=I.tuple hb
  obtain ⟨us,ws,rfl,q1,q2⟩:=LH r1
  obtain ⟨k1,f1⟩:=FG q1
  obtain ⟨k2,f2⟩:=FG r2
  have l1:=q1.length
  have l2:=r2.length
  have l3:=q2.length
  rw [List.length_map] at l1 l2
  obtain ⟨⟨cls,dd,data,sl⟩,ho,hc,n,hd⟩:=id p1
  obtain ⟨⟨cls2,dd2,data2,sl2⟩,ho2,hc2,n2,hd2⟩:=id p2
  simp only at hc hd hc2 hd2
  subst hc hd hc2 hd2
  have lx:Qt (us++ws).toArray.toList its2.toArray.toList (us++ws).toArray.size its2.toArray.size (BG ks ms):=by
    refine ⟨⟨us,ws,by simp,?_,f1,by simpa using f2,fun i x y e1 e2=>?_,by simp [k1,k2]⟩,by simp;omega⟩
    · rcases hz with rfl|hz
      · exact .inl (List.eq_nil_of_length_eq_zero (by simpa using l3.symm))
      · exact .inr (by simp;omega)
    · refine hs i _ _ (by rw [← k1, List.getElem?_map, e1]; rfl) (by rw [← k2, List.getElem?_map]; have e2 : its2[i]? = some y := by simpa using e2
                                                                     rw [e2];rfl)
  exact richCompare_meets_room (op:=.Lt) ⟨_,ho,rfl⟩ ⟨_,ho2,rfl⟩ PySem.F.slot_tuple_lt PySem.F.entry_tuple_lt (PySem.F.args_tuple_lt_2 _ _) (N1 a b _ _ n n2 dd dd2 sl sl2 _ lx)
    ⟨ho,ho2,show Value.bool (BG ks ms)≠Value.notImplemented/\EP X pins σ Q (.bool (BG ks ms)) s from ⟨(fun x=>nomatch x),⟨.bl _,H,I,rfl,q⟩⟩⟩ hu
end
def Rws (H:Hp) (xs:List V) (kss:List (List Key)):Prop:=Paired (fun x ks=>∃a,x=.ref a/\H a=some (.tup (ks.map kV))) xs kss
def Tp (H H':Hp):Prop:=∀p xs,H p=some (.tup xs)→H' p=some (.tup xs)
theorem AH.tp {H H':Hp}(s:AH H H'):Tp H H':=fun p xs e=>s _ _ e
theorem Tp.refl (H:Hp):Tp H H:=fun _ _ h=>h
theorem Tp.trans {H H1 H2:Hp}(a:Tp H H1) (b:Tp H1 H2):Tp H H2:=fun p xs e=>b _ _ (a _ _ e)
theorem Tp.upd {H H':Hp}{b:Addr}{o u:HO}(t:Tp H H') (h:H' b=some u) (hn:∀xs,u≠.tup xs):Tp H (L2.upd H' b o):=fun p xs e=>by
 have e:=t p xs e
 have:p≠b:=fun z=>by rw [z,h] at e;exact hn xs (Option.some.inj e)
 rw [AF this]
 exact e
theorem Au {α β:Type}{F G:α→β→Prop}(h:∀a b,F a b→G a b):∀{l:List α}{m:List β},Paired F l m→Paired G l m
 | _,_,.nil=>.nil
 | _,_,.cons a r=>.cons (h _ _ a) (Au h r)
theorem Ag {α β:Type}{F:α→β→Prop}:∀{l l':List α}{m m':List β},Paired F l m→Paired F l' m'→Paired F (l++l') (m++m')
 | _,_,_,_,.nil,h=>h
 | _,_,_,_,.cons a r,h=>.cons a (Ag r h)
theorem E9 {α β:Type}{F:α→β→Prop}:∀{l:List α}{m:List β}(n:Nat),Paired F l m→Paired F (l.take n) (m.take n)
 | _,_,0,_=>.nil
 | _,_,_+1,.nil=>.nil
 | _,_,n+1,.cons a r=>.cons a (E9 n r)
theorem FC {α β:Type}{F:α→β→Prop}:∀{l:List α}{m:List β}(n:Nat),Paired F l m→Paired F (l.drop n) (m.drop n)
 | _,_,0,h=>h
 | _,_,_+1,.nil=>.nil
 | _,_,n+1,.cons a r=>FC n r
theorem Rws.keep {H H':Hp}{xs:List V}{kss:List (List Key)}(h:Rws H xs kss) (t:Tp H H'):Rws H' xs kss:=Au (fun x ks ⟨a,e,q⟩=>⟨a,e,t _ _ q⟩) h
theorem Rws.len {H:Hp}{xs:List V}{kss:List (List Key)}(h:Rws H xs kss):xs.length=kss.length:=(AQ h).1
theorem Rws.at {H:Hp}{xs:List V}{kss:List (List Key)}(h:Rws H xs kss) {i:Nat}{x:V}(e:xs[i]?=some x):∃a ks,x=.ref a/\kss[i]?=some ks/\H a=some (.tup (ks.map kV)):=by
 have hi:=(List.getElem?_eq_some_iff.mp e).1
 have e2:kss[i]?=some (kss[i]'(by rw [←h.len];exact hi)):=List.getElem?_eq_getElem _
 obtain ⟨a,ea,q⟩:=(AQ h).2 i _ _ e e2
 exact ⟨a,_,ea,e2,q⟩
theorem Rws.snoc {H:Hp}{xs:List V}{kss:List (List Key)}{p:Addr}{ks:List Key}(h:Rws H xs kss) (e:H p=some (.tup (ks.map kV))):Rws H (xs++[.ref p]) (kss++[ks]):=Ag h (.cons ⟨p,rfl,e⟩ .nil)
theorem EM (H:Hp):Rws H [] []:=Paired.nil
def kD:Key→PyData
 | .inl i=>.int i
 | .inr x=>.str x
def ktD (ks:List Key):PyData:=.tuple (ks.map kD)
def kOk:Key→Bool
 | .inl _=>true
 | .inr x=>PyData.strOk x
def My (ks:List Key):Bool:=ks.all kOk
theorem JY {K:PySem.W.Frag}{H:Hp}:∀ks:List Key,Dvs K H (ks.map kV) (ks.map kD)
 | []=>.nil
 | .inl i::r=>.cons (.int i) (JY r)
 | .inr x::r=>.cons (.str x) (JY r)
theorem Rws.dvs {K:PySem.W.Frag}{H:Hp}:∀{xs:List V}{kss:List (List Key)},Rws H xs kss→Dvs K H xs (kss.map ktD)
 | _,_,Paired.nil=>.nil
 | _,_,Paired.cons ⟨a,e,q⟩ r=>by
  subst e
  exact .cons (.tup (SqT.of q) (JY _)) (Rws.dvs r)
theorem L8:∀ks:List Key,My ks=true→PyData.canLayAll0 (ks.map kD)=true/\PyData.depthAll (ks.map kD)=0
 | [],_=>⟨rfl,rfl⟩
 | k::r,h=>by
  have h:(kOk k&&My r)=true:=h
  obtain ⟨h1,h2⟩:=Bool.and_eq_true_iff.mp h
  obtain ⟨a,b⟩:=L8 r h2
  cases k with
  | inl i=>simp [kD,PyData.canLayAll0,PyData.canLay0,PyData.depthAll,PyData.depth,a,b]
  | inr x =>
   have h1:PyData.strOk x=true:=h1
   simp [kD,PyData.canLayAll0,PyData.canLay0,PyData.depthAll,PyData.depth,a,b,h1]
theorem JQ:∀kss:List (List Key),(∀ks∈kss,My ks=true)→PyData.canLayAll0 (kss.map ktD)=true/\PyData.depthAll (kss.map ktD)≤1
 | [],_=>⟨rfl,by decide⟩
 | ks::r,h=>by
  obtain ⟨a,b⟩:=JQ r fun z hz=>h z (List.mem_cons_of_mem _ hz)
  obtain ⟨c,d⟩:=L8 ks (h ks List.mem_cons_self)
  refine ⟨by simp [ktD,PyData.canLayAll0,PyData.canLay0,a,c],?_⟩
  simp [ktD,PyData.depthAll,PyData.depth,d]
  omega
theorem LS {kss:List (List Key)}(h:∀ks∈kss,My ks=true):SeqAt.shaped (.list (kss.map ktD))=true:=by
 obtain ⟨a,b⟩:=JQ kss h
 simp [SeqAt.shaped,PyData.canLay0,PyData.depth,a]
 omega
theorem Rws.dv {K:PySem.W.Frag}{H:Hp}{l:Addr}{xs:List V}{kss:List (List Key)}(h:Rws H xs kss) (e:H l=some (.lst xs)):Dv K H (.ref l) (.list (kss.map ktD)):=.lst (SqL.of e) h.dvs
theorem Rws.sorts {K:PySem.W.Frag}{H:Hp}{xs:List V}{kss:List (List Key)}(h:Rws H xs kss) {sh:List Bool}(hn:sh≠[]) (hs:∀ks∈kss,ks.map isI=sh):Ej K H xs kss:=by
 refine .cT sh hn (Aa h.len fun i a b e1 e2=>?_)
 obtain ⟨p,ep,q⟩:=(AQ h).2 i a b e1 e2
 exact ⟨⟨p,ep,SqT.of q⟩,hs b (List.mem_of_getElem? e2)⟩
theorem Rws.sorted {H:Hp}{xs:List V}{kss:List (List Key)}(h:Rws H xs kss) {qs:List (V×List Key)}(p:qs.Perm (xs.zip kss)):Rws H (qs.map (·.1)) (qs.map (·.2))/\(qs.map (·.2)).Perm kss:=by
 have hl:=h.len
 constructor
 ·refine Aa (by rw [List.length_map,List.length_map]) fun i a b e1 e2=>?_
  rw [List.getElem?_map] at e1 e2
  obtain ⟨q,e3,rfl⟩:=Option.map_eq_some_iff.mp e1
  rw [e3] at e2
  cases e2
  obtain ⟨j,hj⟩:=List.mem_iff_getElem?.mp (p.mem_iff.mp (List.mem_of_getElem? e3))
  obtain ⟨e4,e5⟩:=List.getElem?_zip_eq_some.mp hj
  exact (AQ h).2 j _ _ e4 e5
 ·have:=p.map (·.2)
  rwa [List.map_snd_zip (by omega)] at this
def Sd (kss:List (List Key)):Prop:=kss.Pairwise fun a b=>BG b a=false
theorem FO:∀{a b:List (List Key)},a.Perm b→Sd a→Sd b→a=b
 | [],b,p,_,_=>by rw [p.nil_eq]
 | x::a,[],p,_,_=>by have:=p.length_eq;simp at this
 | x::a,y::b,p,ha,hb=>by
  obtain ⟨h1,h2⟩:=List.pairwise_cons.mp ha
  obtain ⟨h3,h4⟩:=List.pairwise_cons.mp hb
  have e:x=y:=by
   have m1:y∈x::a:=p.mem_iff.mpr List.mem_cons_self
   have m2:x∈y::b:=p.mem_iff.mp List.mem_cons_self
   rcases List.mem_cons.mp m1 with e|m1
   ·exact e.symm
   ·rcases List.mem_cons.mp m2 with e|m2
    ·exact e
    ·exact EY (h3 x m2) (h1 y m1)
  subst e
  rw [FO (List.Perm.cons_inv p) h2 h4]
end L2
namespace L2
open PySem PySem.Spec PyProof.Rows
theorem Bw {K:PySem.W.Frag}{a:Addr}{n0:Nat}{fr:List Nat}{g:TG}{tt:TT}{te:TE}{σ:St}{H:Hp}{Q:VK}{xs:List V}(Pv:Nat→St→List V→Hp→Prop) (hn:xs.length≤sizeLine)
  (h0:Pv 0 (List.replicate n0 none++fr.map (pick σ)) [] H) (hl:∀i τ acc H1,Pv i τ acc H1→SqL K H1 a xs)
  (hs:∀(i:Nat) x τ acc H1 (R1:V→St→Hp→Prop) (R0:St→Hp→Prop),xs[i]?=some x→acc.length≤i→Pv i τ acc H1→(∀y τ' H2,Pv (i+1) τ' (acc++[y]) H2→R1 y τ' H2)→(∀τ' H2,Pv (i+1) τ' acc H2→R0 τ' H2) →
   g x τ H1 fun τ1 H2=>tt τ1 H2 fun b H3=>if b=true then te τ1 H3 fun y H4=>R1 y τ1 H4 else R0 τ1 H3)
  (hd:∀τ acc H1,acc.length≤xs.length→Pv xs.length τ acc H1→∀D,H1 D=none→Q (.ref D) (upd H1 D (.lst acc))) :
  Nw n0 fr g tt te σ Q (Itl K a) H:=by
 refine ⟨fun i m τ acc H'=>m=xs.length-i/\i≤xs.length/\acc.length≤i/\Pv i τ acc H',⟨xs.length,by simp,Nat.zero_le _,Nat.zero_le _,h0⟩,?_⟩
 rintro i m τ acc H' ⟨rfl,hi,ha,p⟩
 have q:=hl i τ acc H' p
 by_cases hlt:i<xs.length
 ·refine .inr ⟨⟨xs,xs[i],q,by simp [hlt]⟩,by omega,fun x H1 y=>?_⟩
  obtain ⟨e,y⟩:=y
  subst e
  have ex:=y xs q
  exact hs i x τ acc _ (fun y τ1 H4=>∃m',m'<xs.length-i/\m'=xs.length-(i+1)/\i+1≤xs.length/\(acc++[y]).length≤i+1/\Pv (i+1) τ1 (acc++[y]) H4) (fun τ1 H3=>∃m',m'<xs.length-i/\m'=xs.length-(i+1)/\i+1≤xs.length/\acc.length≤i+1/\Pv (i+1) τ1 acc H3) ex ha p
   (fun y τ' H2 h=>⟨_,by omega,rfl,hlt,by rw [List.length_append,List.length_singleton];omega,h⟩) fun τ' H2 h=>⟨_,by omega,rfl,hlt,by omega,h⟩
 ·have e:i=xs.length:=by omega
  subst e
  exact .inl ⟨⟨xs,q,Nat.le_refl _⟩,hd τ acc H' ha p⟩
theorem BR {K:PySem.W.Frag}{a:Addr}{n0:Nat}{fr:List Nat}{g:TG}{te:TE}{σ:St}{H:Hp}{Q:VK}{xs:List V}(Pv:Nat→St→List V→Hp→Prop) (hn:xs.length≤sizeLine)
  (h0:Pv 0 (List.replicate n0 none++fr.map (pick σ)) [] H) (hl:∀i τ acc H1,Pv i τ acc H1→SqL K H1 a xs)
  (hs:∀(i:Nat) x τ acc H1 (R1:V→St→Hp→Prop),xs[i]?=some x→acc.length≤i→Pv i τ acc H1→(∀y τ' H2,Pv (i+1) τ' (acc++[y]) H2→R1 y τ' H2)→g x τ H1 fun τ1 H2=>te τ1 H2 fun y H4=>R1 y τ1 H4)
  (hd:∀τ acc H1,acc.length≤xs.length→Pv xs.length τ acc H1→∀D,H1 D=none→Q (.ref D) (upd H1 D (.lst acc))) :
  Nw n0 fr g O4 te σ Q (Itl K a) H:=by
 refine Bw (K:=K) (xs:=xs) Pv hn h0 hl (fun i x τ acc H1 R1 R0 e1 e2 p k1 _=>?_) hd
 have e:(fun (τ1:St) (H2:Hp)=>O4 τ1 H2 fun b H3=>if b=true then te τ1 H3 fun y H4=>R1 y τ1 H4 else R0 τ1 H3)=fun τ1 H2=>te τ1 H2 fun y H4=>R1 y τ1 H4:=by
  funext τ1 H2
  show (if true=true then te τ1 H2 fun y H4=>R1 y τ1 H4 else R0 τ1 H2)=_
  rw [if_pos rfl]
 rw [e]
 exact hs i x τ acc H1 R1 e1 e2 p k1
section
variable {X:Cx}
end
section
variable {κ:Type}[DecidableEq κ]
theorem Cc {kvs:List (κ×V)}{k:κ}{v:V}{q:κ×V}(h:q∈putK kvs k v):q=(k,v)\/(q∈kvs/\q.1≠k):=by
 unfold putK at h
 split at h
 ·obtain ⟨p,hp,e⟩:=List.mem_map.mp h
  by_cases z:p.1=k
  ·rw [if_pos z] at e;rw [←e,z];exact .inl rfl
  ·rw [if_neg z] at e;rw [←e];exact .inr ⟨hp,z⟩
 ·rename_i hn
  rcases List.mem_append.mp h with h|h
  ·refine .inr ⟨h,fun z=>hn (List.any_eq_true.mpr ⟨q,h,decide_eq_true z⟩)⟩
  ·exact .inl (List.mem_singleton.mp h)
theorem FV (kvs:List (κ×V)) (k:κ) (v:V):(putK kvs k v).map (·.1)=if k∈kvs.map (·.1) then kvs.map (·.1) else kvs.map (·.1)++[k]:=by
 by_cases h:k∈kvs.map (·.1)
 ·rw [if_pos h]
  obtain ⟨p,hp,e⟩:=List.mem_map.mp h
  unfold putK
  rw [if_pos (List.any_eq_true.mpr ⟨p,hp,decide_eq_true e⟩),List.map_map]
  refine List.map_congr_left fun q _=>?_
  show (if q.1=k then (q.1,v) else q).1=q.1
  split <;> rfl
 ·rw [if_neg h]
  unfold putK
  rw [if_neg (fun q=>?_),List.map_append]
  ·rfl
  ·obtain ⟨p,hp,e⟩:=List.any_eq_true.mp q
   exact h (List.mem_map.mpr ⟨p,hp,of_decide_eq_true e⟩)
theorem F3 {kvs:List (κ×V)}{k:κ}{v:V}(h:(kvs.map (·.1)).Nodup):((putK kvs k v).map (·.1)).Nodup:=by
 rw [FV]
 split
 ·exact h
 ·rename_i hn
  exact Na h hn
theorem GZ (kvs:List (κ×V)) (k:κ) (v:V):(putK kvs k v).length≤kvs.length+1:=by
 have e:=congrArg List.length (FV kvs k v)
 rw [List.length_map] at e
 rw [e]
 split
 ·rw [List.length_map];omega
 ·rw [List.length_append,List.length_map];simp
theorem B6 {kvs:List (κ×V)}{k:κ}{v:V}(h:A0 kvs k=some v):(k,v)∈kvs:=by
 unfold A0 at h
 obtain ⟨p,h1,h2⟩:=Option.map_eq_some_iff.mp h
 have:=List.find?_some (p:=fun kv:κ×V=>decide (kv.1=k)) h1
 have e:p.1=k:=of_decide_eq_true this
 rw [←e,←h2]
 exact List.mem_of_find?_eq_some h1
theorem Cz {kvs:List (κ×V)}{k:κ}(h:k∈kvs.map (·.1)):∃v,A0 kvs k=some v:=by
 cases e:A0 kvs k with
 | some v=>exact ⟨v,rfl⟩
 | none=>exact absurd h (O2 e)
end
def BW (d:Addr) (H H':Hp):Prop:=∀b o,b≠d→H b=some o→H' b=some o
theorem AH.x {H H':Hp}(s:AH H H') (d:Addr):BW d H H':=fun b o _ e=>s b o e
theorem BW.trans {d:Addr}{H H1 H2:Hp}(a:BW d H H1) (b:BW d H1 H2):BW d H H2:=fun c o n e=>b c o n (a c o n e)
theorem BW.upd {d:Addr}{H H':Hp}{o:HO}(a:BW d H H'):BW d H (L2.upd H' d o):=fun c u n e=>by rw [AF n];exact a c u n e
theorem BW.tp {d:Addr}{H H':Hp}(a:BW d H H') {u:HO}(h:H d=some u) (hn:∀xs,u≠.tup xs):Tp H H':=fun p xs e=>a p _ (fun z=>by rw [z,h] at e;exact hn xs (Option.some.inj e)) e
end L2
namespace Rev
open PySem PySem.Builtin PySem.W PyProof.Rows
section
variable {prog:Program}{w:World}{A:Around}{E:Value→Shared→Prop}{s:Shared}{I:Addr}{fp wr:List Addr}{G:Array GenState→Array GenState→Prop}{n:Nat}{P:Nat→Value→Prop}{St:Nat→Shared→Prop}{Live:Shared→Prop}
end
end Rev
namespace L2
open PySem PySem.Spec PyProof.Rows
section
variable {X:Cx}{K:PySem.W.Frag}
theorem HOk.adopt {P:Program}{w:World}{H:Hp}{h:Heap}{a:Addr}{o:HO}(x:HOk P w H h) (hn:H a=none) (new:A7 P w (upd H a o) h a o):HOk P w (upd H a o) h:=fun b u e=>by
 by_cases hb:b=a
 ·subst hb;rw [AB] at e;cases e;exact new
 ·rw [AF hb] at e
  exact (x b u e).LR (fun c v _ q=>q) (fun c q=>by rw [AF (AK q hn)];exact q) fun c xs q=>by rw [AF (AK q hn)];exact q
end
end L2
namespace L2
open PySem PySem.Spec PyProof.Rows
section
variable {X:Cx}{K:PySem.W.Frag}
def Sq (K:PySem.W.Frag):R2:=fun x y H Q=>∃(a b:Addr) (ka kb:List (Key×V)),x=.ref a/\y=.ref b/\H a=some (.dK ka)/\H b=some (.dK kb)/\ka.length=kb.length/\(∀q∈ka,∃v' d,A0 kb q.1=some v'/\Dv K H q.2 d/\Dv K H v' d/\SeqAt.shaped d=true)/\Q (.bl false) H
theorem Pp (hu:X.A.in1.units+64<cLine) (hu0:X.A.units<cLine) (hK:X.K=K:=by rfl):OpR X (compareOp .NotEq) (Sq K):=by
 subst hK
 intro pins s σ H x y v u Q I rx ry h
 obtain ⟨a,b,ka,kb,rfl,rfl,ea,eb,hl,hq,q⟩:=h
 cases rx
 cases ry
 obtain ⟨_,la,va,ra,da⟩:=JZ I.hok ea
 obtain ⟨_,lb,vb,rb,db⟩:=JZ I.hok eb
 have l1:=ra.length
 have l2:=rb.length
 have hits:∀(ka:List (Key×V)) (va:List (Key×Value)),KV ka va→(∀q∈ka,∃v' d,A0 kb q.1=some v'/\Dv X.K H q.2 d/\Dv X.K H v' d/\SeqAt.shaped d=true)→PySem.W.KeqHits X.A.in1 s vb va true:=by
  intro ka
  induction ka with
  | nil=>intro va r _;cases r;exact .nil
  | cons p ka ih =>
   intro va r hq
   cases r with
   | cons hr t =>
   rename_i pv r2
   obtain ⟨k,v⟩:=p
   obtain ⟨k',u⟩:=pv
   obtain ⟨e1,ru⟩:=hr
   have e1:k=k':=e1
   subst e1
   obtain ⟨v',d,hv,dv,dv',sh⟩:=hq _ List.mem_cons_self
   have hv:A0 kb k=some v':=hv
   have ro:=rb.val k
   rw [hv] at ro
   obtain ⟨u',hu',ru'⟩:∃u',PySem.valueAt vb k=some u'/\RelV v' u':=by
    cases h:PySem.valueAt vb k with
    | none=>rw [h] at ro;cases ro
    | some u'=>rw [h] at ro;exact ⟨u',rfl,ro⟩
   obtain ⟨as,q1⟩:=dv.reads I ru
   obtain ⟨bs,q2⟩:=dv'.reads I ru'
   have he:=PySem.W.keq_at q1 q2 sh sh hu
   rw [PySem.SeqAt.eqv_refl d (SeqAt.canLay_of_shaped sh)] at he
   exact PySem.W.KeqHits.hit (e:=true) (b:=true) hu' he (ih _ t fun q hm=>hq q (List.mem_cons_of_mem _ hm))
 refine PySem.W.keq_ne la lb da db hu0 (fun _=>hits _ _ ra hq) ⟨.bl false,H,I,?_,q⟩
 show Value.bool _=_
 rw [←l1,←l2,hl]
 simp
end
theorem BZ.MR {k:Nat}{A:Around}(r:BZ k A):A.in1.units+64<cLine:=by
 have:=r.un
 have e:A.in1.units≤A.units+1:=by first|exact Nat.le_refl _|(simp [Around.in1];omega)
 omega
end L2
namespace Sdf
open PySem PySem.Spec PyProof.Rows
section
variable {prog:Program}{w:World}{K:Type}[DecidableEq K] {knd:KeyKind prog w K}{A:Around}{E:Value→Shared→Prop}{s:Shared}
theorem Gz {d:Addr}{kvs:List (K×Value)}{k:K}{key dflt:Value}{Q:Value→Shared→Prop}(hkey:knd.is k key=true) (hm:s.heap.DictOf knd d kvs)
  (hthere:∀v,valueAt kvs k=some v→Q v { s with toks:=s.toks+1 })
  (hnew:valueAt kvs k=none→∀h',h'.DictOf knd d (stored kvs k dflt)→Heap.SameBut d s.heap h'→Q dflt { s with heap:=h',toks:=s.toks+1 })
  (hsz:kvs.length≤sizeLine) :
  wpAny (model prog w) A (dictSetDefault d key dflt) Q E s:=by
 have hmo:=hm.mapOf
 obtain ⟨o,es,ep,ho,hc,hd,hk,hp,hn⟩:=hm
 have hf:∀x,findBy knd.is es x=valueAt kvs x:=fun x=>by
  rw [←hp.find x]
  obtain ⟨l⟩:=es
  simp [findBy]
 have hes:es.size≤sizeLine:=by
  have e1:=hp.length
  have e2:es.toList.length=es.size:=by simp
  omega
 unfold dictSetDefault
 try with_reducible refine wpAny_holding ?_
 refine wpAny_bind (knd.pyHash hkey ?_)
 refine wpAny_bind (wpAny_dictFind_of (s:={ s with toks:=s.toks+1 }) hkey ho hd hk ?_)
 have hidx:(es.findIdx? fun e=>knd.is k e.key)=kvs.findIdx? fun kv=>decide (kv.1=k):=by
  rw [←hp.findIdx k];obtain ⟨l⟩:=es;simp
 cases hi:es.findIdx? fun e=>knd.is k e.key with
 | some i =>
  have hfk:valueAt kvs k=(es[i]?).map (·.val):=by rw [←hf k,findBy_of_findIdx?,hi]
  refine wpAny_bind (wpAny_dictEntries (s:={ s with toks:=s.toks+1 }) ho hd ?_)
  cases he:es[i]? with
  | none =>
   exfalso
   have:=Array.findIdx?_eq_some_iff_findIdx_eq.mp hi
   have hlt:i<es.size:=this.1
   rw [Array.getElem?_eq_getElem hlt] at he
   exact nomatch he
  | some e =>
   rw [he] at hfk
   exact wpAny_bind (wpAny_rule (wpAny_pure (hthere e.val hfk)))
 | none =>
  have hfk:valueAt kvs k=none:=by rw [←hf k,findBy_of_findIdx?,hi]
  have hnot:k∉kvs.map (·.1):=not_mem_of_findIdx_none (hidx ▸ hi)
  have hany:¬ (kvs.any fun kv=>decide (kv.1=k))=true:=by
   rw [List.any_eq_true];rintro ⟨kv,hkv,he⟩
   exact hnot (List.mem_map.mpr ⟨kv,hkv,of_decide_eq_true he⟩)
  refine wpAny_bind (wpAny_rule (wpAny_bind (wpAny_updateDictKeys (hz:=hes) (s:={ s with toks:=s.toks+1 }) ho hd (wpAny_pure (hnew hfk _ ⟨_,_,ep+1,Heap.get?_update_self _ ho (Obj.isFreed_of_dict (Obj.data_mapDictKeys hd _)),
   hc.mapDictKeys _,Obj.data_mapDictKeys hd _,hk.push hkey _,?_,?_⟩ (Heap.SameBut.update ..))))))
  ·rw [stored,if_neg hany]
   have:=hp.append hkey (knd.hash k) dflt
   obtain ⟨l⟩:=es
   simpa using this
  ·rw [stored,if_neg hany,List.map_append,List.nodup_append]
   refine ⟨hn,by simp,?_⟩
   intro a ha b hb
   simp only [List.map_cons,List.map_nil,List.mem_singleton] at hb
   subst hb
   exact fun e=>hnot (e ▸ ha)
theorem G7 {d:Addr}{k:K}{key:Value}(hkey:knd.is k key=true) (hd:(d==sysModules)=false) (dflt:Value) :
  MeetsIn prog w (Builtin.«dict.setdefault» ⟨[.ref d,key,dflt],[]⟩) (fun _ R s=>∃kvs,s.heap.DictOf knd d kvs/\kvs.length≤sizeLine/\(∀v,valueAt kvs k=some v→R (.ok (.ret v)) { s with toks:=s.toks+1 }) /\
   (valueAt kvs k=none→∀h',h'.DictOf knd d (stored kvs k dflt)→Heap.SameBut d s.heap h'→R (.ok (.ret dflt)) { s with heap:=h',toks:=s.toks+1 })) :=
 .of_wp fun A R s ⟨kvs,hm,hsz,h1,h2⟩=>by
  unfold Builtin.«dict.setdefault»
  refine wpAny_bind ?_
  unfold Builtin.Dict.keyAndDefault
  refine wpAny_bind (wpAny_notOrdered_dict hm.typeIs ?_)
  show wpAny _ _ (pure (d,key,some dflt)) _ _ s
  refine wpAny_pure ?_
  simp only [hd,Bool.false_eq_true,if_false]
  exact wpAny_bind (Gz hkey hm (fun v hv=>wpAny_pure ⟨v,rfl,h1 v hv⟩) (fun hn h' hm' hs'=>wpAny_pure ⟨dflt,rfl,h2 hn h' hm' hs'⟩) hsz)
end
end Sdf
namespace L2
open PySem PySem.Spec PyProof.Rows
section
variable {X:Cx}{o e f:Expr}{apos cpos:Pos}{td ty tx:TE}
def SY (td ty tx:TE):TE:=fun σ H Q=>td σ H fun x H1=>∃a,x=.ref a/\IsD H1 a/\ty σ H1 fun y H2=>tx σ H2 fun z H3=>∃kvs k,H3 a=some (.dK kvs)/\y=kV k/\kvs.length<sizeLine /\
 (∀v,A0 kvs k=some v→Q v H3)/\(A0 kvs k=none→Q z (upd H3 a (.dK (putK kvs k z))))
theorem Pk (ho:PE X o td) (he:PE X e ty) (hf:PE X f tx) (m:M2 X o "setdefault" apos e f cpos):PE X (.Call (.Attribute o "setdefault" apos) [e,f] [] cpos) (SY td ty tx):=by
 intro pins s σ H Q I h
 refine wpAny_Call_method m.base m.few m.line PySem.F.plainAttrs_dict PySem.F.slot_dict_setdefault PySem.F.type_dict_setdefault (thn (ho pins s σ H _ I h) fun u s1 ⟨x,H1,I1,rx,a,ex,d,q1⟩=>?_)
 subst ex
 obtain rfl:u=Value.ref a:=rx
 obtain ⟨t1,t2,_⟩:=Ky I1 d
 refine ⟨t1,t2,?_⟩
 rw [m.trees]
 refine Calls.callWith_builtin rfl (Calls.evalArgs_plain (Calls.spliced_cons (thn (he pins s1 σ H1 _ I1 q1) fun iv s2 ⟨y,H2,I2,ry,q2⟩ =>
  Calls.spliced_cons (thn (hf pins s2 σ H2 _ I2 q2) fun fv s3 ⟨z,H3,I3,rz,kvs,k,ea,ey,hl,q3,q4⟩=>Calls.spliced_nil ?_))))
 subst ey
 obtain ⟨zz,hd,vs,rel,dd⟩:=JZ I3.hok ea
 refine call_meetsIn PySem.F.slot_dict_setdefault dd.typeIs PySem.F.entry_dict_setdefault (PySem.F.args_dict_setdefault_3 _ _ _) (Sdf.G7 (knd:=AR X.prog X.w) (KI ry) hd fv) ⟨vs,dd,by rw [←rel.length];exact zz,fun w' hw=>?_,fun hn h' dd' hs=>?_⟩
 ·cases l:A0 kvs k with
  | none=>have:=C9.none_of (o:=valueAt vs k) (by rw [←l];exact rel.val k);rw [hw] at this;cases this
  | some v =>
   obtain ⟨w2,hw2,rw2⟩:=C9.some_of (v:=v) (o:=valueAt vs k) (by rw [←l];exact rel.val k)
   rw [hw] at hw2
   cases hw2
   exact ⟨v,H3,I3.tok _,rw2,q3 v l⟩
 ·have l:A0 kvs k=none:=by
   cases l:A0 kvs k with
   | none=>rfl
   | some v =>
    obtain ⟨w2,hw2,_⟩:=C9.some_of (v:=v) (o:=valueAt vs k) (by rw [←l];exact rel.val k)
    rw [hn] at hw2
    cases hw2
  have he:∃q,h'.get? a=some q:=let ⟨q,_,_,hq,_⟩:=dd';⟨q,hq⟩
  have hl2:(putK kvs k z).length≤sizeLine:=by have:=Dg kvs k z;omega
  exact ⟨z,_,Gg I3 (by rw [ea];exact True.intro) hs he (M6 hl2 hd (rel.put k rz) dd'),rz,q4 l⟩
end
end L2
namespace Upk
open PySem PySem.Spec PyProof.Rows
section
variable {prog:Program}{w:World}{A:Around}{E:Value→Shared→Prop}{s:Shared}
end
end Upk
namespace L2
open PySem PySem.Spec PyProof.Rows
section
variable {X:Cx}{pos:Pos}
end
end L2
namespace L2
open PySem PySem.Spec PyProof.Rows
section
variable {X:Cx}
end
section
variable {X:Cx}{e:Expr}{es:List Expr}{te:TX}{pos:Pos}
end
section
variable {prog:Program}{w:World}{A:Around}{E:Value→Shared→Prop}{s:Shared}
end
section
variable {X:Cx}{o value lo hi:Expr}{pos pos' p2:Pos}{td tv:TE}{tl th:TO}
end
section
variable {prog:Program}{w:World}{A:Around}{E:Value→Shared→Prop}{s:Shared}
end
section
variable {X:Cx}
end
section
theorem IC {lo:Int}{n n0:Nat}{fr:List Nat}{g:TG}{te:TE}{σ:St}{H:Hp}{Q:VK}(Pv:Nat→St→List V→Hp→Prop) (hn:n≤sizeLine)
  (h0:Pv 0 (List.replicate n0 none++fr.map (pick σ)) [] H)
  (hs:∀(i:Nat) τ acc H1 (R1:V→St→Hp→Prop),i<n→acc.length≤i→Pv i τ acc H1→(∀y τ' H2,Pv (i+1) τ' (acc++[y]) H2→R1 y τ' H2)→g (.int (lo+i)) τ H1 fun τ1 H2=>te τ1 H2 fun y H4=>R1 y τ1 H4)
  (hd:∀τ acc H1,acc.length≤n→Pv n τ acc H1→∀D,H1 D=none→Q (.ref D) (upd H1 D (.lst acc))) :
  Nw n0 fr g O4 te σ Q (Itr lo n) H:=by
 refine ⟨fun i m τ acc H'=>m=n-i/\i≤n/\acc.length≤i/\Pv i τ acc H',⟨n,by simp,Nat.zero_le _,Nat.zero_le _,h0⟩,?_⟩
 rintro i m τ acc H' ⟨rfl,hi,ha,p⟩
 by_cases hlt:i<n
 ·refine .inr ⟨hlt,by omega,fun x H1 y=>?_⟩
  obtain ⟨e1,e2⟩:=y
  subst e1 e2
  have e:(fun (τ1:St) (H2:Hp)=>O4 τ1 H2 fun b H3=>if b=true then te τ1 H3 fun y H4=>∃m',m'<n-i/\m'=n-(i+1)/\i+1≤n/\(acc++[y]).length≤i+1/\Pv (i+1) τ1 (acc++[y]) H4 else ∃m',m'<n-i/\m'=n-(i+1)/\i+1≤n/\acc.length≤i+1/\Pv (i+1) τ1 acc H3)=fun τ1 H2=>te τ1 H2 fun y H4=>∃m',m'<n-i/\m'=n-(i+1)/\i+1≤n/\(acc++[y]).length≤i+1/\Pv (i+1) τ1 (acc++[y]) H4:=by
   funext τ1 H2
   show (if true=true then (te τ1 H2 fun y H4=>∃m',m'<n-i/\m'=n-(i+1)/\i+1≤n/\(acc++[y]).length≤i+1/\Pv (i+1) τ1 (acc++[y]) H4) else ∃m',m'<n-i/\m'=n-(i+1)/\i+1≤n/\acc.length≤i+1/\Pv (i+1) τ1 acc H2)=_
   rw [if_pos rfl]
  rw [e]
  exact hs i τ acc _ (fun y τ1 H4=>∃m',m'<n-i/\m'=n-(i+1)/\i+1≤n/\(acc++[y]).length≤i+1/\Pv (i+1) τ1 (acc++[y]) H4) hlt ha p (fun y τ' H2 h=>⟨_,by omega,rfl,hlt,by rw [List.length_append,List.length_singleton];omega,h⟩)
 ·have e:i=n:=by omega
  subst e
  exact .inl ⟨Nat.le_refl _,hd τ acc H' ha p⟩
end
end L2
namespace L2
open PySem PySem.Spec PyProof.Rows
section
variable {X:Cx}
end
section
variable {X:Cx}
end
end L2
namespace L2
open PySem PySem.Spec PyProof.Rows
theorem RU {ys:List V}{its kvs:List Value}{kss:List (List Key)}{h:Heap}(r:Vals ys its) (sv:CL h kvs kss) (hl:its.length=kvs.length) {out:Array Keyed}(p:out.Perm (kvs.toArray.zip its.toArray)) (u:Srt.Up (O:=lexOrd) (kfH h) out 0 out.size) :
  ∃qs:List (V×List Key),qs.Perm (ys.zip kss)/\Vals (qs.map (·.1)) (out.map (·.2)).toList/\(qs.map (·.2)).Pairwise (fun a b=>BG b a=false):=by
 have pl:out.toList.Perm (kvs.zip its):=by
  have:=Array.perm_iff_toList_perm.mp p
  rwa [Array.toList_zip] at this
 have e0:(out.map (·.2)).toList=out.toList.map (·.2):=Array.toList_map ..
 have hy:=r.length
 have hk:=sv.len
 have pf:Paired (fun (q:V×List Key) (v:Keyed)=>RelV q.1 v.2/\kfH h v.1=q.2) (ys.zip kss) (kvs.zip its):=by
  refine Aa (by rw [List.length_zip,List.length_zip];omega) fun i a b e1 e2=>?_
  obtain ⟨e3,e4⟩:=List.getElem?_zip_eq_some.mp e1
  obtain ⟨e5,e6⟩:=List.getElem?_zip_eq_some.mp e2
  obtain ⟨v,e7,e8⟩:=r.get e3
  rw [e6] at e7
  cases e7
  exact ⟨e8,sv.kf i b.1 a.2 e5 e4⟩
 obtain ⟨qs,q1,q2⟩:=De pl pf
 obtain ⟨l2,g2⟩:=AQ q2
 have lo:out.toList.length=out.size:=by simp
 refine ⟨qs,q1,?_,?_⟩
 ·rw [e0]
  refine Aa (by rw [List.length_map,List.length_map,l2]) fun i a b e1 e2=>?_
  rw [List.getElem?_map] at e1 e2
  obtain ⟨q,e3,rfl⟩:=Option.map_eq_some_iff.mp e1
  obtain ⟨v,e4,rfl⟩:=Option.map_eq_some_iff.mp e2
  exact (g2 i q v e3 e4).1
 ·rw [List.pairwise_iff_getElem]
  intro i j hi hj hij
  rw [List.length_map] at hi hj
  have ko:∀k (hk:k<qs.length),(qs[k]).2=Srt.KX (O:=lexOrd) (kfH h) out k:=fun k hk=>by
   have hk2:k<out.size:=by omega
   rw [Srt.BH hk2]
   have e1:qs[k]?=some qs[k]:=List.getElem?_eq_getElem hk
   have e2:out.toList[k]?=some out[k]:=by rw [Array.getElem?_toList,getElem?_pos out k hk2]
   exact (g2 k _ _ e1 e2).2.symm
  have:=u i j (Nat.zero_le _) (Nat.le_of_lt hij) (by omega)
  rw [←ko i hi,←ko j hj] at this
  rw [List.getElem_map,List.getElem_map]
  exact this
theorem KA {kvs its:List Value}{v:Keyed}(h:v∈(kvs.toArray.zip its.toArray).toList):v.1∈kvs:=by
 rw [Array.toList_zip] at h
 exact (List.of_mem_zip h).1
section
variable {X:Cx}{pins:List (Addr×Obj)}{σ:St}{k:Nat}{f:Addr}{fd:FuncData}{ps:List Str}{sp:Sp}
def LC (H:Hp) (us:List Value) (kss:List (List Key)):Prop:=us.length=kss.length/\∀(i:Nat) u ks,us[i]?=some u→kss[i]?=some ks→∃q,u=.ref q/\H q=some (.tup (ks.map kV))
theorem LC.sorts {H:Hp}{s:Shared}{us:List Value}{kss:List (List Key)}{sh:List Bool}(I:Inv X pins σ H s) (h:LC H us kss) (h0:sh≠[]) (hs:∀ks∈kss,ks.map isI=sh):CL s.heap us kss:=by
 refine .cT sh h.1 h0 fun i u ks e1 e2=>⟨?_,hs ks (List.mem_of_getElem? e2)⟩
 obtain ⟨q,rfl,eq⟩:=h.2 i u ks e1 e2
 obtain ⟨its,rv,ht,_⟩:=I.tuple (SqT.of eq)
 obtain ⟨o,e,c,n,d⟩:=ht
 obtain ⟨k1,k2⟩:=FG rv
 exact ⟨q,o,its.toArray,n,rfl,e,c,d,by simpa using k1,fun v hv=>k2 v (by simpa using hv)⟩
theorem Inv.LL {H:Hp}{s:Shared}{p0:Addr×Obj}(I:Inv X (p0::pins) σ H s):Inv X pins σ H s:=I.CZ fun p hp=>I.pin p (List.mem_append_right _ (List.mem_cons_of_mem _ hp))
theorem Inv.J7 {H:Hp}{s:Shared}{p0:Addr×Obj}(I:Inv X (p0::pins) σ H s):s.heap.get? p0.1=some p0.2/\H p0.1=none/\p0.1≠X.env.locals/\p0.1∉X.fs:=by
 have:=I.pin p0 (List.mem_append_right _ List.mem_cons_self)
 exact ⟨this.1,this.2.1,this.2.2.1,this.2.2.2.1⟩
theorem Inv.PQ {H:Hp}{s:Shared}{b:Addr}{o o':Obj}{h':Heap}{t':Nat}(I:Inv X ((b,o)::pins) σ H s) (fp:(b∈X.ex\/X.s₀.heap.objs.size≤b)/\(∀x c,X.env.cells.lookup x=some c→c≠b)/\∀p∈X.pn++pins,p.1≠b)
  (hs:Heap.SameBut b s.heap h') (hg:h'.get? b=some o') (hc:∀v,o'.data≠.cell v):Inv X ((b,o')::pins) σ H { s with heap:=h',toks:=t' }:=by
 obtain ⟨g1,g2,g3,g4⟩:=I.J7
 have J:Inv X pins σ H { s with heap:=h',toks:=t' }:=I.LL.turned (it:=b) (fun c u hc e=>(hs.2 c hc).trans e) g2 g3 fp.1 fp.2.1 fp.2.2
 refine J.CZ fun p hp=>?_
 rcases List.mem_cons.mp hp with rfl|hp
 ·exact ⟨hg,g2,g3,g4,hc⟩
 ·exact J.pin p (List.mem_append_right _ hp)
theorem EI {x:Value}:∀{l:List Value},x∈l→(x,x)∈l.zip l
 | y::r,h=>by
  rcases List.mem_cons.mp h with rfl|h
  ·exact List.mem_cons_self
  ·exact List.mem_cons_of_mem _ (EI h)
abbrev Fps (X:Cx) (pins:List (Addr×Obj)) (b:Addr):Prop:=(b∈X.ex\/X.s₀.heap.objs.size≤b)/\(∀x c,X.env.cells.lookup x=some c→c≠b)/\∀p∈X.pn++pins,p.1≠b
theorem N4 {H:Hp}{s:Shared}{a kS:Addr}{e e1:Nat}{ys:List V}{its:List Value}{kA:Array Value}{kss:List (List Key)}{sh:List Bool}{st:SortSt}{P:PySem.Fin→Shared→Prop}{E:Value→Shared→Prop}
  (rv:Vals ys its) (hz:its.length≤sizeLine) (h0:sh≠[]) (hs:∀ks∈kss,ks.map isI=sh) (hl:ys.length=kss.length)
  (I:Inv X ((kS,seqObj "list" kA e)::(a,seqObj "list" #[] e1)::pins) σ H s) (hka:kS≠a) (fpk:Fps X ((a,seqObj "list" #[] e1)::pins) kS) (fpa:Fps X pins a) (ka:LC H kA.toList kss)
  (hp:(arrOf st).Perm (kA.zip its.toArray)) (hu:Srt.Up (O:=lexOrd) (kfH s.heap) (arrOf st) 0 (arrOf st).size) (hf:failedOf st=none)
  (h:∀s' out c (qs:List (V×List Key)),Inv X pins σ H s'→s'.heap.get? a=some (seqObj "list" out c)→out.size≤sizeLine→qs.Perm (ys.zip kss)→Vals (qs.map (·.1)) out.toList→(qs.map (·.2)).Pairwise (fun a b=>BG b a=false)→P (.done (.ret .none)) s') :
  wpAny (model X.prog X.w) X.A.in1.in1 (ksk_tail a false e1 (.ref kS) st) P E s:=by
 have nk:=I.J7.1
 have na:=I.LL.J7.1
 have sv:=ka.sorts I h0 hs
 have hk:kA.size=kss.length:=by have:=ka.1;rwa [Array.length_toList] at this
 have hy:=rv.length
 obtain ⟨qs,q1,q2,q3⟩:=RU (kvs:=kA.toList) rv sv (by have l0:kA.toList.length=kA.size:=Array.length_toList;omega) (by rw [Array.toArray_toList];exact hp) hu
 have hsz:(arrOf st).size=its.length:=by
  have l1:(kA.zip its.toArray).size=min kA.size its.length:=by simp [Array.size_zip]
  rw [hp.size_eq,l1]
  omega
 have s1:=Heap.SameBut.update s.heap kS (Obj.mapSeq fun _=>(#[]:Array Value))
 obtain ⟨c1,hc1⟩:∃c1,(s.heap.update kS (Obj.mapSeq fun _=>(#[]:Array Value))).get? kS=some (seqObj "list" #[] c1):=⟨_,get?_update_seq nk fun _=>#[]⟩
 have na1:(s.heap.update kS (Obj.mapSeq fun _=>(#[]:Array Value))).get? a=some (seqObj "list" #[] e1):=(s1.2 a hka.symm).trans na
 have J1:Inv X ((kS,seqObj "list" #[] c1)::(a,seqObj "list" #[] e1)::pins) σ H { s with heap:=s.heap.update kS (Obj.mapSeq fun _=>(#[]:Array Value)),toks:=s.toks }:=I.PQ fpk s1 hc1 fun v z=>by cases z
 unfold ksk_tail
 try dsimp only
 refine wpAny_bind (listUpdate_at nk rfl ?_ (by omega) (Nat.zero_le _))
 refine wpAny_bind (wpAny_letGo ?_)
 refine wpAny_bind (seqEpoch_at na1 rfl ?_)
 simp only [Bool.false_eq_true,if_false]
 have s2:=Heap.SameBut.update (s.heap.update kS (Obj.mapSeq fun _=>(#[]:Array Value))) a (Obj.mapSeq fun _=>(arrOf st).map (·.2))
 obtain ⟨c2,hc2⟩:∃c2,((s.heap.update kS (Obj.mapSeq fun _=>(#[]:Array Value))).update a (Obj.mapSeq fun _=>(arrOf st).map (·.2))).get? a=some (seqObj "list" ((arrOf st).map (·.2)) c2):=⟨_,get?_update_seq na1 fun _=>(arrOf st).map (·.2)⟩
 have J2:=J1.LL.PQ (t':=s.toks) fpa s2 hc2 fun v z=>by cases z
 refine wpAny_bind (listUpdate_at na1 rfl ?_ (Nat.zero_le _) (Nat.le_trans (Nat.le_of_eq (Array.size_map ..)) (by omega)))
 rw [hf]
 simp only [bne_self_eq_false,Bool.false_eq_true,if_false]
 exact wpAny_pure (h _ _ c2 qs J2.LL hc2 (by rw [Array.size_map];omega) q1 q2 q3)
theorem PH {H:Hp}{s:Shared}{a kS:Addr}{e1:Nat}{ys:List V}{its:List Value}{kss:List (List Key)}{sh:List Bool}{P:PySem.Fin→Shared→Prop}{E:Value→Shared→Prop}
  (F:A9 X.prog X.w X.K X.mg X.base CX0 k f fd ps sp) (hb:Binds X.K fd ps []) (hr:BZ (k+2) X.A) (rv:Vals ys its) (hl:ys.length=kss.length) (hz:its.length≤sizeLine) (h0:sh≠[]) (hs:∀ks∈kss,ks.map isI=sh)
  (I:Inv X ((kS,seqObj "list" #[] 0)::(a,seqObj "list" #[] e1)::pins) σ H s) (hka:kS≠a)
  (fpk:Fps X ((a,seqObj "list" #[] e1)::pins) kS) (fpa:Fps X pins a)
  (turn:∀(i:Nat) y ks H1,ys[i]?=some y→kss[i]?=some ks→AH H H1→sp [y] H1 (fun v H2=>AH H1 H2/\∃q,v=.ref q/\H2 q=some (.tup (ks.map kV))) E0)
  (h:∀H1 s' out c (qs:List (V×List Key)),AH H H1→Inv X pins σ H1 s'→s'.heap.get? a=some (seqObj "list" out c)→H1 a=none→out.size≤sizeLine→qs.Perm (ys.zip kss)→Vals (qs.map (·.1)) out.toList→(qs.map (·.2)).Pairwise (fun a b=>BG b a=false)→P (.done (.ret .none)) s') :
  wpAny (model X.prog X.w) X.A.in1.in1 (ksk_rest a (.ref f) false its.toArray e1 (.ref kS)) P E s:=by
 have hy:=rv.length
 unfold ksk_rest
 refine wpAny_bind (wpAny_rule ?_)
 first
  | rw [List.forIn_toArray]
  | (rw [←Array.forIn_toList];simp only [List.toList_toArray])
  | rw [←Array.forIn_toList]
 refine wpAny_bind (ksk_fold (fun i s'=>∃H1 kA e,AH H H1/\Inv X ((kS,seqObj "list" kA e)::(a,seqObj "list" #[] e1)::pins) σ H1 s'/\LC H1 kA.toList (kss.take i)) its 0 s
  ⟨H,#[],0,AH.refl _,I,rfl,fun i u ks e1=>by simp at e1⟩ ?step ?done)
 case step =>
  rintro j x s' hx ⟨H1,kA,e,sm,I1,ka⟩
  simp only [Nat.zero_add] at ka ⊢
  have hj:j<its.length:=(List.getElem?_eq_some_iff.mp hx).1
  have hjy:j<ys.length:=by omega
  have hjk:j<kss.length:=by omega
  obtain ⟨u0,hu0,ry⟩:=rv.get (List.getElem?_eq_getElem hjy)
  rw [hx] at hu0
  cases hu0
  have ekj:kss[j]?=some kss[j]:=List.getElem?_eq_getElem hjk
  have spj:=turn j ys[j] kss[j] H1 (List.getElem?_eq_getElem hjy) ekj sm
  have lk:=ka.1
  rw [Array.length_toList,List.length_take] at lk
  have hl1:([x]:List Value).length=ps.length:=F.len _ _ _ _ spj
  refine wpAny_bind (wpAny_attempt (wpAny_call (codeAny_mono (F.run X.A.in1.in1 X.stack s' H1 ⟨[x],[]⟩ [x] [ys[j]] _ E0 hr.in1.in1 I1.Td.in1.in1 (by have:=hb s' [x] I1.kIn (by simpa using hl1);simpa using this) (.cons ry .nil) spj) fun rr s2 hq=>?_)))
  cases rr with
  | error ev=>exact hq.elim
  | ok fl =>
   cases fl with
   | next=>exact False.elim hq
   | brk=>exact False.elim hq
   | cont=>exact False.elim hq
   | ret u =>
    obtain ⟨v,H2,I2,rv2,sm2,q,rfl,eq⟩:=I1.after hq
    cases (show u=Value.ref q from rv2)
    have nk:=I2.J7.1
    have s1:=Heap.SameBut.update s2.heap kS (Obj.mapSeq (·.push (.ref q)))
    obtain ⟨c2,hc2⟩:∃c2,(s2.heap.update kS (Obj.mapSeq (·.push (.ref q)))).get? kS=some (seqObj "list" (kA.push (.ref q)) c2):=⟨_,get?_update_seq nk (·.push (.ref q))⟩
    try dsimp only
    refine wpAny_bind (listUpdate_at nk rfl ?_ (by omega) (Nat.le_trans (Nat.le_of_eq (Array.size_push ..)) (by omega)))
    refine wpAny_pure ⟨rfl,H2,kA.push (.ref q),c2,sm.trans sm2,(I2.PQ (t':=s2.toks) fpk s1 hc2 (fun v z=>by cases z)),?_,fun i u ks g1 g2=>?_⟩
    ·rw [Array.length_toList,Array.size_push,List.length_take]
     omega
    ·rw [Array.toList_push] at g1
     rw [List.take_add_one,ekj] at g2
     by_cases hi:i<kA.toList.length
     ·rw [List.getElem?_append_left hi] at g1
      rw [List.getElem?_append_left (by rw [List.length_take];rw [Array.length_toList] at hi;omega)] at g2
      obtain ⟨q',w1,w2⟩:=ka.2 i u ks g1 g2
      exact ⟨q',w1,sm2 _ _ w2⟩
     ·rw [List.getElem?_append_right (by omega)] at g1
      have hi0:i-kA.toList.length=0:=by
       have:=(List.getElem?_eq_some_iff.mp g1).1
       rw [List.length_singleton] at this
       omega
      rw [hi0] at g1
      rw [Array.length_toList] at hi hi0
      rw [List.getElem?_append_right (by rw [List.length_take];omega),List.length_take,show i-min j kss.length=0 by omega] at g2
      cases Option.some.inj g1
      cases Option.some.inj g2
      exact ⟨q,rfl,eq⟩
 case done =>
  rintro s' ⟨H1,kA,e,sm,I1,ka⟩
  rw [List.take_of_length_le (by omega)] at ka
  have nk:=I1.J7.1
  have na0:=I1.LL.J7.2.1
  try dsimp only
  refine wpAny_bind (listItems_at nk rfl ?_)
  have hk:kA.size=its.length:=by have:=ka.1;rw [Array.length_toList] at this;omega
  have hzs:(kA.zip its.toArray).size=its.length:=by rw [Array.size_zip,hk,List.size_toArray,Nat.min_self]
  have fin:∀st:SortSt,(arrOf st).Perm (kA.zip its.toArray)→Srt.Up (O:=lexOrd) (kfH s'.heap) (arrOf st) 0 (arrOf st).size→failedOf st=none→wpAny (model X.prog X.w) X.A.in1.in1 (ksk_tail a false e1 (.ref kS) st) P E s':=fun st p u fl =>
   N4 rv hz h0 hs hl I1 hka fpk fpa ka p u fl fun s2 out c qs J g1 g2 g3 g4 g5=>h H1 s2 out c qs sm J g1 na0 g2 g3 g4 g5
  unfold ksk_end
  try dsimp only
  simp only [Bool.false_eq_true,if_false]
  by_cases h2:its.toArray.size<2
  ·rw [if_pos h2,if_pos h2]
   refine wpAny_bind (wpAny_pure ?_)
   rw [StateT.run_pure]
   refine wpAny_bind (wpAny_pure ?_)
   try dsimp only
   refine fin (SortSt.mk' general' (kA.zip its.toArray) #[] 7 none) (Array.Perm.refl _) (fun i j _ q1 q2=>?_) rfl
   have q2:j<(kA.zip its.toArray).size:=q2
   rw [hzs] at q2
   rw [List.size_toArray] at h2
   obtain rfl:i=j:=by omega
   exact KeyOrd.kle_refl _
  ·rw [if_neg h2,if_neg h2]
   rw [List.size_toArray] at h2
   have sv:=ka.sorts I1 h0 hs
   obtain ⟨κ,kk,C⟩:=sv.cmp (prog:=X.prog) (w:=X.w) (A:=X.A.in1.in1) (s:=s') (by rw [Array.length_toList];omega) fun a o items m _ e _ _=>e
   rw [Array.toArray_toList] at kk
   have C':Srt.Cmp X.prog X.w X.A.in1.in1 s' κ lexOrd (kfH s'.heap) (kA.zip its.toArray):=⟨fun p hp q hq Q E z=>by
    have m1:p.1∈kA.toList:=KA (kvs:=kA.toList) (its:=its) (by rw [Array.toArray_toList];exact hp)
    have m2:q.1∈kA.toList:=KA (kvs:=kA.toList) (its:=its) (by rw [Array.toArray_toList];exact hq)
    exact C.ask (p.1,p.1) (by rw [pairsOf_toList];exact EI m1) (q.1,q.1) (by rw [pairsOf_toList];exact EI m2) Q E z⟩
   refine wpAny_bind (kk _ _ ?_)
   refine wpAny_bind (wpAny_mono (Srt.PV C' (st:=SortSt.mk' κ (kA.zip its.toArray) #[] 7 none) (Q:=fun _ st'=>Srt.SB κ (kA.zip its.toArray) st'/\Srt.Up (O:=lexOrd) (kfH s'.heap) (arrOf st') 0 (kA.zip its.toArray).size) ⟨Array.Perm.refl _,rfl,rfl⟩ rfl fun st' B u=>⟨B,u⟩) ?_ fun _ _ e=>e)
   rintro ⟨⟨⟩,st'⟩ s2 ⟨rfl,B,u⟩
   try dsimp only
   exact fin st' B.perm (by rw [B.perm.size_eq];exact u) B.failed
theorem Inv.adopt {H:Hp}{s:Shared}{a:Addr}{o:HO}(I:Inv X pins σ H s) (f:IH X pins H a) (h0:X.s₀.heap.get? a=none) (new:A7 X.prog X.w (upd H a o) s.heap a o):Inv X pins σ (upd H a o) s:=by
 obtain ⟨hn,hL,_,_,hc,hp⟩:=f
 have ne:∀b o,H b=some o→b≠a:=fun b o z q=>by rw [q,hn] at z;cases z
 refine ⟨I.ok,I.os,I.bare,⟨I.base.keep,I.base.slot,fun b o e1 n hx=>?_,I.base.there,fun b xs z=>?_,fun b o u z=>?_,fun b ps z=>?_⟩,I.loc,I.cell,?_,fun x c z=>?_,fun p q=>?_,I.hok.adopt hn new,I.len⟩
 ·have q:b≠a:=fun q=>by rw [q,h0] at e1;cases e1
  rw [AF q];exact I.base.free b o e1 n hx
 ·have:=I.base.Ia b xs z;rw [AF (ne _ _ this)];exact this
 ·have:=I.base.IG b o u z;rw [AF (ne _ _ this)];exact this
 ·obtain ⟨more,q⟩:=I.base.Ih b ps z;exact ⟨more,by rw [AF (ne _ _ q)];exact q⟩
 ·rw [AF hL.symm];exact I.free
 ·rw [AF (hc x c z)];exact I.Eu x c z
 ·obtain ⟨a1,a2,a3,a4,a5⟩:=I.pin p q
  exact ⟨a1,by rw [AF (hp p q)];exact a2,a3,a4,a5⟩
def Nv (K:PySem.W.Frag) (sp:Sp) (H:Hp) (ys:List V) (kss:List (List Key)):Prop :=
 ys.length=kss.length/\(∃sh:List Bool,sh≠[]/\∀ks∈kss,ks.map isI=sh)/\∀(i:Nat) y ks H1,ys[i]?=some y→kss[i]?=some ks→AH H H1→sp [y] H1 (fun v H2=>AH H1 H2/\∃q,v=.ref q/\H2 q=some (.tup (ks.map kV))) E0
theorem MZ {H:Hp}{s:Shared}{p:Addr}{ys:List V}{kss:List (List Key)}{Q:VK}{E:Value→Shared→Prop}
  (F:A9 X.prog X.w X.K X.mg X.base CX0 k f fd ps sp) (hb:Binds X.K fd ps []) (hr:BZ (k+2) X.A) (I:Inv X pins σ H s) (hq:SqL X.K H p ys) (kb:Nv X.K sp H ys kss)
  (q:∀l (qs:List (V×List Key)) H1,AH H H1→H1 l=none→qs.Perm (ys.zip kss)→(qs.map (·.2)).Pairwise (fun a b=>BG b a=false)→Q (.ref l) (upd H1 l (.lst (qs.map (·.1))))) :
  wpAny (model X.prog X.w) X.A (call (.builtin "sorted") [.ref p] [(Str.ofString "key", .ref f)]) (EP X pins σ Q) E s:=by
 obtain ⟨hl,⟨sh,h0,hs⟩,turn⟩:=kb
 obtain ⟨its,rv,pl,hz⟩:=I.list hq
 have hlen:=rv.length
 have hli:=pl.isList
 refine call_function_entry_kw kind_sorted plain_sorted entry_sorted (ksk_s1 _ _) ?_
 unfold Builtin.«sorted»
 refine wpAny_bind (m:=checkCount "sorted" 1 1 _) (wpAny_pure ?_)
 refine wpAny_bind (collect_list hli ?_ (by omega))
 refine wpAny_bind (wpAny_newList ?_ (by omega))
 have hsz:((s.heap.push (seqObj "list" #[] 0)).update s.heap.objs.size (Obj.mapSeq (·++its.toArray))).objs.size=s.heap.objs.size+1:=by
  rw [Heap.size_update,size_push']
 have hoL:(((s.heap.push (seqObj "list" #[] 0)).update s.heap.objs.size (Obj.mapSeq (·++its.toArray))).push (seqObj "list" its.toArray 0)).get? (s.heap.objs.size+1)=some (seqObj "list" its.toArray 0):=by
  rw [←hsz];exact Heap.get?_push_size _ rfl
 have kp:∀b o,s.heap.get? b=some o→(((s.heap.push (seqObj "list" #[] 0)).update s.heap.objs.size (Obj.mapSeq (·++its.toArray))).push (seqObj "list" its.toArray 0)).get? b=some o:=fun b o e =>
  Heap.get?_push_of_some _ ((Heap.get?_update_ne _ _ _ _ (Nat.ne_of_lt (Heap.lt_size e))).trans (Heap.get?_push_of_some _ e))
 show wpAny _ _ _ _ _ { s with heap:=((s.heap.push (seqObj "list" #[] 0)).update s.heap.objs.size (Obj.mapSeq (·++its.toArray))).push (seqObj "list" its.toArray 0) }
 rw [hsz]
 refine wpAny_bind (wpAny_holding (wpAny_call_entry_kw slot_list_sort ⟨_,hoL,rfl⟩ entry_list_sort ?body (ksk_l1 _ _)))
 case body =>
  have ht':=ksk_t1 f (s.heap.objs.size+1)
  show wpAny (model X.prog X.w) X.A.in1.in1 (Builtin.«list.sort» ⟨[.ref (s.heap.objs.size+1)],[(Str.ofString "key", .ref f)]⟩) _ _ _
  rw [ht']
  generalize hg:(((s.heap.push (seqObj "list" #[] 0)).update s.heap.objs.size (Obj.mapSeq (·++its.toArray))).push (seqObj "list" its.toArray 0))=g at hoL kp ⊢
  have hgs:g.objs.size=s.heap.objs.size+2:=by rw [←hg,size_push',hsz]
  have s1:=Heap.SameBut.update g (s.heap.objs.size+1) (Obj.mapSeq fun _=>(#[]:Array Value))
  obtain ⟨e1,ho1⟩:∃e1,(g.update (s.heap.objs.size+1) (Obj.mapSeq fun _=>(#[]:Array Value))).get? (s.heap.objs.size+1)=some (seqObj "list" #[] e1):=⟨_,get?_update_seq hoL fun _=>#[]⟩
  have hkS:((g.update (s.heap.objs.size+1) (Obj.mapSeq fun _=>(#[]:Array Value))).push (seqObj "tuple" its.toArray 0)).objs.size=s.heap.objs.size+3:=by rw [size_push',Heap.size_update,hgs]
  have kp2:∀b o,s.heap.get? b=some o→(((g.update (s.heap.objs.size+1) (Obj.mapSeq fun _=>(#[]:Array Value))).push (seqObj "tuple" its.toArray 0)).push (seqObj "list" #[] 0)).get? b=some o:=fun b o e =>
   Heap.get?_push_of_some _ (Heap.get?_push_of_some _ ((s1.2 b (Nat.ne_of_lt (Nat.lt_succ_of_lt (Heap.lt_size e)))).trans (kp b o e)))
  have fpA:IH X pins H (s.heap.objs.size+1):=I.Rw (Nat.le_succ _) (I.hok.fresh (Nat.le_succ _))
  have fpK:IH X pins H (s.heap.objs.size+3):=I.Rw (Nat.le_add_right _ 3) (I.hok.fresh (Nat.le_add_right _ 3))
  have J0:Inv X pins σ H { s with heap:=((g.update (s.heap.objs.size+1) (Obj.mapSeq fun _=>(#[]:Array Value))).push (seqObj "tuple" its.toArray 0)).push (seqObj "list" #[] 0),toks:=s.toks }:=I.kept kp2
  have gA:(((g.update (s.heap.objs.size+1) (Obj.mapSeq fun _=>(#[]:Array Value))).push (seqObj "tuple" its.toArray 0)).push (seqObj "list" #[] 0)).get? (s.heap.objs.size+1)=some (seqObj "list" #[] e1):=Heap.get?_push_of_some _ (Heap.get?_push_of_some _ ho1)
  have gK:(((g.update (s.heap.objs.size+1) (Obj.mapSeq fun _=>(#[]:Array Value))).push (seqObj "tuple" its.toArray 0)).push (seqObj "list" #[] 0)).get? (s.heap.objs.size+3)=some (seqObj "list" #[] 0):=by rw [←hkS];exact Heap.get?_push_size _ rfl
  have J:Inv X ((s.heap.objs.size+3,seqObj "list" #[] 0)::(s.heap.objs.size+1,seqObj "list" #[] e1)::pins) σ H { s with heap:=((g.update (s.heap.objs.size+1) (Obj.mapSeq fun _=>(#[]:Array Value))).push (seqObj "tuple" its.toArray 0)).push (seqObj "list" #[] 0),toks:=s.toks }:=by
   refine J0.CZ fun x hx=>?_
   rcases List.mem_cons.mp hx with rfl|hx
   ·exact ⟨gK,fpK.1,fpK.2.1,fpK.2.2.1,fun v z=>by cases z⟩
   ·rcases List.mem_cons.mp hx with rfl|hx
    ·exact ⟨gA,fpA.1,fpA.2.1,fpA.2.2.1,fun v z=>by cases z⟩
    ·exact J0.pin x (List.mem_append_right _ hx)
  unfold ksk_tree
  refine wpAny_bind (listItems_at hoL rfl ?_)
  refine wpAny_bind (listUpdate_at hoL rfl ?_ (by rw [List.size_toArray];omega) (Nat.zero_le _))
  refine wpAny_bind (seqEpoch_at ho1 rfl ?_)
  refine wpAny_bind (wpAny_newTuple ?_ (by show its.length≤_;omega))
  refine wpAny_bind (wpAny_newList ?_ (Nat.zero_le _))
  refine wpAny_holding ?_
  have hna:(s.heap.objs.size+3:Addr)≠s.heap.objs.size+1:=fun z=>by have z':(s.heap.objs.size+3:Nat)=s.heap.objs.size+1:=z;omega
  have fK2:Fps X ((s.heap.objs.size+1,seqObj "list" #[] e1)::pins) (s.heap.objs.size+3):=⟨fpK.2.2.2.1,fpK.2.2.2.2.1,fun x hx=>by
   rcases List.mem_append.mp hx with hx|hx
   ·exact fpK.2.2.2.2.2 x (List.mem_append_left _ hx)
   ·rcases List.mem_cons.mp hx with rfl|hx
    ·exact hna.symm
    ·exact fpK.2.2.2.2.2 x (List.mem_append_right _ hx)⟩
  show wpAny (model X.prog X.w) X.A.in1.in1 (ksk_rest (s.heap.objs.size+1) (.ref f) false its.toArray e1 (.ref ((g.update (s.heap.objs.size+1) (Obj.mapSeq fun _=>(#[]:Array Value))).push (seqObj "tuple" its.toArray 0)).objs.size)) _ _ { s with heap:=((g.update (s.heap.objs.size+1) (Obj.mapSeq fun _=>(#[]:Array Value))).push (seqObj "tuple" its.toArray 0)).push (seqObj "list" #[] 0),toks:=s.toks }
  rw [hkS]
  refine PH F hb hr rv hl (by omega) h0 hs J hna fK2 fpA.2.2.2 turn fun H1 s' out c qs sm J' g1 n1 z1 w1 w2 w3=>⟨_,rfl,wpAny_pure ⟨_,rfl,?_⟩⟩
  have fpA':IH X pins H1 (s.heap.objs.size+1):=⟨n1,fpA.2⟩
  have hs0:X.s₀.heap.get? (s.heap.objs.size+1)=none:=Heap.get?_none_of_le (Nat.le_trans I.sz (Nat.le_succ _))
  refine ⟨.ref (s.heap.objs.size+1),_,J'.adopt (o:=.lst (qs.map (·.1))) fpA' hs0 ⟨?_,out.toList,c,w2,by rw [Array.toArray_toList];exact g1⟩,rfl,q _ qs H1 sm n1 w1 w3⟩
  have l0:out.toList.length=out.size:=Array.length_toList
  have l1:=w2.length
  show (qs.map (·.1)).length≤sizeLine
  omega
end
section
variable {X:Cx}{k:Nat}{f:Addr}{fd:FuncData}{ps:List Str}{sp:Sp}{x y:Str}{p p2 pk pos:Pos}{e:Expr}{t:TE}{K:PySem.W.Frag}
def SW (K:PySem.W.Frag) (sp:Sp) (t:TE):TE:=fun σ H Q=>t σ H fun v H1=>∃(a:Addr) (ys:List V) (kss:List (List Key)),v=.ref a/\SqL K H1 a ys/\Nv K sp H1 ys kss /\
 ∀l (qs:List (V×List Key)) H2,AH H1 H2→H2 l=none→qs.Perm (ys.zip kss)→(qs.map (·.2)).Pairwise (fun a b=>BG b a=false)→Q (.ref l) (upd H2 l (.lst (qs.map (·.1))))
theorem Pg (F:A9 X.prog X.w X.K X.mg X.base CX0 k f fd ps sp) (hr:BZ (k+2) X.A) (hg:Gl X y) (hm:X.mg y=some (.ref f)) (hb:Binds X.K fd ps []) (hs:Gl X x) (hsm:X.mg x=none) (hv:bootBuiltins x=some (.builtin "sorted")) (he:PE X e t)
  (hK:X.K=K:=by rfl) (hn:x ≠ "__name__" := by decide) (hdb:(x==("__debug__" : Str))=false:=by decide) (hdy:(y==("__debug__" : Str))=false:=by decide) (hst:backTo pos (starEach [e] X.env)=[(false,eval e X.env)]:=by rfl) :
  PE X (.Call (.Name x p) [e] [⟨some "key", .Name y p2,pk⟩] pos) (SW K sp t):=by
 subst hK
 intro pins s σ H Q I h
 refine wpAny_Call_Name_kw (EZ I hs hsm hv ?_ hn hdb)
 refine callWith_kw ?_ hst (by rw [hst];rfl) rfl rfl
 rw [hst]
 refine Calls.spliced_cons (thn (he pins s σ H _ I h) fun u s1 ⟨v,H1,I1,rv,a,ys,kss,ea,hq,kb,q⟩=>Calls.spliced_nil ?_)
 subst ea
 obtain rfl:u=Value.ref a:=rv
 refine wpAny_evalAll_cons (wpAny_bind (IL I1 hg hm (wpAny_bind (wpAny_standAt (wpAny_pure (wpAny_evalAll_nil ?_)))) hdy))
 exact MZ F hb hr I1 hq kb q
end
end L2
namespace L2
open PySem PySem.Spec PyProof.Rows
section
variable {X:Cx}
theorem RS {K:PySem.W.Frag}{e:Expr}{ta:TE}{f:Str}{pos:Pos}(he:PE X e ta) (hb:attributeBase e f X.env (eval e X.env)=eval e X.env) (hK:X.K=K:=by rfl):PE X (.Attribute e f pos) (T1 K ta f):=by subst hK;exact Dr he hb
end
end L2
namespace Sdf
open PySem PySem.Spec PyProof.Rows
section
variable {prog:Program}{w:World}{K:Type}[DecidableEq K] {knd:HeapKind prog w K}{A:Around}{E:Value→Shared→Prop}{s:Shared}
theorem IE {d a:Addr}{xs:List (K×Addr×Value)}{k:K}{dflt:Value}{Q:Value→Shared→Prop}(hu:knd.room A) (hkey:knd.is s.heap k a) (hm:s.heap.DictOfH knd d xs)
  (hthere:∀p,atKey xs k=some p→Q p.2 { s with toks:=s.toks+knd.draws k })
  (hnew:atKey xs k=none→∀h',h'.DictOfH knd d (storedH xs k a dflt)→Heap.SameBut d s.heap h'→Q dflt { s with heap:=h',toks:=s.toks+knd.draws k })
  (hsz:xs.length≤sizeLine) :
  wpAny (model prog w) A (dictSetDefault d (.ref a) dflt) Q E s:=by
 obtain ⟨o,es,ep,ho,hc,hd,he,his,hn⟩:=hm
 have hes:es.size≤sizeLine:=by rw [size_of_entries he];exact hsz
 unfold dictSetDefault
 try with_reducible refine wpAny_holding ?_
 refine wpAny_bind (knd.pyHash hu hkey ?_)
 refine wpAny_bind (wpAny_dictFind_heap (s:={ s with toks:=s.toks+knd.draws k }) hu hkey ho hd he his hn ?_ ?_)
 ·intro hno
  have hnot:k∉xs.map (·.1):=not_mem_keys_of_get hno
  have hak:atKey xs k=none:=atKey_none_of_get hno
  refine wpAny_bind (wpAny_rule (wpAny_bind (wpAny_updateDictKeys (hz:=hes) (s:={ s with toks:=s.toks+knd.draws k }) ho hd (wpAny_pure (hnew hak _ ⟨_,_,ep+1,Heap.get?_update_self _ ho (Obj.isFreed_of_dict (Obj.data_mapDictKeys hd _)),
   hc.mapDictKeys _,Obj.data_mapDictKeys hd _,?_,fun x hx=>?_,?_⟩ (Heap.SameBut.update ..))))))
  ·rw [storedH_new hak,List.map_append,←he]
   obtain ⟨l⟩:=es
   simp [entryOfKey]
  ·rw [storedH_new hak] at hx
   rcases List.mem_append.mp hx with hx|hx
   ·exact knd.keeps (his x hx) ho hd (Heap.SameBut.update ..)
   ·rw [List.mem_singleton.mp hx]
    exact knd.keeps hkey ho hd (Heap.SameBut.update ..)
  ·rw [storedH_new hak,List.map_append,List.nodup_append]
   refine ⟨hn,by simp,?_⟩
   intro x hx y hy
   simp only [List.map_cons,List.map_nil,List.mem_singleton] at hy
   subst hy
   exact fun e=>hnot (e ▸ hx)
 ·intro j p hj
  have hak:atKey xs k=some p:=atKey_of_get hn hj
  refine wpAny_bind (wpAny_dictEntries (s:={ s with toks:=s.toks+knd.draws k }) ho hd ?_)
  have he2:es[j]?=some (entryOfKey knd (k,p)):=by rw [entry_at he j,hj];rfl
  simp only [he2]
  exact wpAny_bind (wpAny_rule (wpAny_pure (hthere p hak)))
end
end Sdf
namespace Sdf
open PySem PySem.Spec PyProof.Rows
section
variable {prog:Program}{w:World}{K:Type}[DecidableEq K] {knd:HeapKind prog w K}{A:Around}{E:Value→Shared→Prop}{s:Shared}
theorem GX {d a:Addr}(hd:(d==sysModules)=false) (dflt:Value) :
  MeetsIn prog w (Builtin.«dict.setdefault» ⟨[.ref d,.ref a,dflt],[]⟩) (fun A R s=>knd.room A.in1/\∃k xs,knd.is s.heap k a/\s.heap.DictOfH knd d xs/\xs.length≤sizeLine/\(∀p,atKey xs k=some p→R (.ok (.ret p.2)) { s with toks:=s.toks+knd.draws k }) /\
   (atKey xs k=none→∀h',h'.DictOfH knd d (storedH xs k a dflt)→Heap.SameBut d s.heap h'→R (.ok (.ret dflt)) { s with heap:=h',toks:=s.toks+knd.draws k })) :=
 .of_wp fun A R s ⟨hu,k,xs,hkey,hm,hsz,h1,h2⟩=>by
  unfold Builtin.«dict.setdefault»
  refine wpAny_bind ?_
  unfold Builtin.Dict.keyAndDefault
  refine wpAny_bind (wpAny_notOrdered_dict hm.typeIs ?_)
  show wpAny _ _ (pure (d,Value.ref a,some dflt)) _ _ s
  refine wpAny_pure ?_
  simp only [hd,Bool.false_eq_true,if_false]
  exact wpAny_bind (IE hu hkey hm (fun p hp=>wpAny_pure ⟨p.2,rfl,h1 p hp⟩) (fun hn h' hm' hs'=>wpAny_pure ⟨dflt,rfl,h2 hn h' hm' hs'⟩) hsz)
end
end Sdf
namespace L2
open PySem PySem.Spec PyProof.Rows
section
variable {X:Cx}{o e f:Expr}{apos cpos:Pos}{td ty tx:TE}
def SX (td ty tx:TE):TE:=fun σ H Q=>td σ H fun x H1=>∃a,x=.ref a/\IsD H1 a/\ty σ H1 fun y H2=>tx σ H2 fun z H3=>∃kvs k b,H3 a=some (.dT kvs)/\y=.ref b/\H3 b=some (.tup (k.map kV))/\kvs.length<sizeLine /\
 (∀v,A0 kvs k=some v→Q v H3)/\(A0 kvs k=none→Q z (upd H3 a (.dT (putK kvs k z))))
theorem OF (hu:X.A.units+1<cLine) (ho:PE X o td) (he:PE X e ty) (hf:PE X f tx) (m:M2 X o "setdefault" apos e f cpos):PE X (.Call (.Attribute o "setdefault" apos) [e,f] [] cpos) (SX td ty tx):=by
 intro pins s σ H Q I h
 refine wpAny_Call_method m.base m.few m.line PySem.F.plainAttrs_dict PySem.F.slot_dict_setdefault PySem.F.type_dict_setdefault (thn (ho pins s σ H _ I h) fun u s1 ⟨x,H1,I1,rx,a,ex,d,q1⟩=>?_)
 subst ex
 obtain rfl:u=Value.ref a:=rx
 obtain ⟨t1,t2,_⟩:=Ky I1 d
 refine ⟨t1,t2,?_⟩
 rw [m.trees]
 refine Calls.callWith_builtin rfl (Calls.evalArgs_plain (Calls.spliced_cons (thn (he pins s1 σ H1 _ I1 q1) fun iv s2 ⟨y,H2,I2,ry,q2⟩ =>
  Calls.spliced_cons (thn (hf pins s2 σ H2 _ I2 q2) fun fv s3 ⟨z,H3,I3,rz,kvs,k,b,ea,ey,eb,hl,q3,q4⟩=>Calls.spliced_nil ?_))))
 subst ey
 cases (show iv=Value.ref b from ry)
 obtain ⟨zz,hd,xs,rel,dd⟩:=Qc I3.hok ea
 refine call_meetsIn PySem.F.slot_dict_setdefault dd.typeIs PySem.F.entry_dict_setdefault (PySem.F.args_dict_setdefault_3 _ _ _) (Sdf.GX (knd:=tupleKind (AR X.prog X.w)) hd fv) ⟨tupleKind_room_in1 hu,k,xs,HG I3.hok eb,dd,by rw [←Paired.length rel];exact zz,fun p hp=>?_,fun hn h' dd' hs=>?_⟩
 ·cases l:A0 kvs k with
  | none=>have:=C9.none_of (o:=(atKey xs k).map (·.2)) (by rw [←l];exact rel.val k);rw [hp] at this;cases this
  | some v =>
   obtain ⟨w2,hw2,rw2⟩:=C9.some_of (v:=v) (o:=(atKey xs k).map (·.2)) (by rw [←l];exact rel.val k)
   rw [hp] at hw2
   cases hw2
   exact ⟨v,H3,I3.tok _,rw2,q3 v l⟩
 ·have l:A0 kvs k=none:=by
   cases l:A0 kvs k with
   | none=>rfl
   | some v =>
    obtain ⟨w2,hw2,_⟩:=C9.some_of (v:=v) (o:=(atKey xs k).map (·.2)) (by rw [←l];exact rel.val k)
    rw [hn] at hw2
    cases hw2
  have hl2:(putK kvs k z).length≤sizeLine:=by have:=Dg kvs k z;omega
  obtain ⟨q,es,ep,hq,h2,h3,h4,_,h5⟩:=dd'
  refine ⟨z,upd H3 a (.dT (putK kvs k z)),Gg I3 (by rw [ea];exact True.intro) hs ⟨q,hq⟩ ⟨hl2,hd,_,(rel.put k eb rz).keeps fun c ys ec=>?_,q,es,ep,hq,h2,h3,h4,h5⟩,rz,q4 l⟩
  rw [AF (SQ ec ea (fun z=>nomatch z))]
  exact ec
end
end L2
namespace Dkr
open PySem PySem.Spec PyProof.Rows
def Raw (h:Heap) (d:Addr) (es:Array DictEntry) (ep:Nat):Prop:=∃o,h.get? d=some o/\o.ExactDict/\o.data=.dict es ep
section
variable {prog:Program}{w:World}{A:Around}{E:Value→Shared→Prop}{s:Shared}{d it:Addr}{es:Array DictEntry}{ep i:Nat}
theorem Raw.type (r:Raw s.heap d es ep):s.TypeIs (.ref d) "dict" := let ⟨o,e,c,_⟩:=r;⟨o,e,c.1⟩
theorem Raw.lt {h:Heap}(r:Raw h d es ep):d<h.objs.size:=let ⟨_,e,_⟩:=r;Heap.lt_size e
theorem Raw.keep {h h':Heap}(r:Raw h d es ep) (k:∀o,h.get? d=some o→h'.get? d=some o):Raw h' d es ep:=let ⟨o,e,c⟩:=r;⟨o,k o e,c⟩
theorem iter (lo:(d==sysModules)=false) (r:Raw s.heap d es ep) {Q:Value→Shared→Prop}
  (hQ:Q (.ref s.heap.objs.size) { s with heap:=s.heap.push { cls:=.type "dict_keyiterator", data:=.fields #[.ref d,.int 0 0,.int es.size 0,.int ep 0] } }):wpAny (model prog w) A (pyIter (.ref d)) Q E s:=by
 have t:=r.type
 obtain ⟨o,ho,c,hd⟩:=r
 refine wpAny_pyIter_slot t F.slot_dict_iter (wpAny_call_entry F.slot_dict_iter t F.entry_dict_iter ?_ (F.args_dict_iter_1 _))
 unfold Builtin.«dict.__iter__» Builtin.Dict.dictSlotNone
 refine wpAny_bind (wpAny_bind (wpAny_notOrdered_dict t (wpAny_pure ?_)))
 show wpAny _ _ (Builtin.Dict.showsAll d >>= _) _ _ s
 unfold Builtin.Dict.showsAll
 rw [if_neg (by rw [lo];exact Bool.false_ne_true)]
 refine wpAny_bind (wpAny_pure (wpAny_bind (wpAny_dictEntries ho hd (wpAny_bind (wpAny_dictEpoch ho hd ?_)))))
 refine wpAny_bind (wpAny_newObj_type (wpAny_pure ⟨_,rfl, "dict_keyiterator", _,⟨_,Heap.get?_push_size _ rfl,rfl⟩,F.slot_dict_keyiterator_next.lookup,?_⟩))
 simpa [rawInt] using hQ
theorem next_item (k:s.heap.IsKeyIter it d i es.size ep) (r:Raw s.heap d es ep) (hl:i<es.size) {Q:Option Value→Shared→Prop}
  (hQ:∀h',h'.IsKeyIter it d (i+1) es.size ep→Heap.SameBut it s.heap h'→Q (some es[i].key) { s with heap:=h' }):wpAny (model prog w) A (pyNext (.ref it)) Q E s:=by
 have t:=k.typeIs
 obtain ⟨o,ho,hc,hd⟩:=id k
 obtain ⟨od,ho2,c2,hd2⟩:=r
 have k':(s.heap.update it (Obj.mapFields (·.setIfInBounds 1 (rawInt ((i:Int)+1))))).IsKeyIter it d (i+1) es.size ep :=
  ⟨_,Heap.get?_update_self _ ho (Obj.isFreed_of_fields (Obj.data_mapFields hd _)),(Obj.cls_mapFields ..).trans hc,by rw [Obj.data_mapFields hd];simp [rawInt]⟩
 unfold pyNext
 refine wpAny_bind (wpAny_attempt (wpAny_callSpecial?_slot (name:=Str.ofString "__next__") t F.slot_dict_keyiterator_next (wpAny_call_entry F.slot_dict_keyiterator_next t F.entry_dict_keyiterator_next ?_ (F.args_dict_keyiterator_next_1 _))))
 refine wpAny_bind (wpAny_pure (wpAny_bind (wpAny_bind ?_)))
 first|refine wpAny_bind (wpAny_typeNameOfWhole_keyiter t (wpAny_pure (wpAny_bind (wpAny_fieldsOf ho hd ?_))))|refine wpAny_bind (wpAny_typeNameOf_keyiter t (wpAny_pure (wpAny_bind (wpAny_fieldsOf ho hd ?_))))
 simp only [show Builtin.Dict_items.ownsTuple "dict_keyiterator" = false from by decide,Bool.false_eq_true,if_false]
 show wpAny _ _ (if (Value.ref d==Value.none)=true then _ else _) _ _ s
 rw [if_neg (show ¬ ((Value.ref d==Value.none)=true) from Bool.false_ne_true)]
 refine wpAny_bind (wpAny_pure (wpAny_bind (wpAny_dictEntries ho2 hd2 ?_)))
 rw [if_neg (by simp)]
 refine wpAny_bind (wpAny_pure (wpAny_bind (wpAny_dictEpoch ho2 hd2 ?_)))
 rw [if_neg (by simp)]
 refine wpAny_pure ?_
 simp only [show ¬ ((i:Int)<0) from by omega,if_false,Int.toNat_natCast,Array.getElem?_eq_getElem hl]
 refine wpAny_bind ?_
 first|refine wpAny_bind (wpAny_typeNameOfWhole_keyiter t (wpAny_pure (wpAny_bind (wpAny_isOneOf_keyiter t ?_))))|refine wpAny_bind (wpAny_typeNameOf_keyiter t (wpAny_pure (wpAny_bind (wpAny_isOneOf_keyiter t ?_))))
 show wpAny _ _ (setField (.ref it) 1 (rawInt ((i:Int)+1)) >>= _) _ _ s
 refine wpAny_bind (wpAny_setField ho hd (by simp) (wpAny_bind (wpAny_holding (wpAny_bind (wpAny_isOneOf_keyiter (s:={ s with heap:=s.heap.update it (Obj.mapFields (·.setIfInBounds 1 (rawInt ((i:Int)+1)))) }) k'.typeIs ?_)))))
 show wpAny _ _ (pure es[i].key) _ _ _
 exact wpAny_pure (wpAny_pure ⟨_,rfl,wpAny_pure (hQ _ k' (Heap.SameBut.update ..))⟩)
theorem next_end (hh:A.handled=none) (k:s.heap.IsKeyIter it d i es.size ep) (r:Raw s.heap d es ep) (hl:es.size≤i) {Q:Option Value→Shared→Prop}
  (hQ:∀h',Heap.ExtBut it s.heap h'→Q none { s with heap:=h' }):wpAny (model prog w) A (pyNext (.ref it)) Q E s:=by
 have t:=k.typeIs
 obtain ⟨o,ho,hc,hd⟩:=id k
 obtain ⟨od,ho2,c2,hd2⟩:=r
 unfold pyNext
 refine wpAny_bind (wpAny_attempt (wpAny_callSpecial?_slot (name:=Str.ofString "__next__") t F.slot_dict_keyiterator_next (wpAny_call_entry F.slot_dict_keyiterator_next t F.entry_dict_keyiterator_next ?_ (F.args_dict_keyiterator_next_1 _))))
 refine wpAny_bind (wpAny_pure (wpAny_bind (wpAny_bind ?_)))
 first|refine wpAny_bind (wpAny_typeNameOfWhole_keyiter t (wpAny_pure (wpAny_bind (wpAny_fieldsOf ho hd ?_))))|refine wpAny_bind (wpAny_typeNameOf_keyiter t (wpAny_pure (wpAny_bind (wpAny_fieldsOf ho hd ?_))))
 simp only [show Builtin.Dict_items.ownsTuple "dict_keyiterator" = false from by decide,Bool.false_eq_true,if_false]
 show wpAny _ _ (if (Value.ref d==Value.none)=true then _ else _) _ _ s
 rw [if_neg (show ¬ ((Value.ref d==Value.none)=true) from Bool.false_ne_true)]
 refine wpAny_bind (wpAny_pure (wpAny_bind (wpAny_dictEntries ho2 hd2 ?_)))
 rw [if_neg (by simp)]
 refine wpAny_bind (wpAny_pure (wpAny_bind (wpAny_dictEpoch ho2 hd2 ?_)))
 rw [if_neg (by simp)]
 refine wpAny_pure ?_
 simp only [show ¬ ((i:Int)<0) from by omega,if_false,Int.toNat_natCast,Array.getElem?_eq_none hl]
 refine wpAny_bind ?_
 first|refine wpAny_bind (wpAny_typeNameOfWhole_keyiter t (wpAny_pure ?_))|refine wpAny_bind (wpAny_typeNameOf_keyiter t (wpAny_pure ?_))
 show wpAny _ _ (setField (.ref it) 0 .none >>= _) _ _ s
 refine wpAny_bind (wpAny_setField ho hd (by simp) ?_)
 show wpAny _ _ (newExc (.type "StopIteration") [] >>= _) _ _ _
 refine wpAny_bind ?_
 simp only [newExc,newTuple]
 refine wpAny_bind (wpAny_newObj_type (wpAny_bind (m:=firstArgMember _ _) (wpAny_of_eq (a:=Value.none) (by first|rfl|(simp only [firstArgMember];rfl)) (wpAny_newObj_type ?_ (by size_fits)))) (by size_fits))
 simp only [raiseNew]
 refine wpAny_bind (wpAny_handled ?_)
 rw [show A.in1.handled=none from hh]
 refine wpAny_bind (wpAny_pure (wpAny_throw ?_))
 refine wpAny_bind (wpAny_isInstance (T := "StopIteration") (b:=true) ⟨_,Heap.get?_push_size _ rfl,rfl⟩ isSubtype_stop ?_)
 exact wpAny_pure (hQ _ (((Heap.SameBut.update ..).extBut.push _).push _))
theorem walks (hh:A.handled=none) (I:Addr) (hne:d≠I):Walks prog w A I [I,d] [I] es.size (fun j v=>∃h:j<es.size,v=es[j].key) (fun j h=>h.IsKeyIter I d j es.size ep/\Raw h d es ep) where
 sub:=fun b hb=>by simp at hb;simp [hb]
 frame:=fun _ _ _ st hk=>⟨st.1.at fun o e=>hk I (by simp) o e,st.2.keep fun o e=>hk d (by simp) o e⟩
 item:=fun j s Q E hj st hQ=>next_item st.1 st.2 hj fun h' k' sb=>hQ _ h' s.toks ⟨hj,rfl⟩ ⟨k',st.2.keep fun o e=>sb.extBut d o hne e⟩ fun b o hb e=>sb.extBut b o (fun h=>hb (by simp [h])) e
 done:=fun s Q E st hQ=>next_end hh st.1 st.2 (Nat.le_refl _) fun h' he=>hQ h' s.toks fun b o hb e=>he b o (fun h=>hb (by simp [h])) e
 self:=fun _ _ _ _ st hQ=>wpAny_pyIter_keyiter st.1 hQ
theorem src (lo:(d==sysModules)=false):PySem.W.KdlSrc prog w "dict" d d es.size (fun j v=>∃h:j<es.size,v=es[j].key) (fun h=>Raw h d es ep) where
 type:=fun _ r=>r.type
 there:=fun _ r=>⟨r.lt,r.lt⟩
 keep:=fun _ _ r hk=>r.keep fun o e=>hk d (.inl rfl) o e
 notList:=by decide
 notTuple:=by decide
 hint:=fun _ _ _ _ r hq=>PySem.W.kdl_hint_dict r.type hq
 iter:=fun _ _ hh r=>⟨_,_,(fun _ _ hq=>iter lo r hq),walks hh _ (Nat.ne_of_lt r.lt),⟨⟨_,Heap.get?_push_size _ rfl,rfl,rfl⟩,r.keep fun o e=>Heap.get?_push_of_some _ e⟩⟩
end
end Dkr
namespace L2
open PySem PySem.Spec PyProof.Rows
section
variable {X:Cx}{K:PySem.W.Frag}
theorem K5 (hc:X.calm=true) (hK:X.K=K:=by rfl):Cg X (.builtin "sorted") (fun xs H Q=>∃(d:Addr) (kvs:List (List Key×V)) (sh:List Bool),xs=[.ref d]/\H d=some (.dT kvs)/\sh≠[]/\(∀p∈kvs,p.1.map isI=sh) /\
  ∀l (ys:List V) (ks:List (List Key)),H l=none→Rws H ys ks→ks.Perm (kvs.map (·.1))→ks.Pairwise (fun a b=>BG b a=false)→Q (.ref l) (upd H l (.lst ys))):=by
 subst hK
 intro pins s σ H xs us Q I r h
 obtain ⟨d,kvs,sh,rfl,e,hsh,hall,q⟩:=h
 obtain ⟨u,rfl,ru⟩:=vals1 r
 cases ru
 obtain ⟨z,lo,qs0,rel,dd⟩:=Qc I.hok e
 obtain ⟨o,es,ep,ho,hx,hd,he,_,_⟩:=dd
 have hlen:kvs.length=qs0.length:=Paired.length rel
 have hsz:es.size=qs0.length:=size_of_entries he
 have ry:Rws H (qs0.map fun q=>V.ref q.2.1) (kvs.map (·.1)):=by
  refine Aa (by rw [List.length_map,List.length_map];omega) fun i x ks e1 e2=>?_
  rw [List.getElem?_map] at e1 e2
  obtain ⟨q1,e3,rfl⟩:=Option.map_eq_some_iff.mp e1
  obtain ⟨p1,e4,rfl⟩:=Option.map_eq_some_iff.mp e2
  exact ⟨_,rfl,(D5 rel e4 e3).2.1⟩
 refine Calls.call_function_entry kind_sorted plain_sorted entry_sorted (args_sorted1 _) ?_
 unfold Builtin.«sorted»
 refine wpAny_bind (m:=checkCount "sorted" 1 1 _) (wpAny_pure ?_)
 refine wpAny_bind (Gi (Dkr.src (es:=es) (ep:=ep) lo) (I.ok.hd hc) ⟨o,ho,hx,hd⟩ (by omega) fun h1 tk acc k1 gr it=>?_)
 have rv:Vals (qs0.map fun q=>V.ref q.2.1) acc.toList:=by
  refine Aa (by have h3:=it.1;have h4:acc.toList.length=acc.size:=Array.length_toList;rw [List.length_map];omega) fun i x v e1 e2=>?_
  rw [List.getElem?_map] at e1
  obtain ⟨q1,e3,rfl⟩:=Option.map_eq_some_iff.mp e1
  obtain ⟨hi,ev⟩:=it.2 i v (by rw [←Array.getElem?_toList];exact e2)
  have e4:es[i]?=some (entryOfKey (tupleKind (AR X.prog X.w)) q1):=by rw [entry_at he i,e3];rfl
  rw [Array.getElem?_eq_getElem hi] at e4
  rw [ev,Option.some.inj e4]
  rfl
 have sv:=(ry.sorts (K:=X.K) hsh fun ks hk=>by
  obtain ⟨p,hp,rfl⟩:=List.mem_map.mp hk
  exact hall p hp).vals I rv
 have ra:=rv.length
 rw [List.length_map] at ra
 generalize hits:acc.toList=its at rv ra sv
 refine wpAny_bind (wpAny_newList ?_ (by omega))
 have hoL:(h1.push (seqObj "list" its.toArray 0)).get? h1.objs.size=some (seqObj "list" its.toArray 0):=Heap.get?_push_size _ rfl
 have grow:s.heap.objs.size≤h1.objs.size:=Nat.le_of_lt gr
 refine wpAny_bind (wpAny_holding (wpAny_call_entry (s:={ s with heap:=h1.push (seqObj "list" its.toArray 0),toks:=tk }) slot_list_sort ⟨_,hoL,rfl⟩ entry_list_sort (Srt.EO (O:=lexOrd) hoL (by omega) (kfH s.heap) (fun h' k' h2=>?_) fun out p u=>⟨_,rfl,wpAny_pure ⟨_,rfl,?_⟩⟩) (args_list_sort _)))
 ·refine sv.cmp h2 fun a o items m _ e _ _=>?_
  have e1:=k1 a o e
  exact k' a o (Nat.ne_of_lt (Heap.lt_size e1)) (Heap.get?_push_of_some _ e1)
 ·obtain ⟨qs,q1,q2,q3⟩:=Kq (X:=X) rv sv p u
  obtain ⟨e',ho'⟩:=sortedHeap_at (h:=h1.push (seqObj "list" its.toArray 0)) (a:=h1.objs.size) (vs:=its) (out:=out.map (·.2)) hoL
  obtain ⟨w1,w2⟩:=ry.sorted q1
  have lz:(qs.map (·.1)).length≤sizeLine:=by
   rw [List.length_map,q1.length_eq,List.length_zip,List.length_map]
   omega
  have old:∀b o,s.heap.get? b=some o→(sortedHeap (h1.push (seqObj "list" its.toArray 0)) h1.objs.size its (out.map (·.2))).get? b=some o:=fun b o e=>by
   have e1:=k1 b o e
   have hlt:=Heap.lt_size e1
   rw [sortedHeap_old (Nat.ne_of_lt hlt) (by rw [size_push'];exact Nat.lt_succ_of_lt hlt)]
   exact Heap.get?_push_of_some _ e1
  exact ⟨.ref h1.objs.size,_,I.laid (a:=h1.objs.size) (o:=.lst (qs.map (·.1))) (t':=tk) old grow ⟨lz,_,e',q2,by rw [Array.toArray_toList];exact ho'⟩,rfl,q _ _ _ (I.hok.fresh grow) w1 w2 q3⟩
end
end L2
namespace Stk
open PySem PySem.Spec PyProof.Rows L2
theorem Lj:Manifest.owners.lookup (String.ofList ['r','o','t','a','r','e','t','i','_','t','e','s'].reverse)=some Manifest.sig_set_iterator:=by kernel_rfl
theorem slot_next:Slot "set_iterator" "__next__" "set_iterator.__next__" :=
 .of (owner := "set_iterator") (n := "__next__") (by rw [typeLookup_type,builtinLookup_eq_fast];kernel_rfl) (by decide +kernel) (by decide +kernel) (by decide +kernel)
  (by first|exact .inl (by decide +kernel)|exact .inr (by decide +kernel)) (by rw [isSubtype_type];kernel_rfl)
theorem entry_next:entryFor table "set_iterator.__next__" = some Builtin.«set_iterator.__next__»:=entryFor_of_tree (by kernel_rfl)
theorem args_next (a:Value):argsOk "set_iterator.__next__" ⟨[a],[]⟩:=by
 unfold argsOk;rw [signature?_of (id := "set_iterator.__next__") (n:=['_','_','t','x','e','n','_','_']) (o:=['r','o','t','a','r','e','t','i','_','t','e','s']) (by kernel_rfl) Lj];kernel_rfl
theorem Jw:Slot "set_iterator" "__iter__" "set_iterator.__iter__" :=
 .of (owner := "set_iterator") (n := "__iter__") (by rw [typeLookup_type,builtinLookup_eq_fast];kernel_rfl) (by decide +kernel) (by decide +kernel) (by decide +kernel)
  (by first|exact .inl (by decide +kernel)|exact .inr (by decide +kernel)) (by rw [isSubtype_type];kernel_rfl)
theorem JW:entryFor table "set.__iter__" = some Builtin.«frozenset.__iter__» :=
 entryFor_alias (id' := "frozenset.__iter__") (by kernel_rfl) rfl (by decide +kernel) (by kernel_rfl)
def Jn (xs:Array Nat):Prop:=∀i j:Nat,i<j→∀a b:Nat,xs[i]?=some a→xs[j]?=some b→a<b
theorem Jd {xs:Array Nat}{j:Nat}(hr:Jn xs):∀(fuel lo hi:Nat),hi-lo≤fuel→lo≤hi→hi≤xs.size→(∀i a,i<lo→xs[i]?=some a→a<j)→(∀i a,hi≤i→xs[i]?=some a→j≤a) →
  SetTable.below.go xs j fuel lo hi≤xs.size/\(∀i a,i<SetTable.below.go xs j fuel lo hi→xs[i]?=some a→a<j)/\∀i a,SetTable.below.go xs j fuel lo hi≤i→xs[i]?=some a→j≤a
 | 0,lo,hi,h1,h2,h3,h4,h5=>by
  unfold SetTable.below.go
  exact ⟨by omega,h4,fun i a hi=>h5 i a (by omega)⟩
 | fuel+1,lo,hi,h1,h2,h3,h4,h5=>by
  unfold SetTable.below.go
  split
  ·next hlt =>
   have hm:(lo+hi) / 2<xs.size:=by omega
   have e:xs[(lo+hi) / 2]?=some xs[(lo+hi) / 2]:=Array.getElem?_eq_getElem hm
   have eg:xs.getD ((lo+hi) / 2) j=xs[(lo+hi) / 2]:=by simp [Array.getD,hm]
   dsimp only
   rw [eg]
   split
   ·next hx =>
    refine Jd hr fuel _ _ (by omega) (by omega) h3 (fun i a hq ea=>?_) h5
    by_cases h:i=(lo+hi) / 2
    ·subst h;rw [e] at ea;cases ea;exact hx
    ·have:=hr i _ (by omega) a _ ea e;omega
   ·next hx =>
    refine Jd hr fuel _ _ (by omega) (by omega) (by omega) h4 (fun i a hq ea=>?_)
    by_cases h:i=(lo+hi) / 2
    ·subst h;rw [e] at ea;cases ea;omega
    ·have:=hr _ i (by omega) _ a e ea;omega
  ·exact ⟨by omega,h4,fun i a hi=>h5 i a (by omega)⟩
theorem Jc {xs:Array Nat}(hr:Jn xs) (j:Nat):SetTable.below xs j≤xs.size/\(∀i a,i<SetTable.below xs j→xs[i]?=some a→a<j)/\∀i a,SetTable.below xs j≤i→xs[i]?=some a→j≤a :=
 Jd hr xs.size 0 xs.size (by omega) (by omega) (Nat.le_refl _) (fun i a h=>absurd h (by omega)) fun i a h e=>by
  rw [Array.getElem?_eq_none h] at e;cases e
theorem NB {xs:Array Nat}(hr:Jn xs) {i a:Nat}(e:xs[i]?=some a):SetTable.below xs (a+1)=i+1:=by
 obtain ⟨h1,h2,h3⟩:=Jc hr (a+1)
 have hi:i<xs.size:=by rcases Nat.lt_or_ge i xs.size with h|h;exact h;rw [Array.getElem?_eq_none h] at e;cases e
 rcases Nat.lt_trichotomy (SetTable.below xs (a+1)) (i+1) with h|h|h
 ·have:=h3 i a (by omega) e;omega
 ·exact h
 ·have hx:i+1<xs.size:=by omega
  have e2:xs[i+1]?=some xs[i+1]:=Array.getElem?_eq_getElem hx
  have:=h2 (i+1) _ h e2
  have:=hr i (i+1) (by omega) _ _ e e2
  omega
theorem NA {xs:Array Nat}(hr:Jn xs):SetTable.below xs 0=0:=by
 obtain ⟨h1,h2,h3⟩:=Jc hr 0
 rcases Nat.eq_zero_or_pos (SetTable.below xs 0) with h|h
 ·exact h
 ·have hx:0<xs.size:=by omega
  have:=h2 0 _ h (Array.getElem?_eq_getElem hx)
  omega
theorem La {xs:Array Nat}(hr:Jn xs) {j:Nat}(hn:xs[SetTable.below xs j]?≠some j):Jn (SetTable.insertAt xs (SetTable.below xs j) j):=by
 obtain ⟨h1,h2,h3⟩:=Jc hr j
 generalize SetTable.below xs j=p at *
 have key:∀i,(SetTable.insertAt xs p j)[i]?=if i<p then xs[i]? else if i=p then some j else xs[i-1]?:=fun i=>by
  unfold SetTable.insertAt
  rw [Array.getElem?_append]
  have hs:((xs.extract 0 p).push j).size=p+1:=by simp;omega
  rw [hs]
  by_cases a1:i<p
  ·rw [if_pos a1,if_pos (by omega),Array.getElem?_push,if_neg (by simp;omega)]
   simp [Array.getElem?_extract];omega
  ·rw [if_neg a1]
   by_cases a2:i=p
   ·rw [if_pos a2,if_pos (by omega),Array.getElem?_push,if_pos (by simp;omega)]
   ·rw [if_neg a2,if_neg (by omega)]
    simp only [Array.getElem?_extract]
    have:p+(i-(p+1))=i-1:=by omega
    rw [this]
    split
    ·rfl
    ·rw [Array.getElem?_eq_none (by omega)]
 intro i k hik a b ea eb
 rw [key] at ea eb
 have lt3:∀i b,p≤i→xs[i]?=some b→j<b:=fun i b hi e=>by
  have l1:=h3 i b hi e
  rcases Nat.lt_or_ge j b with h|h
  ·exact h
  ·have hb:b=j:=by omega
   subst hb
   rcases Nat.lt_or_ge p i with h4|h4
   ·have hx:p<xs.size:=by
     rcases Nat.lt_or_ge i xs.size with h|h
     ·omega
     ·rw [Array.getElem?_eq_none h] at e;cases e
    have e2:=Array.getElem?_eq_getElem hx
    have:=hr p i h4 _ _ e2 e
    have:=h3 p _ (Nat.le_refl _) e2
    omega
   ·have:i=p:=by omega
    subst this
    exact absurd e hn
 split at ea
 ·split at eb
  ·exact hr i k hik a b ea eb
  ·split at eb
   ·cases eb;exact h2 i a (by assumption) ea
   ·have:=h2 i a (by assumption) ea;have:=h3 (k-1) b (by omega) eb;omega
 ·split at ea
  ·cases ea
   split at eb
   ·omega
   ·split at eb
    ·omega
    ·exact lt3 (k-1) b (by omega) eb
  ·split at eb
   ·omega
   ·split at eb
    ·omega
    ·exact hr (i-1) (k-1) (by omega) a b ea eb
theorem Fy {t:SetTable}{h:Int}:∀(fuel:Nat) (p:SetTable.Probe),(∀d,p.dummy=some d→t.slot d=.dummy)→∀j dm,SetTable.probe.go t (fun _=>h+1) h fuel p=some (.empty j dm)→t.slot j=.empty/\∀d,dm=some d→t.slot d=.dummy
 | 0,p,hp,j,dm,e=>by unfold SetTable.probe.go at e;cases e
 | fuel+1,p,hp,j,dm,e=>by
  unfold SetTable.probe.go at e
  have adv:∀q:SetTable.Probe,(t.advance q).dummy=q.dummy:=fun q=>by
   unfold SetTable.advance;split <;> rfl
  split at e
  ·next hs=>cases e;exact ⟨hs,hp⟩
  ·next hs=>exact Fy fuel _ (fun d hd=>by rw [adv] at hd;cases hd;exact hs) j dm e
  ·split at e
   ·cases e
   ·exact Fy fuel _ (fun d hd=>by rw [adv] at hd;exact hp d hd) j dm e
theorem P5 {t:SetTable}{j:Nat}(h:∀i,t.slot j≠.live i):t.place[SetTable.below t.place j]?≠some j:=fun e=>by
 refine h (SetTable.below t.place j) ?_
 unfold SetTable.slot
 simp only [e]
 simp
def Good (l:Bool) (t:SetTable):Prop:=t.led=l/\(t.plain=true→Jn t.place)
theorem M0 (l:Bool):Good l (.fresh 0 0 l):=⟨rfl,fun _ i j h a b e=>by simp [SetTable.fresh] at e⟩
theorem Ea {l:Bool}{t:SetTable}(h:t.led=l) (n:Nat):Good l (t.standIn n):=⟨h,fun e=>by simp [SetTable.standIn] at e⟩
theorem QS {l:Bool} {t:SetTable} (h:Good l t):Good l { t with plain:=false }:=⟨h.1,fun e=>by simp at e⟩
theorem QT {l:Bool}{t:SetTable}(g:Good l t) (es:Array (Int×Value)) (h:Int) (x:Value):Good l (layNew t es h x).2.1:=by
 unfold layNew
 split
 ·next slot wd hf =>
  dsimp only
  unfold SetTable.orStandIn
  have hl:(t.put slot).1.led=l:=g.1
  split
  ·refine ⟨hl,fun hp=>?_⟩
   refine La (g.2 hp) (P5 fun i=>?_)
   unfold SetTable.freeSlot at hf
   split at hf
   ·next j dm e =>
    obtain ⟨z1,z2⟩:=Fy _ _ (fun d hd=>by simp [SetTable.probeStart] at hd) j dm e
    cases hf
    cases dm with
    | none=>rw [show (none:Option Nat).getD j=j from rfl,z1];exact fun e=>nomatch e
    | some d=>rw [show (some d:Option Nat).getD j=d from rfl,z2 d rfl];exact fun e=>nomatch e
   ·cases hf
  ·exact Ea hl _
 ·exact Ea g.1 _
theorem Mz {l:Bool}{t:SetTable}(g:t.led=l) (es:Array (Int×Value)) (n:Nat):Good l (relayAll t es n).2.1:=by
 unfold relayAll
 split
 ·next t' order e =>
  dsimp only
  split
  ·unfold SetTable.relaid SetTable.laid at e
   simp only [Option.bind_eq_bind,Option.bind_eq_some_iff,Option.pure_def,Option.some.injEq,Prod.mk.injEq] at e
   obtain ⟨ow,_,e1,_⟩:=e
   subst e1
   refine ⟨g,fun _=>?_⟩
   dsimp only
   have pw:(((List.range (SetTable.sizeAbove n-1+1)).filterMap fun j=>(ow.getD j none).map (j,·)).map (·.1)).Pairwise (· < ·):=by
    rw [List.pairwise_map]
    refine List.Pairwise.filterMap _ ?_ List.pairwise_lt_range
    intro a b hab c hc d hd
    obtain ⟨_,_,rfl⟩:=Option.map_eq_some_iff.mp hc
    obtain ⟨_,_,rfl⟩:=Option.map_eq_some_iff.mp hd
    exact hab
   intro i j hij a b ea eb
   rw [List.getElem?_toArray] at ea eb
   obtain ⟨hi,rfl⟩:=List.getElem?_eq_some_iff.mp ea
   obtain ⟨hj,rfl⟩:=List.getElem?_eq_some_iff.mp eb
   exact List.pairwise_iff_getElem.mp pw i j hi hj hij
  ·exact Ea g _
 ·exact Ea g _
end Stk
namespace Stk
open PySem PySem.Spec PyProof.Rows L2
instance decMem (k:Key):∀L:List Key,Decidable (k∈L)
 | []=>.isFalse (by simp)
 | x::L=>if h:k=x then .isTrue (by simp [h]) else match decMem k L with
  | .isTrue h2=>.isTrue (by simp [h2])
  | .isFalse h2=>.isFalse (by simp [h,h2])
def keyOf:Value→Option Key
 | .int i _=>some (.inl i)
 | .str x _=>some (.inr x)
 | _=>none
theorem L9 {k:Key}{v:Value}(h:Dh k v=true):keyOf v=some k:=by
 rcases Ay h with ⟨i,t,rfl,rfl⟩|⟨x,t,rfl,rfl⟩ <;> rfl
theorem QM {k:Key}{v:Value}(h:keyOf v=some k):Dh k v=true:=by
 cases v <;> first|cases h|skip
 ·exact HI _ _
 ·exact HH _ _
theorem RE {k:Key}{v:Value}(h:Dh k v=true):v.scannable=true:=by
 rcases Ay h with ⟨i,t,rfl,rfl⟩|⟨x,t,rfl,rfl⟩ <;> rfl
def byT (w:World):Bool:=w.params.followText "set-order"
def Dw (prog:Program) (w:World) (h:Heap) (a:Addr) (L:List Key):Prop :=
 ∃o es ep t,h.get? a=some o/\o.ExactSet/\o.data=.set es ep t/\ElemsOf (AR prog w) es.toList/\(es.toList.map fun e=>keyOf e.2).Perm (L.map some)/\es.size<scanBound/\t.fits es.size=true/\Good (!byT w) t
section
variable {prog:Program}{w:World}{A:Around}{E:Value→Shared→Prop}{s:Shared}{a:Addr}{L:List Key}
theorem Dw.at' {h h':Heap}(x:Dw prog w h a L) (k:∀o,h.get? a=some o→h'.get? a=some o):Dw prog w h' a L :=
 let ⟨o,es,ep,t,ho,r⟩:=x;⟨o,es,ep,t,k o ho,r⟩
theorem Dw.type (x:Dw prog w s.heap a L):s.TypeIs (.ref a) "set" := let ⟨o,_,_,_,ho,hc,_⟩:=x;⟨o,ho,hc.1⟩
theorem Dw.lt {h:Heap}(x:Dw prog w h a L):a<h.objs.size:=let ⟨_,_,_,_,ho,_⟩:=x;Heap.lt_size ho
theorem store {h:Heap}{o:Obj}{es:Array (Int×Value)}{ep:Nat}{t:SetTable}(ho:h.get? a=some o) (hd:o.data=.set es ep t) {es':Array (Int×Value)}{t':SetTable} :
  (h.update a (Obj.putSet es' t')).get? a=some { o with data:=.set es' (ep+1) t' }:=by
 have:=Heap.get?_update_self (Obj.putSet es' t') ho (by rw [putSet_of es' t' hd];rfl)
 rw [putSet_of es' t' hd] at this;exact this
theorem MO {g:Bool→Sem Unit}(hg:∀(b:Bool) (s₁:Shared) (Q':Unit→Shared→Prop),Q' () s₁→wpAny (model prog w) A (g b) Q' E s₁)
  {o:Obj} {es:Array (Int×Value)} {ep:Nat} {t:SetTable} (ho:s.heap.get? a=some o) (hex:o.ExactSet) (hd:o.data=.set es ep t)
  {es1:Array (Int×Value)} {t2:SetTable} (hel1:ElemsOf (AR prog w) es1.toList) (hp1:(es1.toList.map fun e=>keyOf e.2).Perm (L.map some))
  (hb1:es1.size<scanBound) (hf2:t2.fits es1.size=true) (hgd:Good (!byT w) t2) {wasDummy:Bool} {R:Option Bool→Shared→Prop}
  (h:∀h',Heap.SameBut a s.heap h'→Dw prog w h' a L→R (some true) { s with heap:=h' }) :
  wpAny (model prog w) A (do
    storeSet a es1 t2
    if (!wasDummy&&t2.tooFull)=true then do
      g (relayAll t2 es1 (SetTable.grown es1.size)).2.2
      storeSet a (relayAll t2 es1 (SetTable.grown es1.size)).1 (relayAll t2 es1 (SetTable.grown es1.size)).2.1
      pure (some true)
     else pure (some true)) R E s:=by
 refine wpAny_bind (wpAny_storeSet_of ho hd ?_ (fits_of_scanBound hb1))
 have ho1:=store (es':=es1) (t':=t2) ho hd
 have hsb1:=Heap.SameBut.update s.heap a (Obj.putSet es1 t2)
 split
 ·have hp:=relayAll_perm t2 es1 (SetTable.grown es1.size)
  have hfr:=relayAll_fits t2 es1 (SetTable.grown es1.size)
  have hgr:=Mz hgd.1 es1 (SetTable.grown es1.size)
  generalize hRl:relayAll t2 es1 (SetTable.grown es1.size)=Rl at hp hfr hgr ⊢
  obtain ⟨es2,t3,gave2⟩:=Rl
  dsimp only at hp hfr hgr ⊢
  have hsz:es2.size=es1.size:=by rw [←Array.length_toList,hp.length_eq,Array.length_toList]
  have hb2:es2.size<scanBound:=by rw [hsz];exact hb1
  refine wpAny_bind (hg _ _ _ ?_)
  refine wpAny_bind (wpAny_storeSet_of ho1 rfl ?_ (fits_of_scanBound hb2))
  exact wpAny_pure (h _ (hsb1.trans (Heap.SameBut.update _ a _)) ⟨_,es2,_,t3,store ho1 rfl,hex,rfl,hel1.perm hp,(hp.map _).trans hp1,hb2,hfr,hgr⟩)
 ·exact wpAny_pure (h _ hsb1 ⟨_,es1,_,t2,ho1,hex,rfl,hel1,hp1,hb1,hf2,hgd⟩)
theorem NK {k:Key}{x:Value}{Q:Bool→Shared→Prop}(hkey:Dh k x=true) (hS:Dw prog w s.heap a L) (hroom:L.length+1<scanBound)
  (h:∀h',Heap.SameBut a s.heap h'→Dw prog w h' a (if k∈L then L else L++[k])→Q (!decide (k∈L)) { s with heap:=h' }) :
  wpAny (model prog w) A (setAddHashed a x ((AR prog w).hash k)) Q E s:=by
 obtain ⟨o,es,ep,t,ho,hex,hd,hel,hpm,hb,hf,hgd⟩:=hS
 have hn:es.size=L.length:=by have:=hpm.length_eq;simpa using this
 have hsc:=RE hkey
 have hkey':(AR prog w).is k x=true:=hkey
 have hmem:∀k,k∈L↔∃e∈es.toList,(AR prog w).is k e.2=true:=fun k=>by
  have:=hpm.mem_iff (a:=some k)
  simp only [List.mem_map,Option.some.injEq,exists_eq_right] at this
  rw [←this]
  exact ⟨fun ⟨e,he,hk⟩=>⟨e,he,QM hk⟩,fun ⟨e,he,hk⟩=>⟨e,he,L9 hk⟩⟩
 unfold setAddHashed setAddHashedIn
 refine wpAny_holding (wpAny_bind (wpAny_setState_of ho hd hf ?_))
 dsimp only
 rw [byScan_of hsc hb hel]
 simp only [↓reduceIte]
 unfold setAddByScan
 refine wpAny_bind ?_
 refine wpAny_bind (wpAny_rule ?_)
 refine wpAny_bind (wpAny_setScan_of hkey' ho hd hf hel ?_)
 cases hr:List.findIdx? (fun e=>(AR prog w).is k e.2) es.toList with
 | some j =>
  dsimp only
  obtain ⟨hj,hpj,_⟩:=List.findIdx?_eq_some_iff_getElem.mp hr
  have hk:k∈L:=(hmem k).mpr ⟨es.toList[j],List.getElem_mem hj,hpj⟩
  refine wpAny_pure (wpAny_pure ?_)
  have:=h s.heap (Heap.SameBut.refl a s.heap) (by rw [if_pos hk];exact ⟨o,es,ep,t,ho,hex,hd,hel,hpm,hb,hf,hgd⟩)
  rw [decide_eq_true hk] at this
  exact this
 | none =>
  dsimp only
  have hk:k∉L:=fun hk=>by
   obtain ⟨e,he,hp⟩:=(hmem k).mp hk
   have:=List.findIdx?_eq_none_iff.mp hr e he
   rw [hp] at this;exact Bool.noConfusion this
  have hgw:∀(b:Bool) {s₁:Shared} {Q':Unit→Shared→Prop},Q' () s₁→wpAny (model prog w) A (match b with|true=>rule "set.scan.the-table-gave-way" | false=>pure ()) Q' E s₁ :=
   fun b s₁ Q' hq=>by cases b <;> first|exact wpAny_pure hq|exact wpAny_rule hq
  have hperm:=layNew_perm t es ((AR prog w).hash k) x
  have hfits:=layNew_fits t es ((AR prog w).hash k) x
  have hgl:=QT hgd es ((AR prog w).hash k) x
  generalize hL:layNew t es ((AR prog w).hash k) x=Ly at hperm hfits hgl ⊢
  obtain ⟨es1,t1,wasDummy,gave⟩:=Ly
  dsimp only at hperm hfits hgl ⊢
  rw [Array.toList_push] at hperm
  have hel1:ElemsOf (AR prog w) es1.toList:=(hel.push hkey' hsc).perm hperm
  have hp1:(es1.toList.map fun e=>keyOf e.2).Perm ((L++[k]).map some):=by
   refine (hperm.map _).trans ?_
   rw [List.map_append,List.map_append]
   refine hpm.append ?_
   simp only [List.map_cons,List.map_nil]
   rw [L9 hkey]
  have hb1':es1.size<scanBound:=by
   have:=hp1.length_eq
   simp at this
   omega
  refine wpAny_bind (hgw _ ?_)
  have hend:∀h',Heap.SameBut a s.heap h'→Dw prog w h' a (L++[k])→Q true { s with heap:=h' }:=by
   intro h' hsb hS'
   have:=h h' hsb (by rw [if_neg hk];exact hS')
   rw [decide_eq_false hk] at this
   exact this
  split
  ·refine wpAny_bind ?_
   rw [hashByValue_scannable 8 hsc]
   refine wpAny_pure ?_
   refine MO ?_ ho hex hd hel1 hp1 hb1' ?_ ?_ ?_
   ·intro b s₁ Q' hq;cases b <;> first|exact wpAny_pure hq|exact wpAny_rule hq
   ·split
    ·exact hfits
    ·exact SetTable.fits_plain_off hfits
   ·split
    ·exact hgl
    ·exact QS hgl
   ·intro h' hsb hS';dsimp only;exact wpAny_pure (hend h' hsb hS')
  ·refine wpAny_bind (wpAny_pure ?_)
   simp only [↓reduceIte]
   refine MO ?_ ho hex hd hel1 hp1 hb1' hfits hgl ?_
   ·intro b s₁ Q' hq;cases b <;> first|exact wpAny_pure hq|exact wpAny_rule hq
   ·intro h' hsb hS';dsimp only;exact wpAny_pure (hend h' hsb hS')
end
def once:List Key→List Key→List Key
 | L,[]=>L
 | L,k::ks=>once (if k∈L then L else L++[k]) ks
theorem JI:∀(ks L:List Key),(once L ks).length≤L.length+ks.length
 | [],L=>by simp [once]
 | k::ks,L=>by
  have:=JI ks (if k∈L then L else L++[k])
  unfold once
  by_cases hx:k∈L
  ·simp only [if_pos hx] at this ⊢;simp only [List.length_cons];omega
  ·simp only [if_neg hx,List.length_append,List.length_cons,List.length_nil] at this ⊢;omega
theorem Hv (k:Key):∀(ks L:List Key),once L (ks++[k])=if k∈once L ks then once L ks else once L ks++[k]
 | [],L=>rfl
 | x::ks,L=>by simp only [List.cons_append,once];exact Hv k ks _
theorem JO (k:Key):∀(ks L:List Key),k∈once L ks↔k∈L\/k∈ks
 | [],L=>by simp [once]
 | x::ks,L=>by
  unfold once
  rw [JO k ks]
  split
  ·simp only [List.mem_cons];constructor
   ·rintro (h|h);exact .inl h;exact .inr (.inr h)
   ·rintro (h|rfl|h);exact .inl h;exact .inl (by assumption);exact .inr h
  ·simp only [List.mem_append,List.mem_singleton,List.mem_cons,List.not_mem_nil,or_false,or_assoc]
theorem JK:∀(ks L:List Key),L.Nodup→(once L ks).Nodup
 | [],L,h=>h
 | x::ks,L,h=>by
  unfold once
  refine JK ks _ ?_
  split
  ·exact h
  ·next hx =>
   rw [List.nodup_append]
   refine ⟨h,by simp,fun a ha b hb e=>?_⟩
   simp at hb
   subst hb;subst e
   exact hx ha
section
variable {prog:Program}{w:World}{A:Around}{R:Result→Shared→Prop}{I:Addr}{fp wr:List Addr}{G:Array GenState→Array GenState→Prop}{n:Nat}{P:Nat→Value→Prop}{St:Nat→Shared→Prop}
theorem LK (W:WalksS prog w A.in1 I fp wr G n P St) (S:Addr) (hSf:S∉fp) (ks:List Key) (hn:ks.length=n) (hval:∀(i:Nat) k v,ks[i]?=some k→P i v→Dh k v=true) (hb:n+1<scanBound) :
  ∀(k i:Nat) (s:Shared),n-i=k→i≤n→St i s→Dw prog w s.heap S (once [] (ks.take i))→(∀s',Moved (S::wr) G s s'→Dw prog w s'.heap S (once [] ks)→R (.ok (.ret .none)) s') →
   codeAny (model prog w) A (.builtin "set.update.loop" ⟨[.ref S,.ref I],[]⟩) R s:=by
 have hSw:S∉wr:=fun h=>hSf (W.sub _ h)
 have hsub:∀b∈wr,b∈S::wr:=fun b hb=>List.mem_cons_of_mem _ hb
 intro k
 induction k with
 | zero =>
  intro i s hk hi hst hS hR
  have hin:i=n:=by omega
  subst hin
  refine codeAny_builtin PyProof.Rows.F.entry_set_update_loop ?_
  rw [Around.under_plainId PyProof.Rows.F.plain_set_update_loop _]
  show wpAny _ A.in1 (pyNext (.ref I) >>= _) _ _ s
  refine wpAny_bind (W.done s _ _ hst fun s' hm=>?_)
  show wpAny _ A.in1 (ret Value.none) _ _ s'
  rw [List.take_of_length_le (by omega)] at hS
  exact wpAny_pure (hR s' (hm.mono hsub) (hS.at' fun o e=>hm.heap S _ hSw e))
 | succ k ih =>
  intro i s hk hi hst hS hR
  have hlt:i<n:=by omega
  refine codeAny_builtin PyProof.Rows.F.entry_set_update_loop ?_
  rw [Around.under_plainId PyProof.Rows.F.plain_set_update_loop _]
  show wpAny _ A.in1 (pyNext (.ref I) >>= _) _ _ s
  refine wpAny_bind (W.item i s _ _ hlt hst fun v s' hP hst' hm=>?_)
  have hki:ks[i]?=some (ks[i]'(by omega)):=List.getElem?_eq_getElem (by omega)
  have hv:=hval i _ v hki hP
  have hS':Dw prog w s'.heap S (once [] (ks.take i)):=hS.at' fun o e=>hm.heap S _ hSw e
  show wpAny _ A.in1 (holding [v] (setAdd S v) >>= _) _ _ s'
  refine wpAny_bind (wpAny_holding ?_)
  unfold setAdd
  refine wpAny_holding ?_
  refine wpAny_bind ((AR prog w).pyHash (show (AR prog w).is _ v=true from hv) ?_)
  have hroom:(once [] (ks.take i)).length+1<scanBound:=by have:=JI (ks.take i) [];simp at this;omega
  refine NK (s:={ s' with toks:=s'.toks+1 }) hv hS' hroom fun h' hsb hS2=>?_
  have hSi:Dw prog w h' S (once [] (ks.take (i+1))):=by
   rw [List.take_add_one,hki]
   rw [show (some (ks[i]'(by omega))).toList=[ks[i]'(by omega)] from rfl,Hv]
   exact hS2
  refine wpAny_pure ⟨plainId_quiet PyProof.Rows.F.plain_set_update_loop _,ih (i+1) _ (by omega) hlt (W.frame _ s' _ _ hst' (Nat.le_succ _) fun b hb o e=>?_) hSi fun s'' hm'' hS''=>?_⟩
  ·rw [hsb.2 b (fun h:b=S=>hSf (by rw [←h];exact hb))];exact e
  ·refine hR s'' (Moved.trans W.gtrans ((hm.mono hsub).then_heap (Nat.le_succ _) fun b o hb e=>?_) hm'') hS''
   rw [hsb.2 b (fun h:b=S=>hb (by rw [h];exact List.mem_cons_self))];exact e
end
end Stk
namespace Stk
open PySem PySem.Spec PyProof.Rows L2
section
variable {prog:Program}{w:World}{A:Around}{E:Value→Shared→Prop}{s:Shared}
abbrev JL (w:World):Obj:={ cls:=.type "set", dict:=none,data:=.set #[] 0 (.fresh 0 0 (!byT w)) }
theorem RC (a:Value) {Q₁:Value→Shared→Prop} (h:Q₁ (.ref s.heap.objs.size) { s with heap:=s.heap.push (JL w) }) :
  codeAny (model prog w) A (.call (.builtin "set.__new__") ⟨[.type "set", a],[]⟩) (wants Q₁ E) s:=by
 refine codeAny_of_tree ?_
 show wpAny _ A.in1 (do checkBuiltinCall "set.__new__" ⟨[.type "set", a],[]⟩;again (.builtin "set.__new__" ⟨[.type "set", a],[]⟩)) _ _ s
 refine wpAny_bind (wpAny_of_eq (PySem.F.newCall_set_1 a) (wpAny_pure ⟨plainId_quiet PySem.F.plain_set_new _,codeAny_builtin PySem.F.entry_set_new ?_⟩))
 rw [Around.under_plainId PySem.F.plain_set_new _]
 unfold Builtin.«set.__new__» Builtin.Frozenset.newClass
 have hsub:=sub_set_self
 obtain ⟨hp,g,d,tk,os⟩:=s
 dsimp only
 wp_walk
 refine wpAny_askSetting (wpAny_pure ?_)
 dsimp only
 simp only [newObj]
 refine wpAny_bind (wpAny_alloc (wpAny_pure ?_))
 exact wpAny_pure h
theorem Mb {h:Heap}{a:Addr}(e:h.get? a=some (JL w)):Dw prog w h a [] :=
 ⟨_,#[],0,_,e,⟨rfl,rfl,rfl⟩,rfl,fun e he=>by simp at he,by simp,by decide,by rfl,M0 _⟩
theorem Qf {l:Addr}{items:Array Value}{ks:List Key}{Q:Value→Shared→Prop}
  (hh:A.handled=none) (hl:s.heap.IsList l items) (hlen:ks.length=items.size) (hi:∀(i:Nat) k v,ks[i]?=some k→items[i]?=some v→Dh k v=true) (hb:items.size+1<scanBound)
  (h:∀(h':Heap) (tk:Nat),Dw prog w h' s.heap.objs.size (once [] ks)→(∀b o,b<s.heap.objs.size→s.heap.get? b=some o→h'.get? b=some o)→Q (.ref s.heap.objs.size) { s with heap:=h',toks:=tk }) :
  wpAny (model prog w) A (call (.type "set") [.ref l]) Q E s:=by
 obtain ⟨c,tl,hmro⟩:=PySem.F.called_set.mro
 have hmade:=PySem.F.called_set.made
 have hsub:=PySem.F.called_set.sub
 refine wpAny_call (codeAny_of_tree ?_)
 show wpAny _ _ (callAny (.type "set") _) _ _ _
 refine wpAny_pure ⟨Code.quiet_builtin _ (by decide +kernel),codeAny_builtin PySem.F.entry_type_call ?_⟩
 rw [Around.under_plain (weight_type_call_type "set" [.ref l] []) rfl]
 have h1:=PySem.F.called_set.notType
 have h2:=PySem.F.called_set.canCreate
 have hct:=PySem.F.typeCall_set_1 (.ref l)
 repeat (any_goals (first|assumption|wp_step))
 refine codeAny_mono (RC (.ref l) (E:=E) (Q₁:=fun obj s₁=>obj=.ref s.heap.objs.size/\s₁={ s with heap:=s.heap.push (JL w) }) ⟨rfl,rfl⟩) fun r s₁ hr=>?_
 cases r with
 | error e=>exact hr
 | ok fl =>
  cases fl with
  | ret obj =>
   obtain ⟨rfl,rfl⟩:=hr
   have hS:(s.heap.push (JL w)).get? s.heap.objs.size=some (JL w):=Heap.get?_push_size _ rfl
   have hT:Shared.TypeIs { s with heap:=s.heap.push (JL w) } (.ref s.heap.objs.size) "set" := ⟨_,hS,rfl⟩
   have hli:=PySem.F.called_set.init.lookup
   have hbi:=PySem.F.called_set.init.bind (.ref s.heap.objs.size)
   repeat (any_goals (first|assumption|wp_step))
   refine codeAny_mono (codeAny_call_builtin (R:=wants (fun r s₂=>r=.none/\∃h' tk,s₂={ s with heap:=h',toks:=tk }/\Dw prog w h' s.heap.objs.size (once [] ks) /\
     (∀b o,b<s.heap.objs.size→s.heap.get? b=some o→h'.get? b=some o)) E) PySem.F.called_set.init.plain PySem.F.entry_set_init (check_set_init_1 hT ?_)) fun r₂ s₂ hr₂=>?_
   ·obtain ⟨ol,hol,hcl,nl,hdl⟩:=hl
    obtain ⟨ocls,odict,odata,oslots⟩:=ol
    simp only at hcl hdl
    subst hcl;subst hdl
    have hol':(s.heap.push (JL w)).get? l=some { cls:=.type "list", dict:=odict,data:=.seq items nl,slots:=oslots }:=Heap.get?_push_of_some _ hol
    have hsls:=PySem.F.sub_list_set
    have hslf:=PySem.F.sub_list_frozenset
    have hne:(Value.type "list" == Value.type "dict")=false:=by decide
    have hl1:(s.heap.push (JL w)).IsList l items:=⟨_,hol',rfl,nl,rfl⟩
    unfold Builtin.«set.__init__» noKeywords Builtin.Frozenset.updateFrom
    generalize hPI:pyIter=PI
    wp_walk
    subst hPI
    refine wpAny_pyIter_list hl1 ?_
    refine wpAny_bind (wpAny_runValue ?_)
    have hlS:l<s.heap.objs.size:=Heap.lt_size hol
    have hh3:A.in1.in1.in1.handled=none:=by simp [hh]
    have hneI:l≠(s.heap.push (JL w)).objs.size:=by
     rw [Heap.size_push];exact Nat.ne_of_lt (Nat.lt_succ_of_lt hlS)
    have hSf:s.heap.objs.size∉[(s.heap.push (JL w)).objs.size,l]:=by
     rw [Heap.size_push];simp only [List.mem_cons,List.mem_singleton,List.not_mem_nil,or_false,not_or]
     exact ⟨Nat.ne_of_lt (Nat.lt_succ_self _),Nat.ne_of_gt hlS⟩
    refine LK ((Walks.list hh3 _ l hneI items).toS) s.heap.objs.size hSf ks hlen (fun i k v e1 e2=>hi i k v e1 e2) hb (items.size-0) 0 _ (by omega) (Nat.zero_le _)
     ⟨⟨_,Heap.get?_push_size _ rfl,rfl,rfl⟩,(hl1.push _)⟩ ?hS0 ?hR
    case hS0=>exact Mb (Heap.get?_push_of_some _ hS)
    case hR =>
     intro s' hm hS'
     obtain ⟨h',g',d',tk',os'⟩:=s'
     have eg:g'=s.gens:=hm.gens
     have ed:d'=s.drawn:=hm.drawn
     have eo:os'=s.os:=hm.os
     subst eg;subst ed;subst eo
     show wpAny _ _ _ _ _ _
     refine wpAny_pure ?_
     show wpAny _ _ (ret Value.none) _ _ _
     refine wpAny_pure ⟨rfl,h',tk',rfl,hS',fun b o hb e=>?_⟩
     have hb1:b≠s.heap.objs.size:=Nat.ne_of_lt hb
     have hb2:b≠(s.heap.push (JL w)).objs.size:=by
      rw [Heap.size_push];exact Nat.ne_of_lt (Nat.lt_succ_of_lt hb)
     exact hm.heap b o (by simp only [List.mem_cons,List.mem_singleton,List.not_mem_nil,or_false,not_or];exact ⟨hb1,hb2⟩) (Heap.get?_push_of_some _ (Heap.get?_push_of_some _ e))
   ·cases r₂ with
    | error e=>exact hr₂
    | ok fl₂ =>
     cases fl₂ with
     | ret r =>
      obtain ⟨rfl,h',tk,rfl,hS',hk'⟩:=hr₂
      repeat (any_goals (first|assumption|wp_step))
      exact h _ _ hS' hk'
     | _=>exact hr₂.elim
  | _=>exact hr.elim
end
end Stk
namespace Stk
open PySem PySem.Spec PyProof.Rows L2
theorem GA {α:Type}:∀(xs:List α) (i:Nat) (h:i<xs.length),(xs[i]::xs.eraseIdx i).Perm xs
 | x::xs,0,h=>.refl _
 | x::xs,i+1,h=>by
  simp only [List.getElem_cons_succ,List.eraseIdx_cons_succ]
  exact (List.Perm.swap ..).trans ((GA xs i (by simpa using h)).cons x)
theorem Ot {M:Model} {A:Around} {E:Value→Shared→Prop} {s:Shared} {src:Source} {n:Nat} {Q:Nat→Shared→Prop} (hn:n≠0) (h:∀i d,i<n→Q i { s with drawn:=d }):wpAny M A (choose src n) Q E s:=fun Γ p hΓ=>by
 unfold choose
 rw [Sem.wp_choose]
 refine ⟨hn,?_⟩
 exact wpAny_pure (M:=M) (A:=A) (E:=E) (Q:=Q) (h _ _ (Nat.mod_lt _ (Nat.pos_of_ne_zero hn))) Γ p hΓ
theorem Ge {M:Model} {A:Around} {E:Value→Shared→Prop} {α:Type}:∀(n:Nat) (xs:List α) (s:Shared) (Q:List α→Shared→Prop),xs.length=n→(∀ys d,ys.Perm xs→Q ys { s with drawn:=d })→wpAny M A (drawOrder n xs) Q E s
 | 0,xs,s,Q,hl,h=>by
  unfold drawOrder
  exact wpAny_pure (h [] s.drawn (by rw [List.length_eq_zero_iff.mp hl]))
 | n+1,[],s,Q,hl,h=>by simp at hl
 | n+1,x::xs,s,Q,hl,h=>by
  unfold drawOrder
  refine wpAny_bind (Ot (by simp) fun i d hi=>?_)
  have e:(x::xs)[i]?=some (x::xs)[i]:=List.getElem?_eq_getElem hi
  rw [e]
  dsimp only
  refine wpAny_bind (Ge n _ _ _ (by rw [List.length_eraseIdx,if_pos hi];omega) fun ys d' hp=>wpAny_pure ?_)
  exact h _ d' ((hp.cons _).trans (GA _ _ hi))
theorem J8 {α:Type}(nx:Nat→Nat):∀(n k:Nat) (xs:List α) (out:Array α),xs.length=n→(pickOrder.go nx n k xs out).toList.Perm (out.toList++xs)
 | 0,k,xs,out,hl=>by
  unfold pickOrder.go
  rw [List.length_eq_zero_iff.mp hl,List.append_nil]
 | n+1,k,xs,out,hl=>by
  unfold pickOrder.go
  have hi:nx k % xs.length<xs.length:=Nat.mod_lt _ (by omega)
  rw [List.getElem?_eq_getElem hi]
  dsimp only
  refine (J8 nx n (k+1) _ _ (by rw [List.length_eraseIdx,if_pos hi];omega)).trans ?_
  rw [Array.toList_push,List.append_assoc,List.singleton_append]
  exact List.Perm.append_left _ (GA _ _ hi)
theorem Ca {α:Type}(nx:Nat→Nat) (xs:Array α):(pickOrder nx xs).toList.Perm xs.toList:=by
 unfold pickOrder
 simpa using J8 nx xs.size 0 xs.toList #[] (by simp)
def Dx (h:Heap) (it:Addr) (first:Value) (i:Nat) (S:Addr) (n ep:Nat):Prop:=∃o,h.get? it=some o/\o.cls=.type "set_iterator" /\ o.data=.fields #[first,.int i 0,.ref S,.int n 0,.int ep 0]
def Hh (h:Heap) (S:Addr) (es:Array (Int×Value)) (ep:Nat) (t:SetTable):Prop:=∃o,h.get? S=some o/\o.ExactSet/\o.data=.set es ep t/\t.fits es.size=true
section
variable {prog:Program}{w:World}{A:Around}{E:Value→Shared→Prop}{s:Shared}{S it:Addr}{es:Array (Int×Value)}{ep i n:Nat}{t:SetTable}{first:Value}
theorem Dx.type (x:Dx s.heap it first i S n ep):s.TypeIs (.ref it) "set_iterator" := let ⟨o,e,c,_⟩:=x;⟨o,e,c⟩
theorem Hh.keep {h h':Heap}(r:Hh h S es ep t) (k:∀o,h.get? S=some o→h'.get? S=some o):Hh h' S es ep t:=let ⟨o,e,c⟩:=r;⟨o,k o e,c⟩
theorem Dx.keep {h h':Heap}(r:Dx h it first i S n ep) (k:∀o,h.get? it=some o→h'.get? it=some o):Dx h' it first i S n ep:=let ⟨o,e,c⟩:=r;⟨o,k o e,c⟩
theorem Dx.Ss {h:Heap}(x:Dx h it first i S n ep) (v:Value):Dx (h.update it (Obj.mapFields (·.setIfInBounds 0 v))) it v i S n ep:=by
 obtain ⟨o,e,c,d⟩:=x
 exact ⟨_,Heap.get?_update_self _ e (Obj.isFreed_of_fields (Obj.data_mapFields d _)),(Obj.cls_mapFields ..).trans c,by rw [Obj.data_mapFields d];simp⟩
theorem Dx.UJ {h:Heap}(x:Dx h it first i S n ep):Dx (h.update it (Obj.mapFields (·.setIfInBounds 1 (rawInt ((i:Int)+1))))) it first (i+1) S n ep:=by
 obtain ⟨o,e,c,d⟩:=x
 exact ⟨_,Heap.get?_update_self _ e (Obj.isFreed_of_fields (Obj.data_mapFields d _)),(Obj.cls_mapFields ..).trans c,by rw [Obj.data_mapFields d];simp [rawInt]⟩
theorem Mo {T:Addr}{ps:List Nat}{p:Nat}{e:Int×Value}(x:Dx s.heap it (.ref T) i S es.size ep) (r:Hh s.heap S es ep t) (hT:s.heap.IsTuple T (ps.map fun (p:Nat)=>rawInt p).toArray) (hp:ps[i]?=some p) (he:es[p]?=some e) {Q:Option Value→Shared→Prop}
  (hQ:∀h',Dx h' it (.ref T) (i+1) S es.size ep→Heap.SameBut it s.heap h'→Q (some e.2) { s with heap:=h' }):wpAny (model prog w) A (pyNext (.ref it)) Q E s:=by
 have ty:=x.type
 obtain ⟨o,ho,hc,hd⟩:=id x
 obtain ⟨od,ho2,c2,hd2,hf⟩:=r
 unfold pyNext
 refine wpAny_bind (wpAny_attempt (wpAny_callSpecial?_slot (name:=Str.ofString "__next__") ty slot_next (wpAny_call_entry slot_next ty entry_next ?_ (args_next _))))
 unfold Builtin.«set_iterator.__next__»
 refine wpAny_bind (wpAny_pure (wpAny_bind (wpAny_fieldsOf ho hd ?_)))
 show wpAny _ _ (setEntries S >>= _) _ _ s
 refine wpAny_bind (wpAny_setEntries_of ho2 hd2 hf ?_)
 rw [if_neg (by simp)]
 obtain ⟨oT,hoT,cT,mT,dT⟩:=hT
 refine wpAny_bind (wpAny_seqItems hoT dT ?_)
 have e1:(ps.map fun (p:Nat)=>rawInt p).toArray[(i:Int).toNat]?=some (.int (p:Int) 0):=by
  rw [Int.toNat_natCast,List.getElem?_toArray,List.getElem?_map,hp];rfl
 simp only [e1]
 refine wpAny_bind ?_
 unfold setNextDrawn
 refine wpAny_bind (wpAny_setState_of ho2 hd2 hf ?_)
 dsimp only
 rw [if_neg (by simp)]
 simp only [Int.toNat_natCast,he]
 refine wpAny_pure ?_
 refine wpAny_bind (wpAny_setField ho hd (by simp) ?_)
 exact wpAny_pure ⟨_,rfl,wpAny_pure (hQ _ x.UJ (Heap.SameBut.update ..))⟩
theorem NP (hh:A.handled=none) {s₂:Shared} {Q:Option Value→Shared→Prop} (hQ:∀h',(∀b o,s₂.heap.get? b=some o→h'.get? b=some o)→Q none { s₂ with heap:=h' }) :
  wpAny (model prog w) A.in1 (newExc (.type "StopIteration") [] >>= fun e=>raiseNew (α:=Fin) e) (fun fin s'=>∃v, fin=Fin.done (Flow.ret v)/\wpAny (model prog w) A (match (Except.ok (some v):Except Value (Option Value)) with
        | Except.ok (some v)=>pure (some v)
        | Except.ok none=>unsupported "iter:the-iterator's-class-has-lost-its-__next__-amid-the-walk"
        | Except.error e=>do
         let b ← isInstance e (Value.type "StopIteration")
         if b=true then pure none else throw e) Q E s') (fun e s'=>wpAny (model prog w) A (match (Except.error e:Except Value (Option Value)) with
        | Except.ok (some v)=>pure (some v)
        | Except.ok none=>unsupported "iter:the-iterator's-class-has-lost-its-__next__-amid-the-walk"
        | Except.error e=>do
         let b ← isInstance e (Value.type "StopIteration")
         if b=true then pure none else throw e) Q E s') s₂:=by
 refine wpAny_bind ?_
 simp only [newExc,newTuple]
 refine wpAny_bind (wpAny_newObj_type (wpAny_bind (m:=firstArgMember _ _) (wpAny_of_eq (a:=Value.none) (by first|rfl|(simp only [firstArgMember];rfl)) (wpAny_newObj_type ?_ (by size_fits)))) (by size_fits))
 simp only [raiseNew]
 refine wpAny_bind (wpAny_handled ?_)
 rw [show A.in1.handled=none from hh]
 refine wpAny_bind (wpAny_pure (wpAny_throw ?_))
 refine wpAny_bind (wpAny_isInstance (T := "StopIteration") (b:=true) ⟨_,Heap.get?_push_size _ rfl,rfl⟩ isSubtype_stop ?_)
 exact wpAny_pure (hQ _ fun b o e=>Heap.get?_push_of_some _ (Heap.get?_push_of_some _ e))
theorem Oi (hh:A.handled=none) {T:Addr}{ps:List Nat}(x:Dx s.heap it (.ref T) i S es.size ep) (r:Hh s.heap S es ep t) (hT:s.heap.IsTuple T (ps.map fun (p:Nat)=>rawInt p).toArray) (hp:ps[i]?=none) {Q:Option Value→Shared→Prop}
  (hQ:∀h',Heap.ExtBut it s.heap h'→Q none { s with heap:=h' }):wpAny (model prog w) A (pyNext (.ref it)) Q E s:=by
 have ty:=x.type
 obtain ⟨o,ho,hc,hd⟩:=id x
 obtain ⟨od,ho2,c2,hd2,hf⟩:=r
 unfold pyNext
 refine wpAny_bind (wpAny_attempt (wpAny_callSpecial?_slot (name:=Str.ofString "__next__") ty slot_next (wpAny_call_entry slot_next ty entry_next ?_ (args_next _))))
 unfold Builtin.«set_iterator.__next__»
 refine wpAny_bind (wpAny_pure (wpAny_bind (wpAny_fieldsOf ho hd ?_)))
 show wpAny _ _ (setEntries S >>= _) _ _ s
 refine wpAny_bind (wpAny_setEntries_of ho2 hd2 hf ?_)
 rw [if_neg (by simp)]
 obtain ⟨oT,hoT,cT,mT,dT⟩:=hT
 refine wpAny_bind (wpAny_seqItems hoT dT ?_)
 have e1:(ps.map fun (p:Nat)=>rawInt p).toArray[(i:Int).toNat]?=none:=by
  rw [Int.toNat_natCast,List.getElem?_toArray,List.getElem?_map,hp];rfl
 simp only [e1]
 refine wpAny_bind (wpAny_setField ho hd (by simp) ?_)
 obtain ⟨o1,h1,c1,d1⟩:=x.Ss (rawInt 0)
 refine wpAny_bind (wpAny_setField h1 d1 (by simp) ?_)
 refine NP hh fun h' k=>hQ _ fun b o hb e=>k b o ?_
 exact ((Heap.SameBut.update ..).trans (Heap.SameBut.update ..)).extBut b o hb e
theorem Lq {slot j:Nat}{v:Value}(x:Dx s.heap it (.int slot 0) i S es.size ep) (r:Hh s.heap S es ep t)
  (hn:∀Q':Option (Value×Nat)→Shared→Prop,Q' (some (v,j)) s→∀E,wpAny (model prog w) A.in1 (setNext S slot i ep) Q' E s) {Q:Option Value→Shared→Prop}
  (hQ:∀h',Dx h' it (.int j 0) (i+1) S es.size ep→Heap.SameBut it s.heap h'→Q (some v) { s with heap:=h' }):wpAny (model prog w) A (pyNext (.ref it)) Q E s:=by
 have ty:=x.type
 obtain ⟨o,ho,hc,hd⟩:=id x
 obtain ⟨od,ho2,c2,hd2,hf⟩:=r
 unfold pyNext
 refine wpAny_bind (wpAny_attempt (wpAny_callSpecial?_slot (name:=Str.ofString "__next__") ty slot_next (wpAny_call_entry slot_next ty entry_next ?_ (args_next _))))
 unfold Builtin.«set_iterator.__next__»
 refine wpAny_bind (wpAny_pure (wpAny_bind (wpAny_fieldsOf ho hd ?_)))
 show wpAny _ _ (setEntries S >>= _) _ _ s
 refine wpAny_bind (wpAny_setEntries_of ho2 hd2 hf ?_)
 rw [if_neg (by simp)]
 show wpAny _ _ (setNext S (slot:Int).toNat (i:Int).toNat (ep:Int).toNat >>= _) _ _ s
 rw [Int.toNat_natCast,Int.toNat_natCast,Int.toNat_natCast]
 refine wpAny_bind (hn _ ?_ _)
 dsimp only
 refine wpAny_bind (wpAny_setField ho hd (by simp) ?_)
 obtain ⟨o1,h1,c1,d1⟩:=x.Ss (rawInt j)
 refine wpAny_bind (wpAny_setField h1 d1 (by simp) ?_)
 exact wpAny_pure ⟨_,rfl,wpAny_pure (hQ _ (x.Ss (rawInt j)).UJ ((Heap.SameBut.update ..).trans (Heap.SameBut.update ..)))⟩
theorem Nn (hh:A.handled=none) {slot:Nat}(x:Dx s.heap it (.int slot 0) i S es.size ep) (r:Hh s.heap S es ep t)
  (hn:∀Q':Option (Value×Nat)→Shared→Prop,Q' none s→∀E,wpAny (model prog w) A.in1 (setNext S slot i ep) Q' E s) {Q:Option Value→Shared→Prop}
  (hQ:∀h',Heap.ExtBut it s.heap h'→Q none { s with heap:=h' }):wpAny (model prog w) A (pyNext (.ref it)) Q E s:=by
 have ty:=x.type
 obtain ⟨o,ho,hc,hd⟩:=id x
 obtain ⟨od,ho2,c2,hd2,hf⟩:=r
 unfold pyNext
 refine wpAny_bind (wpAny_attempt (wpAny_callSpecial?_slot (name:=Str.ofString "__next__") ty slot_next (wpAny_call_entry slot_next ty entry_next ?_ (args_next _))))
 unfold Builtin.«set_iterator.__next__»
 refine wpAny_bind (wpAny_pure (wpAny_bind (wpAny_fieldsOf ho hd ?_)))
 show wpAny _ _ (setEntries S >>= _) _ _ s
 refine wpAny_bind (wpAny_setEntries_of ho2 hd2 hf ?_)
 rw [if_neg (by simp)]
 show wpAny _ _ (setNext S (slot:Int).toNat (i:Int).toNat (ep:Int).toNat >>= _) _ _ s
 rw [Int.toNat_natCast,Int.toNat_natCast,Int.toNat_natCast]
 refine wpAny_bind (hn _ ?_ _)
 dsimp only
 refine wpAny_bind (wpAny_setField ho hd (by simp) ?_)
 refine NP hh fun h' k=>hQ _ fun b o hb e=>k b o ?_
 exact (Heap.SameBut.update ..).extBut b o hb e
theorem GL {E:Value→Shared→Prop}(hb:byT w=true) (r:Hh s.heap S es ep t) (slot:Nat) (Q':Option (Value×Nat)→Shared→Prop) (h:Q' (((pickOrder (w.params.setOrder S ep) es)[i]?).map fun e=>(e.2,slot)) s):wpAny (model prog w) A (setNext S slot i ep) Q' E s:=by
 obtain ⟨od,ho2,c2,hd2,hf⟩:=r
 unfold setNext
 refine wpAny_bind (wpAny_setState_of ho2 hd2 hf ?_)
 dsimp only
 refine wpAny_bind (m:=setsByText) ?_
 unfold setsByText
 refine wpAny_bind (wpAny_askSetting (wpAny_pure ?_))
 show wpAny _ _ (if byT w=true then _ else _) _ _ s
 rw [if_pos hb,if_neg (by simp)]
 refine wpAny_bind ?_
 unfold setWalk
 refine wpAny_bind (wpAny_setState_of ho2 hd2 hf ?_)
 dsimp only
 refine wpAny_bind (m:=setsByText) ?_
 unfold setsByText
 refine wpAny_bind (wpAny_askSetting (wpAny_pure ?_))
 show wpAny _ _ (if byT w=true then _ else _) _ _ s
 rw [if_pos hb]
 exact wpAny_bind (wpAny_askSetting (wpAny_pure (wpAny_pure h)))
theorem Hj {E:Value→Shared→Prop}(hb:byT w=false) (r:Hh s.heap S es ep t) (hl:t.led=true) (hd:(!t.plain&&decide (es.size > 1))=false) (hr:Jn t.place) (slot:Nat) (hs:SetTable.below t.place slot=i) (Q':Option (Value×Nat)→Shared→Prop)
  (h1:∀e j,es[i]?=some e→t.place[i]?=some j→Q' (some (e.2,j+1)) s) (h2:es.size≤i→Q' none s):wpAny (model prog w) A (setNext S slot i ep) Q' E s:=by
 obtain ⟨od,ho2,c2,hd2,hf⟩:=r
 have hps:t.place.size=es.size:=by
  simp only [SetTable.fits,Bool.and_eq_true,beq_iff_eq] at hf
  exact hf.1
 unfold setNext
 refine wpAny_bind (wpAny_setState_of ho2 hd2 hf ?_)
 dsimp only
 refine wpAny_bind (m:=setsByText) ?_
 unfold setsByText
 refine wpAny_bind (wpAny_askSetting (wpAny_pure ?_))
 show wpAny _ _ (if byT w=true then _ else if (!t.plain&&decide (es.size > 1))=true then _ else _) _ _ s
 rw [if_neg (by rw [hb];exact Bool.false_ne_true),if_neg (by rw [hd];exact Bool.false_ne_true)]
 refine wpAny_bind (m:=if (!t.led&&!es.isEmpty)=true then _ else _) ?_
 rw [if_neg (by rw [hl];simp)]
 refine wpAny_pure ?_
 rw [hs]
 rcases Nat.lt_or_ge i es.size with h|h
 ·have e1:es[i]?=some es[i]:=Array.getElem?_eq_getElem h
  have e2:t.place[i]?=some (t.place[i]'(by omega)):=Array.getElem?_eq_getElem (by omega)
  rw [e1,e2]
  exact wpAny_pure (h1 _ _ e1 e2)
 ·rw [Array.getElem?_eq_none h]
  exact wpAny_pure (h2 h)
end
end Stk
namespace Stk
open PySem PySem.Spec PyProof.Rows L2
theorem Ov (a:Value):argsOk "set_iterator.__iter__" ⟨[a],[]⟩:=by
 unfold argsOk;rw [signature?_of (id := "set_iterator.__iter__") (n:=['_','_','r','e','t','i','_','_']) (o:=['r','o','t','a','r','e','t','i','_','t','e','s']) (by kernel_rfl) Lj];kernel_rfl
theorem M5:entryFor table "set_iterator.__iter__" = some Builtin.«dict_keyiterator.__iter__» :=
 entryFor_alias (id' := "dict_keyiterator.__iter__") (by kernel_rfl) rfl (by decide +kernel) (by kernel_rfl)
section
variable {prog:Program}{w:World}{A:Around}{E:Value→Shared→Prop}{s:Shared}{S it:Addr}{es:Array (Int×Value)}{ep i n:Nat}{t:SetTable}{first:Value}
theorem HK (x:Dx s.heap it first i S n ep) {Q:Value→Shared→Prop}(h:Q (.ref it) s):wpAny (model prog w) A (pyIter (.ref it)) Q E s:=by
 refine wpAny_pyIter_slot x.type Jw (wpAny_call_entry Jw x.type M5 ?_ (Ov _))
 show wpAny _ _ (ret (.ref it)) _ _ s
 exact wpAny_pure ⟨_,rfl, "set_iterator", _,x.type,slot_next.lookup,h⟩
theorem MQ (hh:A.handled=none) (I T:Addr) (h1:S≠I) (h2:T≠I) (ps:List Nat) (vs:List Value) (hl:ps.length=es.size) (hv:∀(i p:Nat),ps[i]?=some p→∃e,es[p]?=some e/\vs[i]?=some e.2) :
  Walks prog w A I [I,S,T] [I] es.size (fun i v=>vs[i]?=some v) (fun i h=>Dx h I (.ref T) i S es.size ep/\Hh h S es ep t/\h.IsTuple T (ps.map fun (p:Nat)=>rawInt p).toArray) where
 sub:=fun b hb=>by simp at hb;simp [hb]
 frame:=fun i h h' st k=>⟨st.1.keep (k I (by simp)),st.2.1.keep (k S (by simp)),let ⟨o,e,c⟩:=st.2.2;⟨o,k T (by simp) o e,c⟩⟩
 item:=fun i s Q E hi st hQ=>by
  have hp:ps[i]?=some (ps[i]'(by omega)):=List.getElem?_eq_getElem (by omega)
  obtain ⟨e,he,hve⟩:=hv i _ hp
  refine Mo st.1 st.2.1 st.2.2 hp he fun h' k' sb=>hQ _ h' s.toks hve ⟨k',st.2.1.keep fun o e=>sb.extBut S o h1 e,let ⟨o,e,c⟩:=st.2.2;⟨o,sb.extBut T o h2 e,c⟩⟩ fun b o hb e=>sb.extBut b o (fun h=>hb (by simp [h])) e
 done:=fun s Q E st hQ=>Oi hh st.1 st.2.1 st.2.2 (List.getElem?_eq_none (by omega)) fun h' he=>hQ h' s.toks fun b o hb e=>he b o (fun h=>hb (by simp [h])) e
 self:=fun i s Q E st hQ=>HK st.1 hQ
theorem Nx (hh:A.handled=none) (hb:byT w=true) (I:Addr) (h1:S≠I) :
  Walks prog w A I [I,S] [I] es.size (fun i v=>((pickOrder (w.params.setOrder S ep) es).toList.map (·.2))[i]?=some v) (fun i h=>Dx h I (.int (0:Nat) 0) i S es.size ep/\Hh h S es ep t) where
 sub:=fun b hb=>by simp at hb;simp [hb]
 frame:=fun i h h' st k=>⟨st.1.keep (k I (by simp)),st.2.keep (k S (by simp))⟩
 item:=fun i s Q E hi st hQ=>by
  have hsz:(pickOrder (w.params.setOrder S ep) es).size=es.size:=by have:=(Ca (w.params.setOrder S ep) es).length_eq;simpa using this
  have e:(pickOrder (w.params.setOrder S ep) es)[i]?=some ((pickOrder (w.params.setOrder S ep) es)[i]'(by omega)):=Array.getElem?_eq_getElem (by omega)
  refine Lq (v:=((pickOrder (w.params.setOrder S ep) es)[i]'(by omega)).2) (j:=0) st.1 st.2 (fun Q' q E=>GL hb st.2 0 Q' (by rw [e];exact q)) fun h' k' sb=>hQ _ h' s.toks (by rw [List.getElem?_map,Array.getElem?_toList,e];rfl) ⟨k',st.2.keep fun o e=>sb.extBut S o h1 e⟩ fun b o hb e=>sb.extBut b o (fun h=>hb (by simp [h])) e
 done:=fun s Q E st hQ=>by
  have hsz:(pickOrder (w.params.setOrder S ep) es).size=es.size:=by have:=(Ca (w.params.setOrder S ep) es).length_eq;simpa using this
  exact Nn hh st.1 st.2 (fun Q' q E=>GL hb st.2 0 Q' (by rw [Array.getElem?_eq_none (by omega)];exact q)) fun h' he=>hQ h' s.toks fun b o hb e=>he b o (fun h=>hb (by simp [h])) e
 self:=fun i s Q E st hQ=>HK st.1 hQ
theorem Oz (hh:A.handled=none) (hb:byT w=false) (hl:t.led=true) (hd:(!t.plain&&decide (es.size > 1))=false) (hr:Jn t.place) (I:Addr) (h1:S≠I) :
  Walks prog w A I [I,S] [I] es.size (fun i v=>(es.toList.map (·.2))[i]?=some v) (fun i h=>(∃slot:Nat,SetTable.below t.place slot=i/\Dx h I (.int slot 0) i S es.size ep)/\Hh h S es ep t) where
 sub:=fun b hb=>by simp at hb;simp [hb]
 frame:=fun i h h' st k=>⟨let ⟨sl,e,x⟩:=st.1;⟨sl,e,x.keep (k I (by simp))⟩,st.2.keep (k S (by simp))⟩
 item:=fun i s Q E hi st hQ=>by
  obtain ⟨⟨sl,hs,x⟩,r⟩:=st
  have hps:t.place.size=es.size:=by
   obtain ⟨_,_,_,_,hf⟩:=r
   simp only [SetTable.fits,Bool.and_eq_true,beq_iff_eq] at hf
   exact hf.1
  have e2:t.place[i]?=some (t.place[i]'(by omega)):=Array.getElem?_eq_getElem (by omega)
  refine Lq (v:=(es[i]).2) (j:=(t.place[i]'(by omega))+1) x r (fun Q' q E=>Hj hb r hl hd hr sl hs Q' (fun e j e3 e4=>?_) fun h=>absurd hi (by omega)) fun h' k' sb=>hQ _ h' s.toks ?_ ⟨⟨_,NB hr e2,k'⟩,r.keep fun o e=>sb.extBut S o h1 e⟩ fun b o hb e=>sb.extBut b o (fun h=>hb (by simp [h])) e
  ·rw [Array.getElem?_eq_getElem hi] at e3
   rw [e2] at e4
   cases e3;cases e4
   exact q
  ·rw [List.getElem?_map,Array.getElem?_toList,Array.getElem?_eq_getElem hi];rfl
 done:=fun s Q E st hQ=>by
  obtain ⟨⟨sl,hs,x⟩,r⟩:=st
  refine Nn hh x r (fun Q' q E=>Hj hb r hl hd hr sl hs Q' (fun e j e3 e4=>?_) fun h=>q) fun h' he=>hQ h' s.toks fun b o hb e=>he b o (fun h=>hb (by simp [h])) e
  rw [Array.getElem?_eq_none (Nat.le_refl _)] at e3
  cases e3
 self:=fun i s Q E st hQ=>let ⟨⟨_,_,x⟩,_⟩:=st;HK x hQ
theorem QO {L:List Key}(hh:A.handled=none) (x:Dw prog w s.heap S L) {Q:Value→Shared→Prop}
  (hQ:∀(h':Heap) (d:Drawn) (I:Addr) (fp:List Addr) (St:Nat→Heap→Prop) (vs:List Value) (n:Nat),vs.length=n→(∀b o,s.heap.get? b=some o→h'.get? b=some o)→(∀b∈fp,b=S\/s.heap.objs.size≤b)→s.heap.objs.size≤I →
   Walks prog w A I fp [I] n (fun i v=>vs[i]?=some v) St→St 0 h'→(vs.map keyOf).Perm (L.map some)→n<scanBound→Q (.ref I) { s with heap:=h',drawn:=d }) :
  wpAny (model prog w) A (pyIter (.ref S)) Q E s:=by
 have ty:=x.type
 have hlt:=x.lt
 obtain ⟨o,es,ep,t,ho,hex,hd,hel,hpm,hb,hf,hgd⟩:=x
 have raw:Hh s.heap S es ep t:=⟨o,ho,hex,hd,hf⟩
 refine wpAny_pyIter_slot ty PySem.F.slot_set_iter (wpAny_call_entry PySem.F.slot_set_iter ty JW ?_ (PySem.F.args_set_iter_1 _))
 unfold Builtin.«frozenset.__iter__» Builtin.Frozenset.slot0 Builtin.Frozenset.addrOf
 refine wpAny_bind (wpAny_bind (wpAny_pure (wpAny_pure ?_)))
 dsimp only
 unfold Builtin.Frozenset.sizeOf
 refine wpAny_bind (wpAny_bind (wpAny_setEntries_of ho hd hf (wpAny_pure ?_)))
 refine wpAny_bind (m:=setDrawn S) ?_
 unfold setDrawn
 refine wpAny_bind (wpAny_setState_of ho hd hf ?_)
 dsimp only
 refine wpAny_bind (m:=setsByText) ?_
 unfold setsByText
 refine wpAny_bind (wpAny_askSetting (wpAny_pure ?_))
 refine wpAny_pure ?_
 show wpAny _ _ (if (!byT w&&(!t.plain&&decide (es.size > 1)))=true then _ else _) _ _ s
 by_cases hdr:(!byT w&&(!t.plain&&decide (es.size > 1)))=true
 ·rw [if_pos hdr]
  refine wpAny_bind (Ge es.size (List.range es.size) s _ (by simp) fun ys d hp=>wpAny_bind ?_)
  refine wpAny_newTuple ?_ (by have:=hp.length_eq;simp at this ⊢;rw [this];exact fits_of_scanBound hb)
  have hly:ys.length=es.size:=by have:=hp.length_eq;simpa using this
  refine wpAny_bind (wpAny_setEpoch_of (s:={ s with heap:=s.heap.push _,drawn:=d }) (Heap.get?_push_of_some _ ho) hd hf ?_)
  simp only [newFields]
  refine wpAny_bind (wpAny_newObj_type (wpAny_pure ⟨_,rfl, "set_iterator", _,⟨_,Heap.get?_push_size _ rfl,rfl⟩,slot_next.lookup,?_⟩))
  have key:∀p∈ys,∃e,es[p]?=some e:=fun p hp2=>by
   have:=hp.mem_iff.mp hp2
   rw [List.mem_range] at this
   exact ⟨_,Array.getElem?_eq_getElem this⟩
  refine hQ _ d _ [_,S,s.heap.objs.size] _ (ys.map fun p=>((es[p]?).map (·.2)).getD .none) es.size (by simpa using hly) (fun b o e=>Heap.get?_push_of_some _ (Heap.get?_push_of_some _ e)) ?_ ?_ (MQ (t:=t) (ep:=ep) hh _ _ ?_ ?_ ys _ hly fun i p e=>?_) ⟨⟨_,Heap.get?_push_size _ rfl,rfl,?_⟩,raw.keep fun o e=>Heap.get?_push_of_some _ (Heap.get?_push_of_some _ e),⟨_,Heap.get?_push_of_some _ (Heap.get?_push_size _ rfl),rfl,_,rfl⟩⟩ ?_ hb
  ·intro b hb2
   simp only [List.mem_cons,List.not_mem_nil,or_false] at hb2
   rcases hb2 with rfl|rfl|rfl
   ·right;rw [Heap.size_push];omega
   ·exact .inl rfl
   ·right;exact Nat.le_refl _
  ·rw [Heap.size_push];omega
  ·rw [Heap.size_push];exact Nat.ne_of_lt (Nat.lt_succ_of_lt hlt)
  ·rw [Heap.size_push];exact Nat.ne_of_lt (Nat.lt_succ_self _)
  ·obtain ⟨e2,he2⟩:=key p (List.mem_of_getElem? e)
   refine ⟨e2,he2,?_⟩
   rw [List.getElem?_map,e]
   simp [he2]
  ·simp [rawInt]
  ·refine List.Perm.trans ?_ hpm
   refine ((hp.map (fun p=>((es[p]?).map (·.2)).getD .none)).map keyOf).trans ?_
   have:(List.range es.size).map (fun p=>((es[p]?).map (·.2)).getD .none)=es.toList.map (·.2):=by
    refine List.ext_getElem (by simp) fun i h1 h2=>?_
    simp at h1 h2
    simp [h1]
   rw [this,List.map_map]
   exact .refl _
 ·rw [if_neg hdr]
  refine wpAny_bind (wpAny_pure ?_)
  refine wpAny_bind (wpAny_setEpoch_of ho hd hf ?_)
  simp only [newFields]
  refine wpAny_bind (wpAny_newObj_type (wpAny_pure ⟨_,rfl, "set_iterator", _,⟨_,Heap.get?_push_size _ rfl,rfl⟩,slot_next.lookup,?_⟩))
  have fpo:∀b∈[s.heap.objs.size,S],b=S\/s.heap.objs.size≤b:=fun b hb2=>by
   simp only [List.mem_cons,List.not_mem_nil,or_false] at hb2
   rcases hb2 with rfl|rfl
   ·right;exact Nat.le_refl _
   ·exact .inl rfl
  cases hbt:byT w with
  | true =>
   refine hQ _ s.drawn _ [_,S] _ ((pickOrder (w.params.setOrder S ep) es).toList.map (·.2)) es.size ?_ (fun b o e=>Heap.get?_push_of_some _ e) fpo (Nat.le_refl _) (Nx (t:=t) (ep:=ep) hh hbt _ (Nat.ne_of_lt hlt)) ⟨⟨_,Heap.get?_push_size _ rfl,rfl,?_⟩,raw.keep fun o e=>Heap.get?_push_of_some _ e⟩ ?_ hb
   ·have:=(Ca (w.params.setOrder S ep) es).length_eq;simpa using this
   ·refine List.Perm.trans ?_ hpm
    rw [List.map_map]
    exact (Ca (w.params.setOrder S ep) es).map _
   ·simp [rawInt]
  | false =>
   have hd2:(!t.plain&&decide (es.size > 1))=false:=by rw [hbt] at hdr;simpa using hdr
   have hps:t.place.size=es.size:=by
    simp only [SetTable.fits,Bool.and_eq_true,beq_iff_eq] at hf
    exact hf.1
   have hr:Jn t.place:=by
    cases hpl:t.plain with
    | true=>exact hgd.2 hpl
    | false =>
     rw [hpl] at hd2
     simp at hd2
     intro i j hij a b ea eb
     rw [Array.getElem?_eq_none (by omega)] at eb
     cases eb
   refine hQ _ s.drawn _ [_,S] _ (es.toList.map (·.2)) es.size (by simp) (fun b o e=>Heap.get?_push_of_some _ e) fpo (Nat.le_refl _) (Oz (t:=t) (ep:=ep) hh hbt (by rw [hgd.1,hbt];rfl) hd2 hr _ (Nat.ne_of_lt hlt)) ⟨⟨0,NA hr,_,Heap.get?_push_size _ rfl,rfl,?_⟩,raw.keep fun o e=>Heap.get?_push_of_some _ e⟩ ?_ hb
   ·rw [List.map_map]
    exact hpm
   ·simp [rawInt]
theorem QQ (hT:s.TypeIs (.ref S) "set") {Q:Bool→Shared→Prop}(h:Q false s):wpAny (model prog w) A (Builtin.List.listLengthHint (.ref S)) Q E s:=by
 unfold Builtin.List.listLengthHint
 refine wpAny_bind (wpAny_specialOf hT PySem.F.slot_set_len.lookup ?_)
 generalize hid:("set.__len__" : String)=id0
 wp_delta
 rw [show splitId id0=some ("set", "__len__") from by subst hid;decide +kernel]
 subst hid
 refine wpAny_bind (wpAny_isInstance (T := "set") (b:=true) hT (by rw [isSubtype_type];kernel_rfl) ?_)
 refine wpAny_ite_split (fun hab=>absurd hab (by decide)) (fun _=>?_)
 refine wpAny_ite_split (fun _=>?_) (fun hab=>absurd (by decide +kernel) hab)
 refine wpAny_bind (wpAny_typeOf hT ?_)
 exact wpAny_pure h
theorem MH {L:List Key}(hh:A.handled=none) (x:Dw prog w s.heap S L) {Q:List Value→Shared→Prop}
  (hQ:∀h' tk d (vs:List Value),(∀b o,s.heap.get? b=some o→h'.get? b=some o)→s.heap.objs.size<h'.objs.size→(vs.map keyOf).Perm (L.map some)→vs.length<scanBound→Q vs { s with heap:=h',toks:=tk,drawn:=d }):wpAny (model prog w) A (collect (.ref S)) Q E s:=by
 unfold collect
 refine wpAny_bind (wpAny_runValue (codeAny_builtin F.entry_proto_collect ?_))
 rw [Around.under_plainId F.plain_proto_collect _]
 show wpAny _ A.in1 (newList [] >>= fun l=>again (.builtin "list.__iadd__" ⟨[l,.ref S],[]⟩)) _ _ s
 refine wpAny_bind (wpAny_newObj_type ?_)
 refine wpAny_pure ⟨plainId_quiet F.plain_list_iadd _,codeAny_builtin F.entry_list_iadd ?_⟩
 rw [Around.under_plainId F.plain_list_iadd _]
 have hS₁:(s.heap.push { cls:=.type "list", data:=.seq ([]:List Value).toArray }).get? s.heap.objs.size=some { cls:=.type "list", data:=.seq ([]:List Value).toArray }:=Heap.get?_push_size _ rfl
 have kp:∀b o,s.heap.get? b=some o→(s.heap.push { cls:=.type "list", data:=.seq ([]:List Value).toArray }).get? b=some o:=fun b o e=>Heap.get?_push_of_some _ e
 have hne:s.heap.objs.size≠S:=Nat.ne_of_gt x.lt
 have x1:Dw prog w (s.heap.push { cls:=.type "list", data:=.seq ([]:List Value).toArray }) S L:=x.at' fun o e=>kp S o e
 show wpAny _ A.in1 (Builtin.List.listExtendWith (.ref s.heap.objs.size) (.ref S) (.ref s.heap.objs.size)) _ _ _
 unfold Builtin.List.listExtendWith
 refine wpAny_bind (wpAny_typeOf (T := "set") (s:={ s with heap:=s.heap.push { cls:=.type "list", data:=.seq ([]:List Value).toArray } }) x1.type ?_)
 have h1:Builtin.List.listSameRef (.ref s.heap.objs.size) (.ref S)=false:=by simp [Builtin.List.listSameRef,hne]
 simp only [h1,show (Value.type "set" == Value.type "list")=false from by decide,show (Value.type "set" == Value.type "tuple")=false from by decide,Bool.or_false,Bool.false_eq_true,if_false]
 refine wpAny_bind (QO (A:=A.in1) (s:={ s with heap:=s.heap.push { cls:=.type "list", data:=.seq ([]:List Value).toArray } }) hh x1 fun h' d I fp St vs n hvl k1 hfp hI W st pm hb=>?_)
 have hS₂:=k1 _ _ hS₁
 have hSI:s.heap.objs.size<I:=by have h2:(s.heap.push { cls:=.type "list", data:=.seq ([]:List Value).toArray }).objs.size=s.heap.objs.size+1:=Heap.size_push ..;rw [h2] at hI;exact hI
 have hSf:s.heap.objs.size∉fp:=fun hm=>by
  rcases hfp _ hm with e|e
  ·exact hne e
  ·have h2:(s.heap.push { cls:=.type "list", data:=.seq ([]:List Value).toArray }).objs.size=s.heap.objs.size+1:=Heap.size_push ..
   rw [h2] at e;exact absurd e (Nat.not_le_of_lt (Nat.lt_succ_self _))
 refine wpAny_bind (wpAny_holding (QQ (s:={ s with heap:=h',drawn:=d }) (x1.at' fun o e=>k1 S o e).type ?_))
 have key:∀(h:Heap) (c₁:Nat) (R:Result→Shared→Prop),St 0 h→(∀b o,b≠s.heap.objs.size→h'.get? b=some o→h.get? b=some o)→h.get? s.heap.objs.size=some { cls:=.type "list", data:=.seq #[] c₁ } →
   (∀h2 tk c',(∀b o,s.heap.get? b=some o→h2.get? b=some o)→h2.get? s.heap.objs.size=some { cls:=.type "list", dict:=none,data:=.seq vs.toArray c',slots:=#[] }→R (.ok (.ret (.ref s.heap.objs.size))) { s with heap:=h2,toks:=tk,drawn:=d }) →
   codeAny (model prog w) A (.builtin "list.extend.loop" ⟨[.ref s.heap.objs.size,.ref I,.ref s.heap.objs.size],[]⟩) R { s with heap:=h,drawn:=d }:=by
  intro h c₁ R hst hk hS₃ hR
  refine codeAny_extend_loopS W.toS (fits_of_scanBound hb) s.heap.objs.size hSf _ n 0 _ #[] c₁ rfl (Nat.zero_le _) hst hS₃ (ItemsOf.nil _) fun s' acc' c' hm hS' hacc=>?_
  rw [Moved.eq_with hm]
  have ea:acc'=vs.toArray:=by
   refine Array.ext (by rw [hacc.1];simpa using hvl.symm) fun i h1 h2=>?_
   have this:vs[i]?=some acc'[i]:=hacc.2 i acc'[i] (Array.getElem?_eq_getElem h1)
   simp at h2
   rw [List.getElem?_eq_getElem h2] at this
   simpa using (Option.some.inj this).symm
  subst ea
  refine hR s'.heap s'.toks c' (fun b o e=>hm.heap b o (fun hmem=>?_) (hk b o (Nat.ne_of_lt (Heap.lt_size e)) (k1 b o (kp b o e)))) hS'
  rcases List.mem_cons.mp hmem with e'|hmem
  ·exact absurd (Heap.lt_size e) (by rw [e'];exact Nat.lt_irrefl _)
  ·have:=Heap.lt_size e;rw [List.mem_singleton.mp hmem] at this;exact absurd (Nat.lt_trans this hSI) (Nat.lt_irrefl _)
 have fin:∀h2 tk c',(∀b o,s.heap.get? b=some o→h2.get? b=some o)→h2.get? s.heap.objs.size=some { cls:=.type "list", dict:=none,data:=.seq vs.toArray c',slots:=#[] } →
   wpAny (model prog w) A (load s.heap.objs.size >>= fun o=>match o.data with
    | .seq xs _=>pure xs.toList
    | _=>unsupported "internal:collect") Q E { s with heap:=h2,toks:=tk,drawn:=d }:=fun h2 tk c' a1 a2=>by
  refine wpAny_bind (wpAny_load a2 ?_)
  exact wpAny_pure (hQ h2 tk d vs a1 (Heap.lt_size a2) pm (by rw [hvl];exact hb))
 refine wpAny_ite_split (fun _=>?_) (fun _=>wpAny_pure ⟨plainId_quiet PySem.F.plain_extend_loop _,key _ 0 _ st (fun b o _ e=>e) hS₂ fun h2 tk c' a1 a2=>fin h2 tk c' a1 a2⟩)
 refine wpAny_bind (wpAny_rule ?_)
 refine wpAny_bind ?_
 show wpAny _ _ (updateSeq s.heap.objs.size (·.push .none) >>= fun _=>updateSeq s.heap.objs.size (·.pop)) _ _ _
 refine wpAny_bind (wpAny_updateSeq hS₂ rfl ?_)
 have hS₄:=Heap.get?_update_self (Obj.mapSeq (·.push Value.none)) hS₂ rfl
 refine wpAny_updateSeq (hz:=by seq_fits) hS₄ rfl ?_
 have hS₅:=Heap.get?_update_self (Obj.mapSeq (·.pop)) hS₄ rfl
 refine wpAny_pure ⟨plainId_quiet PySem.F.plain_extend_loop _,key _ _ _ ?_ (fun b o hb e=>?_) hS₅ fun h2 tk c' a1 a2=>fin h2 tk c' a1 a2⟩
 ·refine W.frame 0 _ _ st fun b hb o e=>?_
  have hbS:b≠s.heap.objs.size:=fun h=>hSf (h ▸ hb)
  exact (Heap.get?_update_other _ _ (Ne.symm hbS)).trans ((Heap.get?_update_other _ _ (Ne.symm hbS)).trans e)
 ·exact (Heap.get?_update_other _ _ (Ne.symm hb)).trans ((Heap.get?_update_other _ _ (Ne.symm hb)).trans e)
end
end Stk
namespace L2
open PySem PySem.Spec PyProof.Rows
theorem Inv.drawn {X:Cx} {pins:List (Addr×Obj)} {σ:St} {H:Hp} {s:Shared} (I:Inv X pins σ H s) (d:Drawn):Inv X pins σ H { s with drawn:=d }:=by
 obtain ⟨a1,a2,a3,a4,a5,a6,a7,a8,a9,a10,a11⟩:=I
 exact ⟨a1,a2,a3,a4,a5,a6,a7,a8,a9,a10,a11⟩
theorem Rm:∀{vs:List Value}{L:List Key},(vs.map Stk.keyOf).Perm (L.map some)→∃L':List Key,vs.map Stk.keyOf=L'.map some/\L'.Perm L:=fun {vs L} h=>by
 refine ⟨vs.map fun v=>(Stk.keyOf v).getD (.inl 0),?_,?_⟩
 ·rw [List.map_map]
  refine List.map_congr_left fun v hv=>?_
  have:=h.mem_iff.mp (List.mem_map_of_mem hv)
  obtain ⟨k,_,e⟩:=List.mem_map.mp this
  simp [←e]
 ·have:=h.map fun o=>o.getD (.inl 0)
  rw [List.map_map,List.map_map] at this
  simpa [Function.comp_def] using this
theorem Kn {k:Key}{v:Value}(h:Stk.keyOf v=some k):RelV (kV k) v:=by
 cases v <;> first|cases h|skip
 ·exact ⟨_,rfl⟩
 ·exact ⟨_,rfl⟩
section
variable {X:Cx}{K:PySem.W.Frag}{e:Expr}{te:TE}{p1 p2 pos1 pos2:Pos}
def Qw (K:PySem.W.Frag) (te:TE):TE:=fun σ H Q=>te σ H fun x H1=>∃(a:Addr) (ks:List Key),x=.ref a/\SqL K H1 a (ks.map kV)/\((∀k∈ks,∃i,k=.inl i)\/∀k∈ks,∃i,k=.inr i)/\ks.length+1<scanBound /\
 ∀l (rs:List Key),H1 l=none→rs.Perm (Stk.once [] ks)→rs.Pairwise (fun a b=>kLt b a=false)→Q (.ref l) (upd H1 l (.lst (rs.map kV)))
theorem OE (hc:X.calm=true) (hg1:Gl X "sorted") (hm1:X.mg "sorted" = none) (hg2:Gl X "set") (hm2:X.mg "set" = none) (he0:PE X e te) (hK:X.K=K:=by rfl)
  (hs2:starEach [e] X.env=(false,eval e X.env)::starEach [] X.env:=by rfl) (hs1:starEach [.Call (.Name "set" p2) [e] [] pos2] X.env=(false,eval (.Call (.Name "set" p2) [e] [] pos2) X.env)::starEach [] X.env:=by rfl) :
  PE X (.Call (.Name "sorted" p1) [.Call (.Name "set" p2) [e] [] pos2] [] pos1) (Qw K te):=by
 subst hK
 intro pins s0 σ H Q I0 h
 refine wpAny_Call_Name_kw (EZ I0 hg1 hm1 PyProof.Rows.boot_sorted ?_ (by decide) (by decide))
 refine PyProof.Rows.callWith_builtin1 ?_ hs1 rfl
 rw [hs1]
 refine Calls.spliced_cons (Q:=fun us s1=>wpAny (model X.prog X.w) X.A (call (.builtin "sorted") us) (EP X pins σ Q) X.xe s1) ?_
 refine wpAny_Call_Name_kw (EZ I0 hg2 hm2 PyProof.Rows.boot_set ?_ (by decide) (by decide))
 refine PyProof.Rows.callWith_type1 ?_ hs2 rfl
 rw [hs2]
 refine Calls.spliced_cons (thn (he0 pins s0 σ H _ I0 h) fun u s ⟨x,H1,I,rx,a,ks,ex,hq,hty,hb,q⟩=>Calls.spliced_nil ?_)
 subst ex
 obtain rfl:u=Value.ref a:=rx
 obtain ⟨its0,rv0,pl,hz⟩:=I.list hq
 have hl:=pl.isList
 have hlen:=rv0.length
 rw [List.length_map] at hlen
 refine Stk.Qf (items:=its0.toArray) (ks:=ks) (I.ok.hd hc) hl (by simpa using hlen) (fun i k v e1 e2=>?_) (by simp;omega) fun h0 tk0 sk old0=>Calls.spliced_nil ?_
 ·rw [List.getElem?_toArray] at e2
  obtain ⟨u',e4,e5⟩:=rv0.get (i:=i) (x:=kV k) (by rw [List.getElem?_map,e1];rfl)
  rw [e2] at e4
  cases e4
  cases k with
  | inl n=>obtain ⟨t,rfl⟩:=e5;exact HI _ _
  | inr n=>obtain ⟨t,rfl⟩:=e5;exact HH _ _
 have hlt0:s.heap.objs.size<h0.objs.size:=sk.lt
 refine Calls.call_function_entry kind_sorted plain_sorted entry_sorted (args_sorted1 _) ?_
 unfold Builtin.«sorted»
 refine wpAny_bind (m:=checkCount "sorted" 1 1 _) (wpAny_pure ?_)
 refine wpAny_bind (Stk.MH (A:=X.A.in1) (s:={ s with heap:=h0,toks:=tk0 }) (I.ok.hd hc) sk fun h1 tk d its k1 gr pm0 hbs=>?_)
 obtain ⟨L,eL,pL⟩:=Rm pm0
 have hmem:∀k∈L,k∈ks:=fun k hk=>by
  have:=(Stk.JO k ks []).mp (pL.mem_iff.mp hk)
  simpa using this
 have hLl:its.length=L.length:=by have:=congrArg List.length eL;simpa using this
 have kat:∀(i:Nat) v k,its[i]?=some v→L[i]?=some k→Stk.keyOf v=some k:=fun i v k e1 e2=>by
  have:=congrArg (fun l=>l[i]?) eL
  simp only [List.getElem?_map,e1,e2] at this
  simpa using this
 have rv:Vals (L.map kV) its:=by
  refine Aa (by rw [List.length_map];omega) fun i x v e1 e2=>?_
  rw [List.getElem?_map] at e1
  obtain ⟨k,e3,rfl⟩:=Option.map_eq_some_iff.mp e1
  exact Kn (kat i v k e2 e3)
 have ra:=rv.length
 rw [List.length_map] at ra
 have sv:CL h1 its (L.map fun k=>[k]):=by
  rcases hty with hty|hty
  ·refine .cI (by rw [List.length_map];omega) fun i u ks e1 e2=>?_
   rw [List.getElem?_map] at e2
   obtain ⟨p,e3,rfl⟩:=Option.map_eq_some_iff.mp e2
   obtain ⟨n,en⟩:=hty p (hmem p (List.mem_of_getElem? e3))
   have e5:=Kn (kat i u p e1 e3)
   rw [en] at e5 ⊢
   obtain ⟨t,rfl⟩:=e5
   exact ⟨n,t,rfl,rfl⟩
  ·refine .cS (by rw [List.length_map];omega) fun i u ks e1 e2=>?_
   rw [List.getElem?_map] at e2
   obtain ⟨p,e3,rfl⟩:=Option.map_eq_some_iff.mp e2
   obtain ⟨n,en⟩:=hty p (hmem p (List.mem_of_getElem? e3))
   have e5:=Kn (kat i u p e1 e3)
   rw [en] at e5 ⊢
   obtain ⟨t,rfl⟩:=e5
   exact ⟨n,t,rfl,rfl⟩
 have hsl:its.length≤sizeLine:=fits_of_scanBound hbs
 refine wpAny_bind (wpAny_newList ?_ (by omega))
 have hoL:(h1.push (seqObj "list" its.toArray 0)).get? h1.objs.size=some (seqObj "list" its.toArray 0):=Heap.get?_push_size _ rfl
 have grow:s.heap.objs.size≤h1.objs.size:=Nat.le_of_lt (Nat.lt_trans hlt0 gr)
 refine wpAny_bind (wpAny_holding (wpAny_call_entry (s:={ s with heap:=h1.push (seqObj "list" its.toArray 0),toks:=tk,drawn:=d }) slot_list_sort ⟨_,hoL,rfl⟩ entry_list_sort (Srt.EO (O:=lexOrd) hoL (by omega) (kfH h1) (fun h' k' h2=>?_) fun out p u=>⟨_,rfl,wpAny_pure ⟨_,rfl,?_⟩⟩) (args_list_sort _)))
 ·refine sv.cmp h2 fun a o items m _ e _ _=>?_
  exact k' a o (Nat.ne_of_lt (Heap.lt_size e)) (Heap.get?_push_of_some _ e)
 ·obtain ⟨qs,q1,q2,q3⟩:=Kq (X:=X) rv sv p u
  obtain ⟨e',ho⟩:=sortedHeap_at (h:=h1.push (seqObj "list" its.toArray 0)) (a:=h1.objs.size) (vs:=its) (out:=out.map (·.2)) hoL
  have one:∀x∈qs,∃k,x.1=kV k/\x.2=[k]:=fun x hx=>by
   have hm:=q1.mem_iff.mp hx
   obtain ⟨i,hi⟩:=List.mem_iff_getElem?.mp hm
   obtain ⟨e3,e4⟩:=List.getElem?_zip_eq_some.mp hi
   rw [List.getElem?_map] at e3 e4
   obtain ⟨p3,e5,e6⟩:=Option.map_eq_some_iff.mp e3
   rw [e5] at e4
   have e4:some [p3]=some x.2:=e4
   exact ⟨p3,e6.symm,(Option.some.inj e4).symm⟩
  have ep:qs.map (·.1)=(qs.map fun x=>x.2.headD (.inl 0)).map kV:=by
   rw [List.map_map]
   refine List.map_congr_left fun x hx=>?_
   obtain ⟨k,e1,e2⟩:=one x hx
   show x.1=kV (x.2.headD (.inl 0))
   rw [e1,e2]
   rfl
  have pm:(qs.map fun x=>x.2.headD (.inl 0)).Perm L:=by
   refine (q1.map _).trans (List.Perm.of_eq ?_)
   rw [show (fun x:V×List Key=>x.2.headD (.inl 0))=(fun l:List Key=>l.headD (.inl 0)) ∘ Prod.snd from rfl,←List.map_map,List.map_snd_zip (by simp),List.map_map]
   exact List.map_id _
  have pw:(qs.map fun x=>x.2.headD (.inl 0)).Pairwise (fun a b=>kLt b a=false):=by
   rw [List.pairwise_map]
   rw [List.pairwise_map] at q3
   refine q3.imp_of_mem fun {a b} ha hb hab=>?_
   obtain ⟨x,_,ex⟩:=one a ha
   obtain ⟨y,_,ey⟩:=one b hb
   rw [ex,ey] at hab ⊢
   show kLt y x=false
   have hab:(if y=x then false else kLt y x)=false:=hab
   by_cases z:y=x
   ·rw [z];exact Kx x
   ·rw [if_neg z] at hab;exact hab
  have lz:(qs.map (·.1)).length≤sizeLine:=by
   rw [List.length_map,q1.length_eq,List.length_zip,List.length_map]
   omega
  have old:∀b o,s.heap.get? b=some o→(sortedHeap (h1.push (seqObj "list" its.toArray 0)) h1.objs.size its (out.map (·.2))).get? b=some o:=fun b o e=>by
   have e1:=k1 b o (old0 b o (Heap.lt_size e) e)
   have hlt:=Heap.lt_size e1
   rw [sortedHeap_old (Nat.ne_of_lt hlt) (by rw [size_push'];exact Nat.lt_succ_of_lt hlt)]
   exact Heap.get?_push_of_some _ e1
  refine ⟨.ref h1.objs.size,_,(I.drawn d).laid (a:=h1.objs.size) (o:=.lst (qs.map (·.1))) (t':=tk) old grow ⟨lz,_,e',q2,by rw [Array.toArray_toList];exact ho⟩,rfl,?_⟩
  rw [ep]
  exact q _ _ (I.hok.fresh grow) (pm.trans pL) pw
end
end L2
namespace Dpr
open PySem PySem.Spec PyProof.Rows L2
theorem Rj:typeLookup (.type "list") "keys" = pure none:=by rw [typeLookup_type,builtinLookup_eq_fast];kernel_rfl
theorem OX {prog:Program}{w:World}{A:Around}{E:Value→Shared→Prop}{s:Shared}{a:Addr}{xs:Array Value}{k:Nat}{sl:Array (Option Value)}{Q:Option Value→Shared→Prop}
  (hx:s.heap.get? a=some { cls:=.type "list", dict:=none,data:=.seq xs k,slots:=sl }) (hA:A.handled=none)
  (h:∀h' tk,(∀b o,s.heap.get? b=some o→h'.get? b=some o)→Q none { s with heap:=h',toks:=tk }) :
  wpAny (model prog w) A (getAttr? (.ref a) "keys") Q E s:=by
 obtain ⟨hp,g,d,tk,os⟩:=s
 have hT:∀tk',(⟨hp,g,d,tk',os⟩:Shared).TypeIs (.ref a) "list" := fun _=>⟨_,hx,rfl⟩
 have f1:=sub_AttributeError
 have f3:=PySem.F.slot_list_getattribute.lookup
 have f4:=PySem.F.slot_list_getattribute.bind (.ref a)
 have f5:=am_list_getattr_none
 unfold getAttr? getAttrBy? getAttrBy
 repeat (any_goals (first|assumption|exact hT _|((with_reducible show wpAny _ _ (call (Value.builtin "list.__getattribute__") _ _) _ _ _);refine call_meets PySem.F.slot_list_getattribute (hT _) am_entry_list_getattribute (PySem.F.args_list_getattribute_2 _ _) (meets_getattribute_miss_list a xs k sl "keys" _ Rj (by decide +kernel) (by size_fits)) ⟨hx,hA,fun h' tk' e hx'=>?_⟩)|wp_step))
 obtain ⟨t',u',he⟩:=hx'.there
 show wpAny _ _ (getattributeRaised _ _ _ _ _ _ _) _ _ _
 unfold getattributeRaised
 repeat (any_goals (first|assumption|wp_step))
 exact h _ _ hx'.keeps
theorem JX:entryFor table "dict.update.loop" = some Builtin.«dict.update.loop»:=entryFor_of_tree (by kernel_rfl)
theorem ET:plainId "dict.update.loop" = true:=by decide +kernel
theorem Nj {prog:Program}{w:World}{h h':Heap}{k:List Key}{a:Addr}(x:(tupleKind (AR prog w)).is h k a) (m:∀o,h.get? a=some o→h'.get? a=some o):(tupleKind (AR prog w)).is h' k a :=
 let ⟨o,i,n,e,r⟩:=(show IsTupleKey (AR prog w) h k a from x);(show IsTupleKey (AR prog w) h' k a from ⟨o,i,n,m o e,r⟩)
def DW (prog:Program) (w:World) (h:Heap) (d:Addr) (xs:List (List Key×Addr×Value)):Prop :=
 ∃o es ep,h.get? d=some o/\o.ExactDict/\o.data=.dict es ep/\es.toList=xs.map (entryOfKey (tupleKind (AR prog w)))
theorem DW.keep {prog:Program}{w:World}{h h':Heap}{d:Addr}{xs:List (List Key×Addr×Value)}(x:DW prog w h d xs) (k:∀o,h.get? d=some o→h'.get? d=some o):DW prog w h' d xs:=let ⟨o,es,ep,e,r⟩:=x;⟨o,es,ep,k o e,r⟩
theorem NJ {xs:List (List Key×Addr×Value)}{k:List Key}(h:k∉xs.map (·.1)):atKey xs k=none:=by
 unfold atKey
 rw [Option.map_eq_none_iff,List.find?_eq_none]
 intro x hx e
 exact h (List.mem_map.mpr ⟨x,hx,by simpa using e⟩)
section
variable {prog:Program}{w:World}{A:Around}{R:Result→Shared→Prop}{I:Addr}{fp wr:List Addr}{G:Array GenState→Array GenState→Prop}{n:Nat}{P:Nat→Value→Prop}{St:Nat→Shared→Prop}
theorem loop (W:WalksS prog w A.in1 I fp wr G n P St) (d:Addr) (hdf:d∉fp) (h0:Heap) (hwr:∀b o,h0.get? b=some o→b∉wr) (hd0:h0.get? d=none) (ps:List (List Key×Addr×Value)) (hn:ps.length=n) (hnd:(ps.map (·.1)).Nodup) (hsz:n≤sizeLine) (hu:A.in1.units<cLine)
  (hval:∀(i:Nat) p v,ps[i]?=some p→P i v→∃b,v=.ref b/\h0.IsTuple b #[.ref p.2.1,p.2.2]) (his:∀p∈ps,(tupleKind (AR prog w)).is h0 p.1 p.2.1) :
  ∀(k i:Nat) (s:Shared),n-i=k→i≤n→St i s→(∀b o,h0.get? b=some o→s.heap.get? b=some o)→DW prog w s.heap d (ps.take i) →
   (∀s',Moved (d::wr) G s s'→DW prog w s'.heap d ps→R (.ok (.ret .none)) s') →
   codeAny (model prog w) A (.builtin "dict.update.loop" ⟨[.ref d,.ref I,.int i 0,.none],[]⟩) R s:=by
 have hdw:d∉wr:=fun h=>hdf (W.sub _ h)
 have hsub:∀b∈wr,b∈d::wr:=fun b hb=>List.mem_cons_of_mem _ hb
 intro k
 induction k with
 | zero =>
  intro i s hk hi hst hold hD hR
  have hin:i=n:=by omega
  subst hin
  refine codeAny_builtin JX ?_
  rw [Around.under_plainId ET _]
  show wpAny _ A.in1 (pyNext (.ref I) >>= _) _ _ s
  refine wpAny_bind (W.done s _ _ hst fun s' hm=>?_)
  show wpAny _ A.in1 (Builtin.Dict.addKeywords d [] >>= fun _=>ret Value.none) _ _ s'
  rw [List.take_of_length_le (by omega)] at hD
  refine wpAny_bind (wpAny_pure ?_)
  exact wpAny_pure (hR s' (hm.mono hsub) (hD.keep fun o e=>hm.heap d _ hdw e))
 | succ k ih =>
  intro i s hk hi hst hold hD hR
  have hlt:i<n:=by omega
  refine codeAny_builtin JX ?_
  rw [Around.under_plainId ET _]
  show wpAny _ A.in1 (pyNext (.ref I) >>= _) _ _ s
  refine wpAny_bind (W.item i s _ _ hlt hst fun v s' hP hst' hm=>?_)
  have hpi:ps[i]?=some (ps[i]'(by omega)):=List.getElem?_eq_getElem (by omega)
  generalize hp:ps[i]'(by omega)=p at hpi
  have hmemp:p∈ps:=List.mem_of_getElem? hpi
  obtain ⟨b,rfl,ob,hob,hcb,nb,hdb⟩:=hval i p v hpi hP
  have hold':∀b o,h0.get? b=some o→s'.heap.get? b=some o:=fun b o e=>hm.heap b o (hwr b o e) (hold b o e)
  have hob':=hold' b ob hob
  show wpAny _ A.in1 (holding [Value.ref b] _ >>= _) _ _ s'
  refine wpAny_bind (wpAny_holding ?_)
  refine wpAny_bind (wpAny_tryCatch ?_)
  unfold Builtin.Dict.pairItems
  refine wpAny_bind (wpAny_typeOf (T := "tuple") ⟨_,hob',hcb⟩ ?_)
  rw [if_pos (by decide)]
  refine wpAny_bind (wpAny_seqItems hob' hdb (wpAny_pure ?_))
  show wpAny _ A.in1 (holding [.ref p.2.1,p.2.2] (dictSet d (.ref p.2.1) p.2.2)) _ _ s'
  refine wpAny_holding ?_
  have hD':DW prog w s'.heap d (ps.take i):=hD.keep fun o e=>hm.heap d _ hdw e
  obtain ⟨od,es,ep,e1,e2,e3,e4⟩:=hD'
  have hndi:((ps.take i).map (·.1)).Nodup:=by
   rw [List.map_take]
   exact hnd.sublist (List.take_sublist _ _)
  have hnot:p.1∉(ps.take i).map (·.1):=fun hmem=>by
   have h1:(ps.map (·.1))=((ps.take i).map (·.1))++p.1::(ps.drop (i+1)).map (·.1):=by
    have h2:ps.take i++p::ps.drop (i+1)=ps:=by
     rw [←hp,List.getElem_cons_drop,List.take_append_drop]
    conv=>lhs;rw [←h2]
    rw [List.map_append,List.map_cons]
   rw [h1,List.nodup_append] at hnd
   exact hnd.2.2 _ hmem _ (List.mem_cons_self) rfl
  have hk:(tupleKind (AR prog w)).is s'.heap p.1 p.2.1:=Nj (his p hmemp) fun o e=>hold' _ _ e
  refine wpAny_dictSet_heap (knd:=tupleKind (AR prog w)) (xs:=ps.take i) (k:=p.1) hu hk ⟨od,es,ep,e1,e2,e3,e4,fun x hx=>Nj (his x (List.mem_of_mem_take hx)) fun o e=>hold' _ _ e,hndi⟩ (fun h' dd hs=>?_) (by rw [List.length_take];omega)
  rw [storedH_new (NJ hnot)] at dd
  have hDn:DW prog w h' d (ps.take (i+1)):=by
   obtain ⟨o2,es2,ep2,f1,f2,f3,f4,_,_⟩:=dd
   refine ⟨o2,es2,ep2,f1,f2,f3,?_⟩
   rw [List.take_add_one,hpi]
   exact f4
  have hbd:∀b o,h0.get? b=some o→b≠d:=fun b o e h=>by rw [h,hd0] at e;cases e
  refine wpAny_pure ⟨plainId_quiet ET _,?_⟩
  have:=ih (i+1) { s' with heap:=h',toks:=s'.toks+(tupleKind (AR prog w)).draws p.1 } (by omega) hlt (W.frame _ s' _ _ hst' (Nat.le_add_right _ _) fun b hb o e=>?_) (fun b o e=>?_) hDn fun s'' hm'' hD''=>?_
  ·rw [show ((i+1:Nat):Int)=(i:Int)+1 from by omega] at this
   exact this
  ·rw [hs.2 b (fun h:b=d=>hdf (by rw [←h];exact hb))];exact e
  ·show h'.get? b=some o
   rw [hs.2 b (hbd b o e)];exact hold' b o e
  ·refine hR s'' (Moved.trans W.gtrans ((hm.mono hsub).then_heap (Nat.le_add_right _ _) fun b o hb e=>?_) hm'') hD''
   rw [hs.2 b (fun h:b=d=>hb (by rw [h];exact List.mem_cons_self))];exact e
end
end Dpr
namespace Dpr
open PySem PySem.Spec PyProof.Rows L2
theorem M7 {prog:Program}{w:World}{A:Around}{E:Value→Shared→Prop}{s:Shared}{l:Addr}{items:Array Value}{nl:Nat}{Q:Value→Shared→Prop}(ps:List (List Key×Addr×Value)) (hA:A.handled=none) (hu:A.in1.in1.units<cLine)
  (hl:s.heap.get? l=some { cls:=.type "list", data:=.seq items nl }) (hn:ps.length=items.size) (hnd:(ps.map (·.1)).Nodup) (hsz:items.size≤sizeLine)
  (hval:∀(i:Nat) p v,ps[i]?=some p→items[i]?=some v→∃b,v=.ref b/\s.heap.IsTuple b #[.ref p.2.1,p.2.2]) (his:∀p∈ps,(tupleKind (AR prog w)).is s.heap p.1 p.2.1)
  (h:∀h' tk,DW prog w h' s.heap.objs.size ps→(∀b o,s.heap.get? b=some o→h'.get? b=some o)→Q (.ref s.heap.objs.size) { s with heap:=h',toks:=tk }) :
  wpAny (model prog w) A (call (.type "dict") [.ref l]) Q E s:=by
 refine callType_codes (Q₁:=fun obj s₁=>obj=.ref s.heap.objs.size/\s₁={ s with heap:=s.heap.push { cls:=.type "dict", data:=.dict #[] } }) PySem.F.kt_called_dict (PySem.F.kt_typeCall_dict_1 _) PySem.F.entry_dict_init (kt_code_dict_new _ ⟨rfl,rfl⟩) ?_
 rintro obj s₁ ⟨rfl,rfl⟩
 have hD0:(s.heap.push { cls:=.type "dict", data:=.dict #[] }).get? s.heap.objs.size=some { cls:=.type "dict", data:=.dict #[] }:=Heap.get?_push_size _ rfl
 have hty:Shared.TypeIs { s with heap:=s.heap.push { cls:=.type "dict", data:=.dict #[] } } (.ref s.heap.objs.size) "dict" := ⟨_,hD0,rfl⟩
 have hl1:(s.heap.push { cls:=.type "dict", data:=.dict #[] }).get? l=some { cls:=.type "list", data:=.seq items nl }:=Heap.get?_push_of_some _ hl
 refine ⟨hty,PySem.F.args_dict_init_2 _ _,?_⟩
 unfold Builtin.«dict.__init__»
 refine wpAny_bind ?_
 unfold Builtin.Dict.selfAndRest
 refine wpAny_bind (wpAny_notOrdered_dict hty ?_)
 show wpAny _ _ (pure (s.heap.objs.size,[Value.ref l])) _ _ _
 refine wpAny_pure ?_
 show wpAny _ _ (Builtin.Dict.updateFrom "dict.__init__" s.heap.objs.size (.ref l) [] .none) _ _ _
 unfold Builtin.Dict.updateFrom
 refine wpAny_bind (wpAny_typeOf (T := "list") ⟨_,hl1,rfl⟩ ?_)
 rw [if_pos (by decide)]
 refine wpAny_bind (OX (s:={ s with heap:=s.heap.push { cls:=.type "dict", data:=.dict #[] } }) hl1 (by simp [hA]) fun h1 tk1 k1=>?_)
 rw [if_pos (by rfl)]
 refine wpAny_bind (wpAny_rule ?_)
 have hl2:=k1 _ _ hl1
 have hD1:=k1 _ _ hD0
 have hil:h1.IsList l items:=⟨_,hl2,rfl,nl,rfl⟩
 refine wpAny_bind (wpAny_pyIter_list (s:={ s with heap:=h1,toks:=tk1 }) hil ?_)
 have hdI:s.heap.objs.size<h1.objs.size:=Heap.lt_size hD1
 have hlt:l<s.heap.objs.size:=Heap.lt_size hl
 have hneI:l≠h1.objs.size:=Nat.ne_of_lt (Nat.lt_trans hlt hdI)
 have kI:∀b o,s.heap.get? b=some o→(h1.push { cls:=.type "list_iterator", data:=.fields #[.ref l,.int 0 0] }).get? b=some o:=fun b o e=>Heap.get?_push_of_some _ (k1 b o (Heap.get?_push_of_some _ e))
 refine wpAny_pure ⟨plainId_quiet ET _,?_⟩
 refine loop (A:=A.in1) (W:=(Walks.list (by simp [hA]) h1.objs.size l hneI items).toS) s.heap.objs.size ?_ s.heap (fun b o e hm=>?_) ?_ ps hn hnd hsz hu (fun i p v e1 e2=>hval i p v e1 e2) his (items.size-0) 0 _ (by omega) (Nat.zero_le _)
  ⟨⟨_,Heap.get?_push_size _ rfl,rfl,rfl⟩,hil.push _⟩ (fun b o e=>kI b o e) ?_ fun s' hm hD'=>?_
 ·simp only [List.mem_cons,List.not_mem_nil,or_false,not_or]
  exact ⟨Nat.ne_of_lt hdI,Nat.ne_of_gt hlt⟩
 ·have:=Heap.lt_size e
  rw [List.mem_singleton.mp hm] at this
  exact absurd (Nat.lt_trans this hdI) (Nat.lt_irrefl _)
 ·cases hq:s.heap.get? s.heap.objs.size with
  | none=>rfl
  | some o'=>exact absurd (Heap.lt_size hq) (Nat.lt_irrefl _)
 ·exact ⟨_,#[],0,Heap.get?_push_of_some _ hD1,⟨rfl,rfl,rfl⟩,rfl,rfl⟩
 ·obtain ⟨h',g',d',tk',os'⟩:=s'
  have eg:g'=s.gens:=hm.gens
  have ed:d'=s.drawn:=hm.drawn
  have eo:os'=s.os:=hm.os
  subst eg;subst ed;subst eo
  refine ⟨rfl,h h' tk' hD' fun b o e=>?_⟩
  refine hm.heap b o (fun hmem=>?_) (kI b o e)
  have:=Heap.lt_size e
  simp only [List.mem_cons,List.not_mem_nil,or_false] at hmem
  rcases hmem with rfl|rfl
  ·exact Nat.lt_irrefl _ this
  ·exact absurd (Nat.lt_trans this hdI) (Nat.lt_irrefl _)
end Dpr
namespace L2
open PySem PySem.Spec PyProof.Rows
abbrev UZ (H:Hp):List V→List (List Key×V)→Prop:=Paired fun y p=>∃b kb,y=.ref b/\H b=some (.tup [.ref kb,p.2])/\H kb=some (.tup (p.1.map kV))
section
variable {X:Cx}
theorem M9 {k:Nat}(hr:BZ k X.A):Cg X (.type "dict") (fun xs H Q=>∃(p:Addr) (ys:List V) (kvs:List (List Key×V)),xs=[.ref p]/\H p=some (.lst ys)/\UZ H ys kvs/\(kvs.map (·.1)).Nodup /\
  ∀l,H l=none→Q (.ref l) (upd H l (.dT kvs))):=by
 intro pins s σ H xs us Q I r h
 obtain ⟨p,ys,kvs,rfl,e,pr,hnd,q⟩:=h
 obtain ⟨u,rfl,ru⟩:=vals1 r
 cases ru
 obtain ⟨z,its,nl,rv,ho⟩:=(show A7 X.prog X.w H s.heap p (.lst ys) from I.hok p _ e)
 have hlen:ys.length=kvs.length:=Paired.length pr
 have hli:its.length=ys.length:=rv.length.symm
 have key:∃qs:List (List Key×Addr×Value),Paired (fun (a:List Key×V) (b:List Key×Addr×Value)=>a.1=b.1/\H b.2.1=some (.tup (a.1.map kV))/\RelV a.2 b.2.2) kvs qs /\
   ∀(i:Nat) a v,qs[i]?=some a→its[i]?=some v→∃b,v=.ref b/\s.heap.IsTuple b #[.ref a.2.1,a.2.2]:=by
  clear ho q e z hnd hlen hli r
  induction pr generalizing its with
  | nil=>exact ⟨[],.nil,fun i a v e=>by simp at e⟩
  | @cons y p' ys kvs h1 h2 ih =>
   cases rv with
   | cons r1 r2 =>
    rename_i u its
    obtain ⟨b,kb,rfl,hb,hkb⟩:=h1
    cases r1
    obtain ⟨_,bi,rb,pb⟩:=(show A7 X.prog X.w H s.heap b (.tup [.ref kb,p'.2]) from I.hok b _ hb)
    cases rb with
    | cons ra rb =>
     cases ra
     cases rb with
     | cons rc rd =>
      cases rd
      rename_i uv
      obtain ⟨qs,a1,a2⟩:=ih its r2
      refine ⟨(p'.1,kb,uv)::qs,.cons ⟨rfl,hkb,rc⟩ a1,fun i a v e1 e2=>?_⟩
      cases i with
      | zero=>cases e1;cases e2;exact ⟨b,rfl,pb⟩
      | succ i=>exact a2 i a v (by simpa using e1) (by simpa using e2)
 obtain ⟨qs,rel,hval⟩:=key
 have hql:kvs.length=qs.length:=Paired.length rel
 have hk1:qs.map (·.1)=kvs.map (·.1):=by
  refine List.ext_getElem? fun i=>?_
  rw [List.getElem?_map,List.getElem?_map]
  rcases Nat.lt_or_ge i kvs.length with hi|hi
  ·have e1:kvs[i]?=some kvs[i]:=List.getElem?_eq_getElem hi
   have e2:qs[i]?=some (qs[i]'(by omega)):=List.getElem?_eq_getElem (by omega)
   rw [e1,e2]
   exact congrArg some (D5 rel e1 e2).1.symm
  ·rw [List.getElem?_eq_none hi,List.getElem?_eq_none (by omega)];rfl
 have hun:X.A.in1.in1.units<cLine:=by
  have:=hr.MR
  have e1:X.A.in1.in1.units≤X.A.in1.units+1:=by first|exact Nat.le_refl _|(simp [Around.in1];omega)
  omega
 refine Dpr.M7 (items:=its.toArray) (nl:=nl) qs hr.hd hun ho (by simp;omega) (by rw [hk1];exact hnd) (by simp;omega) (fun i a v e1 e2=>hval i a v e1 (by simpa using e2)) (fun a ha=>?_) fun h' tk dw old=>?_
 ·obtain ⟨i,hi⟩:=List.mem_iff_getElem?.mp ha
  have hi2:i<kvs.length:=by rcases Nat.lt_or_ge i qs.length with h|h;omega;rw [List.getElem?_eq_none h] at hi;cases hi
  have e1:kvs[i]?=some kvs[i]:=List.getElem?_eq_getElem hi2
  have:=D5 rel e1 hi
  exact HG I.hok (by rw [←this.1];exact this.2.1)
 ·obtain ⟨o,es,ep,d1,d2,d3,d4⟩:=dw
  have fr:=I.hok.fresh (Nat.le_refl s.heap.objs.size)
  refine ⟨.ref s.heap.objs.size,_,I.laid (a:=s.heap.objs.size) (o:=.dT kvs) (t':=tk) old (Nat.le_refl _) ⟨by omega,?_,qs,?_,o,es,ep,d1,d2,d3,d4,by rw [hk1];exact hnd⟩,rfl,q _ fr⟩
  ·exact (MD (P:=X.prog) (w:=X.w) (H:=H) s.heap I.big).2.1
  ·refine Aa hql fun i a b e1 e2=>?_
   have:=D5 rel e1 e2
   refine ⟨this.1,?_,this.2.2⟩
   rw [AF (fun z=>by rw [z,fr] at this;exact nomatch this.2.1)]
   exact this.2.1
end
end L2
namespace L2
open PySem PySem.Spec PyProof.Rows
def U5 (h:Heap) (u:Value) (ks:List Key) (rs:List Addr):Prop:=∃a o items m us,u=.ref a/\h.get? a=some o/\o.cls=.type "tuple" /\ o.data=.seq items m/\items.toList=us++rs.map Value.ref/\us.map A6=ks/\∀v∈us,Bz v
def UY (h:Heap) (rs:List Addr) (tl:List Key) (rs':List Addr) (tl':List Key):Prop :=
 (rs=rs'/\tl=tl')\/∃(p q:Addr) (ns ms:List Int),rs=[p]/\rs'=[q]/\tl=ns.map Sum.inl/\tl'=ms.map Sum.inl/\HZ h (.ref p) tl/\HZ h (.ref q) tl'
abbrev Dn:=List Key×List Addr×List Key
def VC (d:Dn):List Key:=d.1++d.2.2
structure U7 (h:Heap) (vs:List Value) (ds:List Dn) (sh:List Bool):Prop where
 len:vs.length=ds.length
 hn:sh≠[]
 one:∀(i:Nat) u d,vs[i]?=some u→ds[i]?=some d→U5 h u d.1 d.2.1/\d.1.map isI=sh
 two:∀(i j:Nat) d e,ds[i]?=some d→ds[j]?=some e→d.1=e.1→UY h d.2.1 d.2.2 e.2.1 e.2.2
noncomputable def kfC (vs:List Value) (kss:List (List Key)) (u:Value):List Key:=by
 classical exact if hx:∃ks,(u,ks)∈vs.zip kss then hx.choose else []
section
variable {prog:Program}{w:World}{A:Around}{E:Value→Shared→Prop}{s:Shared}{b:Bool}{Q:Bool→Shared→Prop}
end
def Ub (K:PySem.W.Frag) (H:Hp) (xs:List V) (ds:List Dn) (sh:List Bool):Prop:=sh≠[]/\Paired (fun x (d:Dn)=>(∃a,x=.ref a/\SqT K H a (d.1.map kV++d.2.1.map V.ref))/\d.1.map isI=sh) xs ds /\
 ∀(i j:Nat) d e,ds[i]?=some d→ds[j]?=some e→d.1=e.1→(d.2.1=e.2.1/\d.2.2=e.2.2)\/∃(p q:Addr) (ns ms:List Int),d.2.1=[p]/\e.2.1=[q]/\d.2.2=ns.map Sum.inl/\e.2.2=ms.map Sum.inl/\SqT K H p (ns.map V.int)/\SqT K H q (ms.map V.int)
section
variable {X:Cx}{pins:List (Addr×Obj)}{σ:St}{H:Hp}{s:Shared}
end
section
variable {X:Cx}{K:PySem.W.Frag}
end
end L2
namespace Stk
open PySem PySem.Spec PyProof.Rows L2
section
variable {prog:Program}{w:World}{A:Around}{E:Value→Shared→Prop}{s:Shared}
end
end Stk
namespace L2
open PySem PySem.Spec PyProof.Rows
section
variable {X:Cx}{K:PySem.W.Frag}{e:Expr}{te:TE}{p1 p2 pos1 pos2:Pos}
end
end L2
namespace L2
open PySem PySem.Spec PyProof.Rows
section
variable {X:Cx}{K:PySem.W.Frag}{e st:Expr}{te ts:TE}{p2 pos:Pos}
end
def Uj (t u:TS):TS:=fun D σ H=>∀(N:St→Hp→Prop) (r:VK) (b c:St→Hp→Prop),(∀σ' H',u D σ' H'→N σ' H')→t ⟨N,r,b,c⟩ σ H
theorem AV {X:Cx}{st:PySem.Stmt}{rest:List PySem.Stmt}{t u:TS}(h1:PS X st t) (h2:PSs X rest u):PSs X (st::rest) (Uj t u):=fun pins s σ H D I h=>AO h1 h2 pins s σ H D I (h _ _ _ _ fun _ _ z=>z)
def Tz (t u:TS):TS:=fun D σ H=>∀(N:St→Hp→Prop) (r:VK) (b c:St→Hp→Prop),(∀σ' H',u D σ' H'→N σ' H')→(∀v H',D.rt v H'→r v H')→t ⟨N,r,b,c⟩ σ H
theorem Pd {X:Cx}{st:PySem.Stmt}{rest:List PySem.Stmt}{t u:TS}(h1:PS X st t) (h2:PSs X rest u):PSs X (st::rest) (Tz t u):=fun pins s σ H D I h=>AO h1 h2 pins s σ H D I (h _ _ _ _ (fun _ _ z=>z) fun _ _ z=>z)
def Um (t:TS):TS:=fun D σ H=>∀(N:St→Hp→Prop) (r:VK) (b c:St→Hp→Prop),(∀σ' H',D.nx σ' H'→N σ' H')→t ⟨N,r,b,c⟩ σ H
theorem Ko {X:Cx}{st:PySem.Stmt}{t:TS}(h1:PS X st t):PS X st (Um t):=fun pins s σ H D I h=>h1 pins s σ H D I (h _ _ _ _ fun _ _ z=>z)
end L2
set_option maxHeartbeats 4000000
namespace K14
open PySem L2
seal PE PT PW PA PS PSs PG PGs PI PTs PC PO OpR UnR Cg U6 IxR SlR
def top (i:Nat):Stmt:=PySem.Challenge.pw_brooktally_k14_whole_a_group.main.body.getD i (.Pass ⟨0,0,0,0⟩)
abbrev Kl:Stmt:=top 1
abbrev DX:Stmt:=top 2
abbrev Iq:Stmt:=top 4
abbrev Kk:Stmt:=top 5
abbrev Fv:Stmt:=top 8
abbrev Km:Stmt:=top 9
abbrev Kj:Stmt:=top 10
abbrev EK:Stmt:=top 12
abbrev Fw:Stmt:=top 13
abbrev Cj:Stmt:=top 14
abbrev E4:Stmt:=top 15
abbrev Iu:Stmt:=top 17
abbrev Ir:Stmt:=top 18
abbrev Fx:Stmt:=top 19
abbrev Ck:Stmt:=inClass (top 20) 0
abbrev E5:Stmt:=inClass (top 20) 1
abbrev C0:Stmt:=inClass (top 20) 2
abbrev EL:Stmt:=inClass (top 20) 3
abbrev DF:Stmt:=inClass (top 20) 4
abbrev Fu:Stmt:=top 22
abbrev Ci:Stmt:=top 23
abbrev Ft:Stmt:=top 24
abbrev Fs:Stmt:=top 25
abbrev GQ:Stmt:=top 26
abbrev G0:Stmt:=top 27
abbrev Ip:Stmt:=top 28
abbrev GP:Stmt:=top 29
abbrev FP:Stmt:=top 30
abbrev G1:Stmt:=top 31
abbrev LZ:Stmt:=top 32
theorem LX:Aj ["rows", "mark", "low", "high", "middle"] ["rows", "mark"] (AM Kl):=⟨rfl,rfl,rfl,by decide +kernel,rfl,by decide +kernel,by decide +kernel⟩
theorem GN:Aj ["rows", "told", "key"] ["rows"] (AM DX):=⟨rfl,rfl,rfl,by decide +kernel,rfl,by decide +kernel,by decide +kernel⟩
theorem Jz:Aj ["time", "size", "step", "first"] ["time", "size", "step"] (AM Iq):=⟨rfl,rfl,rfl,by decide +kernel,rfl,by decide +kernel,by decide +kernel⟩
theorem LW:Aj ["start", "end", "time", "most", "last"] ["start", "end", "time", "most"] (AM Kk):=⟨rfl,rfl,rfl,by decide +kernel,rfl,by decide +kernel,by decide +kernel⟩
theorem Ho:Aj ["amount"] ["amount"] (AM Fv):=⟨rfl,rfl,rfl,by decide +kernel,rfl,by decide +kernel,by decide +kernel⟩
theorem LY:Aj ["one", "other"] ["one", "other"] (AM Km):=⟨rfl,rfl,rfl,by decide +kernel,rfl,by decide +kernel,by decide +kernel⟩
theorem LU:Aj ["sort", "tally"] ["sort", "tally"] (AM Kj):=⟨rfl,rfl,rfl,by decide +kernel,rfl,by decide +kernel,by decide +kernel⟩
theorem Fh:Aj ["pieces", "start", "end", "tally", "place", "there"] ["pieces", "start", "end", "tally"] (AM EK):=⟨rfl,rfl,rfl,by decide +kernel,rfl,by decide +kernel,by decide +kernel⟩
theorem Hq:Aj ["pieces", "time", "amount", "size", "step", "told", "start"] ["pieces", "time", "amount", "size", "step"] (AM Fw):=⟨rfl,rfl,rfl,by decide +kernel,rfl,by decide +kernel,by decide +kernel⟩
theorem Im:Aj ["pieces", "time", "amount", "most", "met", "rest", "start", "end", "tally", "piece"] ["pieces", "time", "amount", "most"] (AM Cj):=⟨rfl,rfl,rfl,by decide +kernel,rfl,by decide +kernel,by decide +kernel⟩
theorem J5:Aj ["pieces", "now", "over", "still"] ["pieces", "now"] (AM E4):=⟨rfl,rfl,rfl,by decide +kernel,rfl,by decide +kernel,by decide +kernel⟩
theorem J4:Aj ["step", "pieces", "item"] ["step", "pieces", "item"] (AM Iu):=⟨rfl,rfl,rfl,by decide +kernel,rfl,by decide +kernel,by decide +kernel⟩
theorem J3:Aj ["step", "key", "piece"] ["step", "key", "piece"] (AM Ir):=⟨rfl,rfl,rfl,by decide +kernel,rfl,by decide +kernel,by decide +kernel⟩
theorem Hr:Aj ["row"] ["row"] (AM Fx):=⟨rfl,rfl,rfl,by decide +kernel,rfl,by decide +kernel,by decide +kernel⟩
theorem DV:Aj ["self", "step"] ["self", "step"] (AM Ck):=⟨rfl,rfl,rfl,by decide +kernel,rfl,by decide +kernel,by decide +kernel⟩
theorem GO:Aj ["self", "item", "key"] ["self", "item"] (AM E5):=⟨rfl,rfl,rfl,by decide +kernel,rfl,by decide +kernel,by decide +kernel⟩
theorem E3:Aj ["self", "now", "told", "key"] ["self", "now"] (AM C0):=⟨rfl,rfl,rfl,by decide +kernel,rfl,by decide +kernel,by decide +kernel⟩
theorem Fi:Aj ["self", "key", "now", "pieces", "pair"] ["self", "key", "now"] (AM EL):=⟨rfl,rfl,rfl,by decide +kernel,rfl,by decide +kernel,by decide +kernel⟩
theorem Es:Aj ["self"] ["self"] (AM DF):=⟨rfl,rfl,rfl,by decide +kernel,rfl,by decide +kernel,by decide +kernel⟩
theorem Hn:Aj ["_law_script", "_law_k"] ["_law_script", "_law_k"] (AM Fu):=⟨rfl,rfl,rfl,by decide +kernel,rfl,by decide +kernel,by decide +kernel⟩
theorem Hm:Aj ["_law_cell", "_law_some", "_law_many", "_law_signs"] ["_law_cell"] (AM Ci):=⟨rfl,rfl,rfl,by decide +kernel,rfl,by decide +kernel,by decide +kernel⟩
theorem Hl:Aj ["_law_first", "_law_second", "_law_name", "_law_sort", "_law_more", "_law_step", "_law_wide"] ["_law_first", "_law_second"] (AM Ft):=⟨rfl,rfl,rfl,by decide +kernel,rfl,by decide +kernel,by decide +kernel⟩
theorem Hk:Aj ["_law_items", "_law_size", "_law_step", "_law_found", "_law_time", "_law_amount", "_law_start"] ["_law_items", "_law_size", "_law_step"] (AM Fs):=⟨rfl,rfl,rfl,by decide +kernel,rfl,by decide +kernel,by decide +kernel⟩
theorem Jx:Aj ["_law_items", "_law_most", "_law_found", "_law_time", "_law_amount"] ["_law_items", "_law_most"] (AM GQ):=⟨rfl,rfl,rfl,by decide +kernel,rfl,by decide +kernel,by decide +kernel⟩
theorem NQ:Aj ["_law_step", "_law_items", "_law_now", "_law_due_here", "_law_key", "_law_some", "_law_pieces"] ["_law_step", "_law_items", "_law_now"] (AM G0):=⟨rfl,rfl,rfl,by decide +kernel,rfl,by decide +kernel,by decide +kernel⟩
theorem Jy:Aj ["_law_sort", "_law_amounts"] ["_law_sort", "_law_amounts"] (AM Ip):=⟨rfl,rfl,rfl,by decide +kernel,rfl,by decide +kernel,by decide +kernel⟩
theorem LV:Aj ["_law_step", "_law_due_here", "_law_rows_here"] ["_law_step", "_law_due_here"] (AM GP):=⟨rfl,rfl,rfl,by decide +kernel,rfl,by decide +kernel,by decide +kernel⟩
theorem Ik:Aj ["_law_group", "_law_due_here", "_law_held", "_law_way", "_law_told", "_law_field", "_law_key", "_law_start", "_law_end", "_law_tally", "_law_found"] ["_law_group", "_law_due_here", "_law_held", "_law_way"] (AM FP):=⟨rfl,rfl,rfl,by decide +kernel,rfl,by decide +kernel,by decide +kernel⟩
theorem Il:Aj ["_law_group", "_law_step", "_law_over", "_law_now", "_law_held", "_law_way", "_law_found", "_law_row"] ["_law_group", "_law_step", "_law_over", "_law_now", "_law_held", "_law_way"] (AM G1):=⟨rfl,rfl,rfl,by decide +kernel,rfl,by decide +kernel,by decide +kernel⟩
theorem PL:Aj ["_law_script", "_law_step", "_law_keys", "_law_group", "_law_items", "_law_held", "_law_now", "_law_cell", "_law_mixed", "_law_by", "_law_due_here", "_law_amount"] ["_law_script"] (AM LZ):=⟨rfl,rfl,rfl,by decide +kernel,rfl,by decide +kernel,by decide +kernel⟩
structure Ad where
 Eh:Addr
 Fb:FuncData
 Bo:Addr
 CU:FuncData
 DL:Addr
 ED:FuncData
 Eg:Addr
 FZ:FuncData
 CI:Addr
 Cq:FuncData
 Ei:Addr
 Fc:FuncData
 Ee:Addr
 FX:FuncData
 BA:Addr
 BO:FuncData
 CJ:Addr
 Cr:FuncData
 Cv:Addr
 DD:FuncData
 DO:Addr
 EG:FuncData
 DN:Addr
 EF:FuncData
 DM:Addr
 EE:FuncData
 CK:Addr
 Cs:FuncData
 Ao:Addr
 BD:FuncData
 Bp:Addr
 CV:FuncData
 BS:Addr
 Bf:FuncData
 Bc:Addr
 Bv:FuncData
 BI:Addr
 BY:FuncData
 CH:Addr
 Cp:FuncData
 CG:Addr
 Co:FuncData
 CD:Addr
 Cn:FuncData
 CC:Addr
 Cm:FuncData
 DJ:Addr
 EB:FuncData
 GB:Addr
 HN:FuncData
 DK:Addr
 EC:FuncData
 Ef:Addr
 FY:FuncData
 Ct:Addr
 DB:FuncData
 Cu:Addr
 DC:FuncData
 Jf:Addr
 Ja:FuncData
 AU:Addr
 BC:Addr
structure Tx (K:W.Frag) (mg:Str→Option Value) (ad:Ad):Prop where
 Ep:Fun K "ahead" "ahead" Kl ad.Eh ad.Fb
 R7:Binds K ad.Fb ["rows", "mark"] []
 Ri:mg "ahead" = some (.ref ad.Eh)
 Br:Fun K "with_keys" "with_keys" DX ad.Bo ad.CU
 MJ:Binds K ad.CU ["rows"] []
 L0:mg "with_keys" = some (.ref ad.Bo)
 DR:Fun K "starts" "starts" Iq ad.DL ad.ED
 Qj:Binds K ad.ED ["time", "size", "step"] []
 QG:mg "starts" = some (.ref ad.DL)
 Dm:Fun K "meets" "meets" Kk ad.Eg ad.FZ
 Nt:Binds K ad.FZ ["start", "end", "time", "most"] []
 Ng:mg "meets" = some (.ref ad.Eg)
 Bs:Fun K "tally_of" "tally_of" Fv ad.CI ad.Cq
 Je:Binds K ad.Cq ["amount"] []
 JP:mg "tally_of" = some (.ref ad.CI)
 Dp:Fun K "added" "added" Km ad.Ei ad.Fc
 Nu:Binds K ad.Fc ["one", "other"] []
 Nh:mg "added" = some (.ref ad.Ei)
 El:Fun K "value" "value" Kj ad.Ee ad.FX
 R5:Binds K ad.FX ["sort", "tally"] []
 Rg:mg "value" = some (.ref ad.Ee)
 BP:Fun K "put_window" "put_window" EK ad.BA ad.BO
 Gk:Binds K ad.BO ["pieces", "start", "end", "tally"] []
 GY:mg "put_window" = some (.ref ad.BA)
 CP:Fun K "put_each" "put_each" Fw ad.CJ ad.Cr
 NH:Binds K ad.Cr ["pieces", "time", "amount", "size", "step"] []
 Mw:mg "put_each" = some (.ref ad.CJ)
 Cw:Fun K "put_gap" "put_gap" Cj ad.Cv ad.DD
 Ou:Binds K ad.DD ["pieces", "time", "amount", "most"] []
 OS:mg "put_gap" = some (.ref ad.Cv)
 DU:Fun K "parted" "parted" E4 ad.DO ad.EG
 Qm:Binds K ad.EG ["pieces", "now"] []
 QJ:mg "parted" = some (.ref ad.DO)
 DT:Fun K "put_by" "put_by" Iu ad.DN ad.EF
 Ql:Binds K ad.EF ["step", "pieces", "item"] []
 QI:mg "put_by" = some (.ref ad.DN)
 DS:Fun K "row_of" "row_of" Ir ad.DM ad.EE
 Qk:Binds K ad.EE ["step", "key", "piece"] []
 QH:mg "row_of" = some (.ref ad.DM)
 Cy:Fun K "order_of" "order_of" Fx ad.CK ad.Cs
 NI:Binds K ad.Cs ["row"] []
 Mx:mg "order_of" = some (.ref ad.CK)
 A3:Fun K "__init__" "Group.__init__" Ck ad.Ao ad.BD
 HV:Binds K ad.BD ["self", "step"] []
 Bt:Fun K "put" "Group.put" E5 ad.Bp ad.CV
 MK:Binds K ad.CV ["self", "item"] []
 BV:Fun K "close" "Group.close" C0 ad.BS ad.Bf
 Fn:Binds K ad.Bf ["self", "now"] []
 Bd:Fun K "take" "Group.take" EL ad.Bc ad.Bv
 K9:Binds K ad.Bv ["self", "key", "now"] []
 BK:Fun K "pieces" "Group.pieces" DF ad.BI ad.BY
 FK:Binds K ad.BY ["self"] []
 BU:Fun K "_law_cell_at" "_law_cell_at" Fu ad.CH ad.Cp
 Eb:Binds K ad.Cp ["_law_script", "_law_k"] []
 EX:mg "_law_cell_at" = some (.ref ad.CH)
 CO:Fun K "_law_keys_by" "_law_keys_by" Ci ad.CG ad.Co
 NF:Binds K ad.Co ["_law_cell"] []
 Mu:mg "_law_keys_by" = some (.ref ad.CG)
 CN:Fun K "_law_step_by" "_law_step_by" Ft ad.CD ad.Cn
 ND:Binds K ad.Cn ["_law_first", "_law_second"] []
 Mt:mg "_law_step_by" = some (.ref ad.CD)
 CM:Fun K "_law_windows" "_law_windows" Fs ad.CC ad.Cm
 NC:Binds K ad.Cm ["_law_items", "_law_size", "_law_step"] []
 Ms:mg "_law_windows" = some (.ref ad.CC)
 DP:Fun K "_law_parts" "_law_parts" GQ ad.DJ ad.EB
 Qh:Binds K ad.EB ["_law_items", "_law_most"] []
 QE:mg "_law_parts" = some (.ref ad.DJ)
 Eo:Fun K "_law_due" "_law_due" G0 ad.GB ad.HN
 NG:Binds K ad.HN ["_law_step", "_law_items", "_law_now"] []
 Mv:mg "_law_due" = some (.ref ad.GB)
 DQ:Fun K "_law_asked" "_law_asked" Ip ad.DK ad.EC
 Qi:Binds K ad.EC ["_law_sort", "_law_amounts"] []
 QF:mg "_law_asked" = some (.ref ad.DK)
 Em:Fun K "_law_rows" "_law_rows" GP ad.Ef ad.FY
 R6:Binds K ad.FY ["_law_step", "_law_due_here"] []
 Rh:mg "_law_rows" = some (.ref ad.Ef)
 CW:Fun K "_law_stands" "_law_stands" FP ad.Ct ad.DB
 KW:Binds K ad.DB ["_law_group", "_law_due_here", "_law_held", "_law_way"] []
 KD:mg "_law_stands" = some (.ref ad.Ct)
 Bx:Fun K "_law_closed" "_law_closed" G1 ad.Cu ad.DC
 HU:Binds K ad.DC ["_law_group", "_law_step", "_law_over", "_law_now", "_law_held", "_law_way"] []
 G8:mg "_law_closed" = some (.ref ad.Cu)
 Jh:Fun K "law" "law" LZ ad.Jf ad.Ja
 VD:Binds K ad.Ja ["_law_script"] []
 UP:mg "law" = some (.ref ad.Jf)
 QC:mg "Group" = some (.ref ad.AU)
 A1:Cls K ad.AU
 Bb:FL K ad.AU "step"
 An:FL K ad.AU "rows"
 Nf:Meth K ad.AU "__init__" ad.Ao
 Kt:Meth K ad.AU "put" ad.Bp
 FF:Meth K ad.AU "close" ad.BS
 Jm:Meth K ad.AU "take" ad.Bc
 Et:Meth K ad.AU "pieces" ad.BI
 P7:Mk K ad.AU ad.Ao
 D8:mg "TALLIES" = some (.ref ad.BC)
 OB:∀H,SqT K H ad.BC [.str "count", .str "sum", .str "least", .str "greatest"]
 FW:∃o,K.lookup ad.BC=some o/\o.cls=.type "tuple" /\ o.dict=none
 IU:mg "bool" = none
 IT:mg "dict" = none
 BL:mg "isinstance" = none
 Er:mg "len" = none
 DE:mg "list" = none
 Fg:mg "max" = none
 Ew:mg "min" = none
 EJ:mg "range" = none
 LD:mg "set" = none
 B0:mg "sorted" = none
 Jq:mg "sum" = none
 GC:mg "tuple" = none
theorem us1 {α:Type}{us:List α}(h:us.length=1):∃a0,us=[a0]:=by match us,h with|[a0],_=>exact ⟨a0,rfl⟩
theorem us2 {α:Type}{us:List α}(h:us.length=2):∃a0 a1,us=[a0,a1]:=by match us,h with|[a0,a1],_=>exact ⟨a0,a1,rfl⟩
theorem us3 {α:Type}{us:List α}(h:us.length=3):∃a0 a1 a2,us=[a0,a1,a2]:=by match us,h with|[a0,a1,a2],_=>exact ⟨a0,a1,a2,rfl⟩
theorem us4 {α:Type}{us:List α}(h:us.length=4):∃a0 a1 a2 a3,us=[a0,a1,a2,a3]:=by match us,h with|[a0,a1,a2,a3],_=>exact ⟨a0,a1,a2,a3,rfl⟩
theorem us5 {α:Type}{us:List α}(h:us.length=5):∃a0 a1 a2 a3 a4,us=[a0,a1,a2,a3,a4]:=by match us,h with|[a0,a1,a2,a3,a4],_=>exact ⟨a0,a1,a2,a3,a4,rfl⟩
theorem us6 {α:Type}{us:List α}(h:us.length=6):∃a0 a1 a2 a3 a4 a5,us=[a0,a1,a2,a3,a4,a5]:=by match us,h with|[a0,a1,a2,a3,a4,a5],_=>exact ⟨a0,a1,a2,a3,a4,a5,rfl⟩
theorem To {K:W.Frag}{h:Heap}{mg:Str→Option Value}(X:K.In h) (G:h.Ns mainGlobals mg)
  {f_ahead:Addr} {Fb:FuncData}
  {f_with_keys:Addr} {CU:FuncData}
  {f_starts:Addr} {ED:FuncData}
  {f_meets:Addr} {FZ:FuncData}
  {f_tally_of:Addr} {Cq:FuncData}
  {f_added:Addr} {Fc:FuncData}
  {f_value:Addr} {FX:FuncData}
  {f_put_window:Addr} {BO:FuncData}
  {f_put_each:Addr} {Cr:FuncData}
  {f_put_gap:Addr} {DD:FuncData}
  {f_parted:Addr} {EG:FuncData}
  {f_put_by:Addr} {EF:FuncData}
  {f_row_of:Addr} {EE:FuncData}
  {f_order_of:Addr} {Cs:FuncData}
  {AU:Addr}
  {f_Group___init__:Addr} {BD:FuncData}
  {f_Group_put:Addr} {CV:FuncData}
  {f_Group_close:Addr} {Bf:FuncData}
  {f_Group_take:Addr} {Bv:FuncData}
  {f_Group_pieces:Addr} {BY:FuncData}
  {f_ucell_at:Addr} {Cp:FuncData}
  {f_ukeys_by:Addr} {Co:FuncData}
  {f_ustep_by:Addr} {Cn:FuncData}
  {f_uwindows:Addr} {Cm:FuncData}
  {f_uparts:Addr} {EB:FuncData}
  {f_udue:Addr} {HN:FuncData}
  {f_uasked:Addr} {EC:FuncData}
  {f_urows:Addr} {FY:FuncData}
  {f_ustands:Addr} {DB:FuncData}
  {f_uclosed:Addr} {DC:FuncData}
  {f_law:Addr} {Ja:FuncData}
  {BC:Addr}
  {t0_TALLIES t1_TALLIES t2_TALLIES t3_TALLIES:Tok}
  {n_TALLIES:Nat} {sl_TALLIES:Array (Option Value)}
  (Eh:W.nsIn K mainGlobals "ahead" = some (some (.ref f_ahead)))
  (Ep:Fun K "ahead" "ahead" Kl f_ahead Fb)
  (Bo:W.nsIn K mainGlobals "with_keys" = some (some (.ref f_with_keys)))
  (Br:Fun K "with_keys" "with_keys" DX f_with_keys CU)
  (DL:W.nsIn K mainGlobals "starts" = some (some (.ref f_starts)))
  (DR:Fun K "starts" "starts" Iq f_starts ED)
  (Eg:W.nsIn K mainGlobals "meets" = some (some (.ref f_meets)))
  (Dm:Fun K "meets" "meets" Kk f_meets FZ)
  (CI:W.nsIn K mainGlobals "tally_of" = some (some (.ref f_tally_of)))
  (Bs:Fun K "tally_of" "tally_of" Fv f_tally_of Cq)
  (Ei:W.nsIn K mainGlobals "added" = some (some (.ref f_added)))
  (Dp:Fun K "added" "added" Km f_added Fc)
  (Ee:W.nsIn K mainGlobals "value" = some (some (.ref f_value)))
  (El:Fun K "value" "value" Kj f_value FX)
  (BA:W.nsIn K mainGlobals "put_window" = some (some (.ref f_put_window)))
  (BP:Fun K "put_window" "put_window" EK f_put_window BO)
  (CJ:W.nsIn K mainGlobals "put_each" = some (some (.ref f_put_each)))
  (CP:Fun K "put_each" "put_each" Fw f_put_each Cr)
  (Cv:W.nsIn K mainGlobals "put_gap" = some (some (.ref f_put_gap)))
  (Cw:Fun K "put_gap" "put_gap" Cj f_put_gap DD)
  (DO:W.nsIn K mainGlobals "parted" = some (some (.ref f_parted)))
  (DU:Fun K "parted" "parted" E4 f_parted EG)
  (DN:W.nsIn K mainGlobals "put_by" = some (some (.ref f_put_by)))
  (DT:Fun K "put_by" "put_by" Iu f_put_by EF)
  (DM:W.nsIn K mainGlobals "row_of" = some (some (.ref f_row_of)))
  (DS:Fun K "row_of" "row_of" Ir f_row_of EE)
  (CK:W.nsIn K mainGlobals "order_of" = some (some (.ref f_order_of)))
  (Cy:Fun K "order_of" "order_of" Fx f_order_of Cs)
  (a_Group:W.nsIn K mainGlobals "Group" = some (some (.ref AU)))
  (Ao:W.findIn K (.ref AU) "__init__" = some (some (.ref f_Group___init__)))
  (A3:Fun K "__init__" "Group.__init__" Ck f_Group___init__ BD)
  (Bp:W.findIn K (.ref AU) "put" = some (some (.ref f_Group_put)))
  (Bt:Fun K "put" "Group.put" E5 f_Group_put CV)
  (BS:W.findIn K (.ref AU) "close" = some (some (.ref f_Group_close)))
  (BV:Fun K "close" "Group.close" C0 f_Group_close Bf)
  (Bc:W.findIn K (.ref AU) "take" = some (some (.ref f_Group_take)))
  (Bd:Fun K "take" "Group.take" EL f_Group_take Bv)
  (BI:W.findIn K (.ref AU) "pieces" = some (some (.ref f_Group_pieces)))
  (BK:Fun K "pieces" "Group.pieces" DF f_Group_pieces BY)
  (CH:W.nsIn K mainGlobals "_law_cell_at" = some (some (.ref f_ucell_at)))
  (BU:Fun K "_law_cell_at" "_law_cell_at" Fu f_ucell_at Cp)
  (CG:W.nsIn K mainGlobals "_law_keys_by" = some (some (.ref f_ukeys_by)))
  (CO:Fun K "_law_keys_by" "_law_keys_by" Ci f_ukeys_by Co)
  (CD:W.nsIn K mainGlobals "_law_step_by" = some (some (.ref f_ustep_by)))
  (CN:Fun K "_law_step_by" "_law_step_by" Ft f_ustep_by Cn)
  (CC:W.nsIn K mainGlobals "_law_windows" = some (some (.ref f_uwindows)))
  (CM:Fun K "_law_windows" "_law_windows" Fs f_uwindows Cm)
  (DJ:W.nsIn K mainGlobals "_law_parts" = some (some (.ref f_uparts)))
  (DP:Fun K "_law_parts" "_law_parts" GQ f_uparts EB)
  (GB:W.nsIn K mainGlobals "_law_due" = some (some (.ref f_udue)))
  (Eo:Fun K "_law_due" "_law_due" G0 f_udue HN)
  (DK:W.nsIn K mainGlobals "_law_asked" = some (some (.ref f_uasked)))
  (DQ:Fun K "_law_asked" "_law_asked" Ip f_uasked EC)
  (Ef:W.nsIn K mainGlobals "_law_rows" = some (some (.ref f_urows)))
  (Em:Fun K "_law_rows" "_law_rows" GP f_urows FY)
  (Ct:W.nsIn K mainGlobals "_law_stands" = some (some (.ref f_ustands)))
  (CW:Fun K "_law_stands" "_law_stands" FP f_ustands DB)
  (Cu:W.nsIn K mainGlobals "_law_closed" = some (some (.ref f_uclosed)))
  (Bx:Fun K "_law_closed" "_law_closed" G1 f_uclosed DC)
  (Jf:W.nsIn K mainGlobals "law" = some (some (.ref f_law)))
  (Jh:Fun K "law" "law" LZ f_law Ja)
  (pg_Group:W.plainGet K AU Str.empty=true)
  (hd_Group:W.hasDictIn K AU=true)
  (po_Group:W.plainOver K AU=true)
  (sa_Group:W.findIn K (.ref AU) "__setattr__" = some (some (.builtin "object.__setattr__")))
  (Bb:W.findIn K (.ref AU) "step" = some none)
  (An:W.findIn K (.ref AU) "rows" = some none)
  (fn_Group___init__:W.isFn K (.ref f_Group___init__)=true)
  (fn_Group_put:W.isFn K (.ref f_Group_put)=true)
  (fn_Group_close:W.isFn K (.ref f_Group_close)=true)
  (fn_Group_take:W.isFn K (.ref f_Group_take)=true)
  (fn_Group_pieces:W.isFn K (.ref f_Group_pieces)=true)
  (mks_Group:W.makesIn K AU=true)
  (kp_Group:W.keepIn K (.ref AU)=true)
  (D8:W.nsIn K mainGlobals "TALLIES" = some (some (.ref BC)))
  (l_TALLIES:K.lookup BC=some ⟨.type "tuple", none,.seq #[.str "count" t0_TALLIES,.str "sum" t1_TALLIES,.str "least" t2_TALLIES,.str "greatest" t3_TALLIES] n_TALLIES,sl_TALLIES⟩)
  (IU:W.nsIn K mainGlobals "bool" = some none)
  (IT:W.nsIn K mainGlobals "dict" = some none)
  (BL:W.nsIn K mainGlobals "isinstance" = some none)
  (Er:W.nsIn K mainGlobals "len" = some none)
  (DE:W.nsIn K mainGlobals "list" = some none)
  (Fg:W.nsIn K mainGlobals "max" = some none)
  (Ew:W.nsIn K mainGlobals "min" = some none)
  (EJ:W.nsIn K mainGlobals "range" = some none)
  (LD:W.nsIn K mainGlobals "set" = some none)
  (B0:W.nsIn K mainGlobals "sorted" = some none)
  (Jq:W.nsIn K mainGlobals "sum" = some none)
  (GC:W.nsIn K mainGlobals "tuple" = some none)
  : Tx K mg (⟨f_ahead,Fb,f_with_keys,CU,f_starts,ED,f_meets,FZ,f_tally_of,Cq,f_added,Fc,f_value,FX,f_put_window,BO,f_put_each,Cr,f_put_gap,DD,f_parted,EG,f_put_by,EF,f_row_of,EE,f_order_of,Cs,f_Group___init__,BD,f_Group_put,CV,f_Group_close,Bf,f_Group_take,Bv,f_Group_pieces,BY,f_ucell_at,Cp,f_ukeys_by,Co,f_ustep_by,Cn,f_uwindows,Cm,f_uparts,EB,f_udue,HN,f_uasked,EC,f_urows,FY,f_ustands,DB,f_uclosed,DC,f_law,Ja,AU,BC⟩:Ad) :=
 ⟨Ep,
  Ep.binds fun _ _ _ _ _ _ us hl=>by obtain ⟨a0,a1,rfl⟩:=us2 hl;rfl,
  W.mg_of X G Eh,
  Br,
  Br.binds fun _ _ _ _ _ _ us hl=>by obtain ⟨a0,rfl⟩:=us1 hl;rfl,
  W.mg_of X G Bo,
  DR,
  DR.binds fun _ _ _ _ _ _ us hl=>by obtain ⟨a0,a1,a2,rfl⟩:=us3 hl;rfl,
  W.mg_of X G DL,
  Dm,
  Dm.binds fun _ _ _ _ _ _ us hl=>by obtain ⟨a0,a1,a2,a3,rfl⟩:=us4 hl;rfl,
  W.mg_of X G Eg,
  Bs,
  Bs.binds fun _ _ _ _ _ _ us hl=>by obtain ⟨a0,rfl⟩:=us1 hl;rfl,
  W.mg_of X G CI,
  Dp,
  Dp.binds fun _ _ _ _ _ _ us hl=>by obtain ⟨a0,a1,rfl⟩:=us2 hl;rfl,
  W.mg_of X G Ei,
  El,
  El.binds fun _ _ _ _ _ _ us hl=>by obtain ⟨a0,a1,rfl⟩:=us2 hl;rfl,
  W.mg_of X G Ee,
  BP,
  BP.binds fun _ _ _ _ _ _ us hl=>by obtain ⟨a0,a1,a2,a3,rfl⟩:=us4 hl;rfl,
  W.mg_of X G BA,
  CP,
  CP.binds fun _ _ _ _ _ _ us hl=>by obtain ⟨a0,a1,a2,a3,a4,rfl⟩:=us5 hl;rfl,
  W.mg_of X G CJ,
  Cw,
  Cw.binds fun _ _ _ _ _ _ us hl=>by obtain ⟨a0,a1,a2,a3,rfl⟩:=us4 hl;rfl,
  W.mg_of X G Cv,
  DU,
  DU.binds fun _ _ _ _ _ _ us hl=>by obtain ⟨a0,a1,rfl⟩:=us2 hl;rfl,
  W.mg_of X G DO,
  DT,
  DT.binds fun _ _ _ _ _ _ us hl=>by obtain ⟨a0,a1,a2,rfl⟩:=us3 hl;rfl,
  W.mg_of X G DN,
  DS,
  DS.binds fun _ _ _ _ _ _ us hl=>by obtain ⟨a0,a1,a2,rfl⟩:=us3 hl;rfl,
  W.mg_of X G DM,
  Cy,
  Cy.binds fun _ _ _ _ _ _ us hl=>by obtain ⟨a0,rfl⟩:=us1 hl;rfl,
  W.mg_of X G CK,
  A3,
  A3.binds fun _ _ _ _ _ _ us hl=>by obtain ⟨a0,a1,rfl⟩:=us2 hl;rfl,
  Bt,
  Bt.binds fun _ _ _ _ _ _ us hl=>by obtain ⟨a0,a1,rfl⟩:=us2 hl;rfl,
  BV,
  BV.binds fun _ _ _ _ _ _ us hl=>by obtain ⟨a0,a1,rfl⟩:=us2 hl;rfl,
  Bd,
  Bd.binds fun _ _ _ _ _ _ us hl=>by obtain ⟨a0,a1,a2,rfl⟩:=us3 hl;rfl,
  BK,
  BK.binds fun _ _ _ _ _ _ us hl=>by obtain ⟨a0,rfl⟩:=us1 hl;rfl,
  BU,
  BU.binds fun _ _ _ _ _ _ us hl=>by obtain ⟨a0,a1,rfl⟩:=us2 hl;rfl,
  W.mg_of X G CH,
  CO,
  CO.binds fun _ _ _ _ _ _ us hl=>by obtain ⟨a0,rfl⟩:=us1 hl;rfl,
  W.mg_of X G CG,
  CN,
  CN.binds fun _ _ _ _ _ _ us hl=>by obtain ⟨a0,a1,rfl⟩:=us2 hl;rfl,
  W.mg_of X G CD,
  CM,
  CM.binds fun _ _ _ _ _ _ us hl=>by obtain ⟨a0,a1,a2,rfl⟩:=us3 hl;rfl,
  W.mg_of X G CC,
  DP,
  DP.binds fun _ _ _ _ _ _ us hl=>by obtain ⟨a0,a1,rfl⟩:=us2 hl;rfl,
  W.mg_of X G DJ,
  Eo,
  Eo.binds fun _ _ _ _ _ _ us hl=>by obtain ⟨a0,a1,a2,rfl⟩:=us3 hl;rfl,
  W.mg_of X G GB,
  DQ,
  DQ.binds fun _ _ _ _ _ _ us hl=>by obtain ⟨a0,a1,rfl⟩:=us2 hl;rfl,
  W.mg_of X G DK,
  Em,
  Em.binds fun _ _ _ _ _ _ us hl=>by obtain ⟨a0,a1,rfl⟩:=us2 hl;rfl,
  W.mg_of X G Ef,
  CW,
  CW.binds fun _ _ _ _ _ _ us hl=>by obtain ⟨a0,a1,a2,a3,rfl⟩:=us4 hl;rfl,
  W.mg_of X G Ct,
  Bx,
  Bx.binds fun _ _ _ _ _ _ us hl=>by obtain ⟨a0,a1,a2,a3,a4,a5,rfl⟩:=us6 hl;rfl,
  W.mg_of X G Cu,
  Jh,
  Jh.binds fun _ _ _ _ _ _ us hl=>by obtain ⟨a0,rfl⟩:=us1 hl;rfl,
  W.mg_of X G Jf,
  W.mg_of X G a_Group,
  ⟨pg_Group,hd_Group,po_Group,sa_Group⟩,
  Bb,
  An,
  ⟨Ao,fn_Group___init__,A3.kp⟩,
  ⟨Bp,fn_Group_put,Bt.kp⟩,
  ⟨BS,fn_Group_close,BV.kp⟩,
  ⟨Bc,fn_Group_take,Bd.kp⟩,
  ⟨BI,fn_Group_pieces,BK.kp⟩,
  ⟨mks_Group,Ao,fn_Group___init__,kp_Group⟩,
  W.mg_of X G D8,
  fun H=>.inr ⟨_,_,_,l_TALLIES,rfl,rfl,by first|decide|exact (by decide:4≤sizeLine),by repeat (first|exact .nil|refine .cons ?_ ?_|exact ⟨_,rfl⟩|rfl)⟩,
  ⟨_,l_TALLIES,rfl,rfl⟩,
  W.mg_none_of X G IU,
  W.mg_none_of X G IT,
  W.mg_none_of X G BL,
  W.mg_none_of X G Er,
  W.mg_none_of X G DE,
  W.mg_none_of X G Fg,
  W.mg_none_of X G Ew,
  W.mg_none_of X G EJ,
  W.mg_none_of X G LD,
  W.mg_none_of X G B0,
  W.mg_none_of X G Jq,
  W.mg_none_of X G GC⟩
variable {P:Program}{w:World}{K:W.Frag}{mg:Str→Option Value}{base:Heap}{ad:Ad}
def Kf (K:W.Frag):Sp:=fun vs H Q _=>∃(a:Addr) (ns:List Int),vs=[.ref a]/\SqL K H a (ns.map V.int)/\ns.length≤63/\∀H',Q (.bl true) H'
theorem TK (K:W.Frag) (H:Hp) (a:Addr) (ns:List Int) (hl:ns.length≤63) (_:Qs H) (hS:SqL K H a (ns.map V.int)):Kf K [.ref a] H (fun v _=>v=.bl true) fun _ _ _=>False:=⟨a,ns,rfl,hS,hl,fun _=>rfl⟩
abbrev depth:Nat:=8
namespace Wn
def Am (t z d:Int):Int:=((t-z) / d+1) * d
def Av (t z d:Int):List Int:=Mf (Am t z d) (t+1) d
def Win (t z d:Int):Prop:=1≤d/\d≤1000000/\d≤z/\z≤1000000/\0≤t/\t≤2000000000
def O8:Sp:=fun vs H Q _=>∃t z d:Int,vs=[.int t,.int z,.int d]/\Win t z d/\∀l,H l=none→Q (.ref l) (upd H l (.lst ((Av t z d).map V.int)))
section
variable {t z d:Int}(hW:Win t z d)
include hW
theorem FI:Am t z d≤t:=by
 obtain ⟨h1,h2,h3,h4,h5,h6⟩:=hW
 have h:=Int.ediv_mul_le (t-z) (b:=d) (by omega)
 unfold Am
 rw [Int.add_mul,Int.one_mul]
 omega
theorem Gb:t<Am t z d+z:=by
 obtain ⟨h1,h2,h3,h4,h5,h6⟩:=hW
 have h:=Int.lt_ediv_add_one_mul_self (t-z) (b:=d) (by omega)
 unfold Am
 omega
theorem M4:Am t z d-d+z≤t:=by
 obtain ⟨h1,h2,h3,h4,h5,h6⟩:=hW
 have h:=Int.ediv_mul_le (t-z) (b:=d) (by omega)
 unfold Am
 rw [Int.add_mul,Int.one_mul]
 omega
theorem GG:BE (Am t z d) (t+1) d=((t-Am t z d) / d).toNat+1:=by
 have h:=FI hW
 obtain ⟨h1,h2,h3,h4,h5,h6⟩:=hW
 have h7:0≤(t-Am t z d) / d:=Int.ediv_nonneg (by omega) (by omega)
 unfold BE
 rw [if_pos (by omega),show t+1-Am t z d-1=t-Am t z d by omega]
 omega
theorem O7 {k:Nat}(hk:k<BE (Am t z d) (t+1) d):Am t z d+(k:Int) * d≤t:=by
 have h:=FI hW
 rw [GG hW] at hk
 obtain ⟨h1,h2,h3,h4,h5,h6⟩:=hW
 have h7:0≤(t-Am t z d) / d:=Int.ediv_nonneg (by omega) (by omega)
 have h8:=Int.ediv_mul_le (t-Am t z d) (b:=d) (by omega)
 have h9:(k:Int) * d≤(t-Am t z d) / d * d:=Int.mul_le_mul_of_nonneg_right (by omega) (by omega)
 omega
theorem O6 (k:Nat):t<Am t z d+(k:Int) * d+z:=by
 have h:=Gb hW
 obtain ⟨h1,h2,h3,h4,h5,h6⟩:=hW
 have h9:0≤(k:Int) * d:=Int.mul_nonneg (by omega) (by omega)
 omega
theorem O3:BE (Am t z d) (t+1) d≤1000001:=by
 have h:=Gb hW
 have h0:=FI hW
 rw [GG hW]
 obtain ⟨h1,h2,h3,h4,h5,h6⟩:=hW
 have h7:0≤(t-Am t z d) / d:=Int.ediv_nonneg (by omega) (by omega)
 have h8:(t-Am t z d) / d≤t-Am t z d:=Int.ediv_le_self _ (by omega)
 omega
end
theorem N3 (t z d:Int) (k:Nat):(Am t z d+(k:Int) * d) % d=0:=by
 unfold Am
 rw [←Int.add_mul]
 exact Int.mul_emod_left _ _
theorem OH (T:Tx K mg ad):A9 P w K mg base CX0 1 ad.DL ad.ED ["time", "size", "step"] O8:=by
 refine T.DR.ok Jz (fun vs H Q E h=>?_) (fun cdv A outer s H vs Q E hr h=>?_)
 ·obtain ⟨t,z,d,rfl,_⟩:=h
  rfl
 ·obtain ⟨t,z,d,rfl,hW,k⟩:=h
  have nd:=Jz.nd
  refine ⟨_,(AO (AX (i:=3) nd rfl (Or.inl rfl) (AL F0 (AL BF (AL Aq (AL C8 (pv 0) (pv 1)) (pv 2)) AD) (pv 2)))
    (AJ (Ae (Lg rfl (by rfl) T.DE (by rfl) T.EJ (AA (pv 3) (AA (AL BF (pv 0) AD) (AA (pv 2) AE))))))),?_⟩
  have a1:=FI hW
  have a2:=Gb hW
  have a3:=O3 hW
  obtain ⟨h1,h2,h3,h4,h5,h6⟩:=id hW
  refine ⟨_,rfl,_,rfl,_,_,rfl,rfl,_,rfl,_,_,rfl,rfl,⟨by omega,by omega⟩,_,_,rfl,rfl,_,rfl,_,_,rfl,rfl,.inr ⟨by omega,by omega⟩,?_⟩
  refine ⟨_,rfl,_,rfl,_,_,rfl,rfl,_,rfl,_,_,_,rfl,⟨by omega,by omega,?_,?_,by omega,by omega,?_⟩,k⟩
  ·show -(2 ^ 40)≤Am t z d
   omega
  ·show Am t z d<2 ^ 40
   omega
  ·exact Nat.le_trans a3 (by decide)
def Tal (ns:List Int) (xs:List V):Prop:=∃l g:Int,xs=[.int (ns.length:Int),.int ns.sum,.int l,.int g]/\l∈ns/\(∀a∈ns,l≤a)/\g∈ns/\∀a∈ns,a≤g
theorem Tal.one (a:Int):Tal [a] [.int 1,.int a,.int a,.int a]:=⟨a,a,by simp,by simp,by simp,by simp,by simp⟩
theorem Tal.add {ns ms:List Int}{n s l g n' s' l' g':Int}(h:Tal ns [.int n,.int s,.int l,.int g]) (h':Tal ms [.int n',.int s',.int l',.int g']) :
  Tal (ns++ms) [.int (n+n'),.int (s+s'),.int (if l'<l then l' else l),.int (if g' > g then g' else g)]:=by
 obtain ⟨l0,g0,e,a1,a2,a3,a4⟩:=h
 obtain ⟨l1,g1,e',b1,b2,b3,b4⟩:=h'
 simp only [List.cons.injEq,V.int.injEq,and_true] at e e'
 obtain ⟨rfl,rfl,rfl,rfl⟩:=e
 obtain ⟨rfl,rfl,rfl,rfl⟩:=e'
 refine ⟨if l'<l then l' else l,if g' > g then g' else g,by rw [List.length_append,List.sum_append];simp,?_,fun a ha=>?_,?_,fun a ha=>?_⟩
 ·split
  ·exact List.mem_append_right _ b1
  ·exact List.mem_append_left _ a1
 ·rcases List.mem_append.mp ha with q|q
  ·have:=a2 a q;split <;> omega
  ·have:=b2 a q;split <;> omega
 ·split
  ·exact List.mem_append_right _ b3
  ·exact List.mem_append_left _ a3
 ·rcases List.mem_append.mp ha with q|q
  ·have:=a4 a q;split <;> omega
  ·have:=b4 a q;split <;> omega
theorem D1 {ns ms:List Int}(h:ns.Perm ms):ns.sum=ms.sum:=by
 induction h with
 | nil=>rfl
 | cons x _ ih=>rw [List.sum_cons,List.sum_cons,ih]
 | swap x y l=>simp only [List.sum_cons];omega
 | trans _ _ a b=>exact a.trans b
theorem Tal.same {ns ms:List Int}{xs ys:List V}(h:Tal ns xs) (h':Tal ms ys) (hp:ns.Perm ms):xs=ys:=by
 obtain ⟨l0,g0,rfl,a1,a2,a3,a4⟩:=h
 obtain ⟨l1,g1,rfl,b1,b2,b3,b4⟩:=h'
 have e1:l0=l1:=Int.le_antisymm (a2 _ (hp.mem_iff.mpr b1)) (b2 _ (hp.mem_iff.mp a1))
 have e2:g0=g1:=Int.le_antisymm (b4 _ (hp.mem_iff.mp a3)) (a4 _ (hp.mem_iff.mpr b3))
 have e3:ns.sum=ms.sum:=(D1 hp)
 rw [e1,e2,e3,hp.length_eq]
theorem Tal.four {ns:List Int}{xs:List V}(h:Tal ns xs):∃n s l g:Int,xs=[.int n,.int s,.int l,.int g]:=by
 obtain ⟨l,g,rfl,_⟩:=h
 exact ⟨_,_,_,_,rfl⟩
def GJ:Sp:=fun vs H Q _=>∃a:Int,vs=[.int a]/\∀r,H r=none→Q (.ref r) (upd H r (.tup [.int 1,.int a,.int a,.int a]))
def GK:Sp:=fun vs H Q _=>∃(p q:Addr) (ns ms:List Int) (xs ys:List V),vs=[.ref p,.ref q]/\H p=some (.tup xs)/\H q=some (.tup ys)/\Tal ns xs/\Tal ms ys/\∀r zs,H r=none→Tal (ns++ms) zs→Q (.ref r) (upd H r (.tup zs))
theorem CQ (T:Tx K mg ad):A9 P w K mg base CX0 1 ad.CI ad.Cq ["amount"] GJ:=by
 refine T.Bs.ok Ho (fun vs H Q E h=>?_) (fun cdv A outer s H vs Q E hr h=>?_)
 ·obtain ⟨a,rfl,_⟩:=h
  rfl
 ·obtain ⟨a,rfl,k⟩:=h
  have nd:=Ho.nd
  refine ⟨_,(AJ (Ae (A8 (AA AD (AA (pv 0) (AA (pv 0) (AA (pv 0) AE))))))),?_⟩
  exact ⟨_,rfl,_,rfl,_,rfl,by show 4≤sizeLine;decide,k⟩
theorem D6 (T:Tx K mg ad):A9 P w K mg base CX0 1 ad.Ei ad.Fc ["one", "other"] GK:=by
 refine T.Dp.ok LY (fun vs H Q E h=>?_) (fun cdv A outer s H vs Q E hr h=>?_)
 ·obtain ⟨p,q,ns,ms,xs,ys,rfl,_⟩:=h
  rfl
 ·obtain ⟨p,q,ns,ms,xs,ys,rfl,e1,e2,t1,t2,k⟩:=h
  have nd:=LY.nd
  refine ⟨_,(AJ (Ae (A8 (AA (AL BF (AN (AI (K:=K)) (pv 0) AD (fun _ _=>rfl)) (AN (AI (K:=K)) (pv 1) AD (fun _ _=>rfl))) (AA (AL BF (AN (AI (K:=K)) (pv 0) AD (fun _ _=>rfl)) (AN (AI (K:=K)) (pv 1) AD (fun _ _=>rfl))) (AA (Ab (Fd rfl) (by rfl) T.Ew PyProof.Rows.boot_min (AA (AN (AI (K:=K)) (pv 0) AD (fun _ _=>rfl)) (AA (AN (AI (K:=K)) (pv 1) AD (fun _ _=>rfl)) AE))) (AA (Ab (HS rfl) (by rfl) T.Fg PyProof.Rows.boot_max (AA (AN (AI (K:=K)) (pv 0) AD (fun _ _=>rfl)) (AA (AN (AI (K:=K)) (pv 1) AD (fun _ _=>rfl)) AE))) AE))))))),?_⟩
  obtain ⟨n,s0,l,g,rfl⟩:=t1.four
  obtain ⟨n',s',l',g',rfl⟩:=t2.four
  have i1:SqT K H p [V.int n,V.int s0,V.int l,V.int g]:=SqT.of e1
  have i2:SqT K H q [V.int n',V.int s',V.int l',V.int g']:=SqT.of e2
  refine ⟨_,rfl,p,_,0,_,rfl,rfl,i1,AG (j:=0) rfl,_,rfl,q,_,0,_,rfl,rfl,i2,AG (j:=0) rfl,_,_,rfl,rfl,?_⟩
  refine ⟨_,rfl,p,_,1,_,rfl,rfl,i1,AG (j:=1) rfl,_,rfl,q,_,1,_,rfl,rfl,i2,AG (j:=1) rfl,_,_,rfl,rfl,?_⟩
  refine ⟨_,rfl,p,_,2,_,rfl,rfl,i1,AG (j:=2) rfl,_,rfl,q,_,2,_,rfl,rfl,i2,AG (j:=2) rfl,_,_,rfl,?_⟩
  refine ⟨_,rfl,p,_,3,_,rfl,rfl,i1,AG (j:=3) rfl,_,rfl,q,_,3,_,rfl,rfl,i2,AG (j:=3) rfl,_,_,rfl,?_⟩
  exact ⟨by show 4≤sizeLine;decide,fun r hr'=>k r _ hr' (t1.add t2)⟩
end Wn
namespace Wn
abbrev Ws:=List (Int×List Int)
def Up (ps:Ws):Prop:=ps.Pairwise fun a b=>a.1<b.1
def look:Ws→Int→List Int
 | [],_=>[]
 | p::ps,s=>if p.1=s then p.2 else look ps s
def ER:Ws→Int→Int→Ws
 | [],s,a=>[(s,[a])]
 | p::ps,s,a=>if p.1<s then p::ER ps s a else if p.1=s then (p.1,p.2++[a])::ps else (s,[a])::p::ps
theorem L5:∀{ps:Ws}{s:Int},(∀p∈ps,s<p.1)→look ps s=[]
 | [],_,_=>rfl
 | p::ps,s,h=>by
  show (if p.1=s then p.2 else look ps s)=[]
  have:=h p List.mem_cons_self
  rw [if_neg (by omega)]
  exact L5 fun q hq=>h q (List.mem_cons_of_mem _ hq)
theorem JA:∀{ps:Ws}{s a:Int}{q:Int×List Int},q∈ER ps s a→q∈ps\/(q.1=s/\q.2≠[])
 | [],s,a,q,h=>by
  rw [List.mem_singleton.mp h]
  exact .inr ⟨rfl,by simp⟩
 | p::ps,s,a,q,h=>by
  unfold ER at h
  split at h
  ·rcases List.mem_cons.mp h with h|h
   ·exact .inl (by rw [h];exact List.mem_cons_self)
   ·rcases JA h with h|h
    ·exact .inl (List.mem_cons_of_mem _ h)
    ·exact .inr h
  ·split at h
   ·rename_i e
    rcases List.mem_cons.mp h with h|h
    ·rw [h];exact .inr ⟨e,by simp⟩
    ·exact .inl (List.mem_cons_of_mem _ h)
   ·rcases List.mem_cons.mp h with h|h
    ·rw [h];exact .inr ⟨rfl,by simp⟩
    ·exact .inl h
theorem NU:∀{ps:Ws}{s a:Int},Up ps→Up (ER ps s a)
 | [],s,a,_=>List.pairwise_singleton _ _
 | p::ps,s,a,h=>by
  obtain ⟨h1,h2⟩:=List.pairwise_cons.mp h
  unfold ER
  split
  ·rename_i e
   refine List.pairwise_cons.mpr ⟨fun q hq=>?_,NU h2⟩
   rcases JA hq with hq|hq
   ·exact h1 q hq
   ·rw [hq.1];exact e
  ·split
   ·exact List.pairwise_cons.mpr ⟨h1,h2⟩
   ·refine List.pairwise_cons.mpr ⟨fun q hq=>?_,h⟩
    show s<q.1
    rcases List.mem_cons.mp hq with rfl|hq
    ·omega
    ·have:=h1 q hq
     omega
theorem J6:∀{ps:Ws}{s a:Int},Up ps→∀x,look (ER ps s a) x=if x=s then look ps s++[a] else look ps x
 | [],s,a,_,x=>by
  show (if s=x then [a] else [])=_
  by_cases e:x=s
  ·rw [if_pos e.symm,if_pos e];rfl
  ·rw [if_neg (fun z=>e z.symm),if_neg e];rfl
 | p::ps,s,a,h,x=>by
  obtain ⟨h1,h2⟩:=List.pairwise_cons.mp h
  have L:∀y,look (p::ps) y=if p.1=y then p.2 else look ps y:=fun y=>rfl
  unfold ER
  split
  ·rename_i e
   show (if p.1=x then p.2 else look (ER ps s a) x)=_
   rw [J6 h2 x,L,L,if_neg (show ¬ p.1=s by omega)]
   by_cases e1:p.1=x
   ·rw [if_pos e1,if_neg (by omega),if_pos e1]
   ·rw [if_neg e1,if_neg e1]
  ·split
   ·rename_i e
    show (if p.1=x then p.2++[a] else look ps x)=_
    rw [L,L,if_pos e]
    by_cases e1:p.1=x
    ·rw [if_pos e1,if_pos (by omega)]
    ·rw [if_neg e1,if_neg (by omega),if_neg e1]
   ·show (if s=x then [a] else look (p::ps) x)=_
    have low:look (p::ps) s=[]:=L5 fun q hq=>by
     rcases List.mem_cons.mp hq with rfl|hq
     ·omega
     ·have:=h1 q hq
      omega
    by_cases e1:x=s
    ·rw [if_pos e1.symm,if_pos e1,low];rfl
    ·rw [if_neg (fun z=>e1 z.symm),if_neg e1]
theorem L3:∀{ps:Ws}{s:Int},look ps s≠[]→(s,look ps s)∈ps
 | [],_,h=>absurd rfl h
 | p::ps,s,h=>by
  have L:look (p::ps) s=if p.1=s then p.2 else look ps s:=rfl
  rw [L] at h ⊢
  by_cases e:p.1=s
  ·rw [if_pos e]
   obtain ⟨a,b⟩:=p
   have e:a=s:=e
   subst e
   exact List.mem_cons_self
  ·rw [if_neg e] at h ⊢
   exact List.mem_cons_of_mem _ (L3 h)
theorem Lz:∀{ps:Ws}{q:Int×List Int},Up ps→q∈ps→look ps q.1=q.2
 | p::ps,q,h,hq=>by
  obtain ⟨h1,h2⟩:=List.pairwise_cons.mp h
  show (if p.1=q.1 then p.2 else look ps q.1)=_
  rcases List.mem_cons.mp hq with rfl|hq
  ·rw [if_pos rfl]
  ·have:=h1 q hq
   rw [if_neg (by omega)]
   exact Lz h2 hq
theorem Ju:∀{ps qs:Ws},Up ps→Up qs→(∀p∈ps,p∈qs)→(∀q∈qs,q∈ps)→ps=qs
 | [],[],_,_,_,_=>rfl
 | [],q::qs,_,_,_,h=>absurd (h q List.mem_cons_self) (by simp)
 | p::ps,[],_,_,h,_=>absurd (h p List.mem_cons_self) (by simp)
 | p::ps,q::qs,h1,h2,h3,h4=>by
  obtain ⟨a1,a2⟩:=List.pairwise_cons.mp h1
  obtain ⟨b1,b2⟩:=List.pairwise_cons.mp h2
  have e:p=q:=by
   rcases List.mem_cons.mp (h3 p List.mem_cons_self) with e|hp
   ·exact e
   ·rcases List.mem_cons.mp (h4 q List.mem_cons_self) with e|hq
    ·exact e.symm
    ·have:=b1 p hp
     have:=a1 q hq
     omega
  subst e
  congr 1
  refine Ju a2 b2 (fun x hx=>?_) fun x hx=>?_
  ·rcases List.mem_cons.mp (h3 x (List.mem_cons_of_mem _ hx)) with e|h
   ·have:=a1 x hx;rw [e] at this;omega
   ·exact h
  ·rcases List.mem_cons.mp (h4 x (List.mem_cons_of_mem _ hx)) with e|h
   ·have:=b1 x hx;rw [e] at this;omega
   ·exact h
theorem L1 {ps qs:Ws}(h1:Up ps) (h2:Up qs) (n1:∀p∈ps,p.2≠[]) (n2:∀p∈qs,p.2≠[]) (h:∀s,look ps s=look qs s):ps=qs:=by
 have g:∀{ps qs:Ws},Up ps→(∀p∈ps,p.2≠[])→(∀s,look ps s=look qs s)→∀p∈ps,p∈qs:=fun {ps qs} u n h p hp=>by
  have e:=Lz u hp
  have:=L3 (ps:=qs) (s:=p.1) (by rw [←h,e];exact n p hp)
  rw [←h,e] at this
  exact this
 exact Ju h1 h2 (g h1 n1 h) (g h2 n2 fun s=>(h s).symm)
theorem I9:∀{ps:Ws}{s a:Int}{n:Nat}{p:Int×List Int},(∀(i:Nat) q,i<n→ps[i]?=some q→q.1<s)→ps[n]?=some p→p.1=s→ER ps s a=ps.take n++[(s,p.2++[a])]++ps.drop (n+1)
 | [],_,_,_,_,_,e,_=>by simp at e
 | q::ps,s,a,0,p,h1,e,ep=>by
  have e:q=p:=by simpa using e
  subst e
  unfold ER
  rw [if_neg (by omega),if_pos ep,ep]
  rfl
 | q::ps,s,a,n+1,p,h1,e,ep=>by
  have hq:=h1 0 q (by omega) rfl
  unfold ER
  rw [if_pos hq,I9 (n:=n) (p:=p) (fun i r hi er=>h1 (i+1) r (by omega) (by simpa using er)) (by simpa using e) ep]
  rfl
theorem Lb:∀{ps:Ws}{s a:Int}{n:Nat},(∀(i:Nat) q,i<n→ps[i]?=some q→q.1<s)→n≤ps.length→(∀p,ps[n]?=some p→s<p.1)→ER ps s a=ps.take n++[(s,[a])]++ps.drop n
 | [],s,a,n,_,hn,_=>by
  have:n=0:=by simpa using hn
  subst this
  rfl
 | q::ps,s,a,0,h1,_,hp=>by
  have:=hp q rfl
  unfold ER
  rw [if_neg (by omega),if_neg (by omega)]
  rfl
 | q::ps,s,a,n+1,h1,hn,hp=>by
  have hq:=h1 0 q (by omega) rfl
  unfold ER
  rw [if_pos hq,Lb (n:=n) (fun i r hi er=>h1 (i+1) r (by omega) (by simpa using er)) (by simpa using hn) (fun p e=>hp p (by simpa using e))]
  rfl
def Tj (z:Int) (H:Hp) (x:V) (p:Int×List Int):Prop:=∃(a q:Addr) (ts:List V),x=.ref a/\H a=some (.tup [.int p.1,.int (p.1+z),.ref q])/\H q=some (.tup ts)/\Tal p.2 ts
def Pcs (z:Int) (H:Hp) (xs:List V) (ps:Ws):Prop:=Paired (Tj z H) xs ps
theorem Pcs.keep {z:Int}{H H':Hp}{xs:List V}{ps:Ws}(h:Pcs z H xs ps) (t:Tp H H'):Pcs z H' xs ps:=Au (fun x p ⟨a,q,ts,e,e1,e2,e3⟩=>⟨a,q,ts,e,t _ _ e1,t _ _ e2,e3⟩) h
abbrev P3:=Int×Int×List Int
def PcI (H:Hp) (x:V) (p:P3):Prop:=∃(a q:Addr) (ts:List V),x=.ref a/\H a=some (.tup [.int p.1,.int p.2.1,.ref q])/\H q=some (.tup ts)/\Tal p.2.2 ts
def Hi (H:Hp) (xs:List V) (ps:List P3):Prop:=Paired (PcI H) xs ps
theorem Hi.keep {H H':Hp}{xs:List V}{ps:List P3}(h:Hi H xs ps) (t:Tp H H'):Hi H' xs ps:=Au (fun x p ⟨a,q,ts,e,e1,e2,e3⟩=>⟨a,q,ts,e,t _ _ e1,t _ _ e2,e3⟩) h
theorem Hi.len {H:Hp}{xs:List V}{ps:List P3}(h:Hi H xs ps):xs.length=ps.length:=(AQ h).1
theorem Hi.at {H:Hp}{xs:List V}{ps:List P3}(h:Hi H xs ps) {i:Nat}{p:P3}(e:ps[i]?=some p):∃(a q:Addr) (ts:List V),xs[i]?=some (.ref a)/\H a=some (.tup [.int p.1,.int p.2.1,.ref q])/\H q=some (.tup ts)/\Tal p.2.2 ts:=by
 obtain ⟨l,f⟩:=AQ h
 have hi:=(List.getElem?_eq_some_iff.mp e).1
 have e2:=List.getElem?_eq_getElem (show i<xs.length by omega)
 obtain ⟨a,q,ts,e3,r⟩:=f i _ _ e2 e
 exact ⟨a,q,ts,by rw [e2,e3],r⟩
theorem NX {β:Type}{H:Hp}{f:β→P3}{xs:List V}{ps:List β}(h:Paired (fun x p=>PcI H x (f p)) xs ps):Hi H xs (ps.map f):=by
 induction h with
 | nil=>exact .nil
 | cons a _ ih=>exact .cons a ih
theorem G6 {β:Type}{H:Hp}{f:β→P3}{xs:List V}:∀{ps:List β},Hi H xs (ps.map f)→Paired (fun x p=>PcI H x (f p)) xs ps:=by
 induction xs with
 | nil =>
  intro ps h
  cases ps with
  | nil=>exact .nil
  | cons b bs=>cases h
 | cons a as ih =>
  intro ps h
  cases ps with
  | nil=>cases h
  | cons b bs=>cases h with|cons h1 h2=>exact .cons h1 (ih h2)
def UpI (ps:List P3):Prop:=ps.Pairwise fun a b=>a.1<b.1
def RA:Sp:=fun vs H Q _=>∃(r mk:Addr) (xs:List V) (s:Int) (ps:List P3),vs=[.ref r,.ref mk]/\H r=some (.lst xs)/\Hi H xs ps/\ps.length≤100000/\H mk=some (.tup [.int s])/\UpI ps /\
 ∀n:Nat,n≤ps.length→(∀(i:Nat) p,i<n→ps[i]?=some p→p.1<s)→(∀(i:Nat) p,n≤i→ps[i]?=some p→¬ p.1<s)→Q (.int (n:Int)) H
theorem SD {ps:List P3}(h:UpI ps) {i j:Nat}{a b:P3}(hij:i≤j) (ea:ps[i]?=some a) (eb:ps[j]?=some b):a.1≤b.1:=by
 by_cases e:i=j
 ·subst e
  rw [ea] at eb
  cases eb
  exact Int.le_refl _
 ·obtain ⟨hi,e1⟩:=List.getElem?_eq_some_iff.mp ea
  obtain ⟨hj,e2⟩:=List.getElem?_eq_some_iff.mp eb
  have:=List.pairwise_iff_getElem.mp h i j hi hj (by omega)
  rw [e1,e2] at this
  exact Int.le_of_lt this
theorem Rk (t a b:Int):BG [.inl t,.inl a] [.inl b]=decide (t<b):=by
 show (if (Sum.inl t:Key)=Sum.inl b then false else decide (t<b))=_
 split
 ·rename_i e
  have e:=Sum.inl.inj e
  rw [e]
  exact (decide_eq_false (Int.lt_irrefl b)).symm
 ·rfl
theorem P4 (T:Tx K mg ad):A9 P w K mg base CX0 1 ad.Eh ad.Fb ["rows", "mark"] RA:=by
 refine T.Ep.ok LX (fun vs H Q E h=>?_) (fun cdv A outer s H vs Q E hr h=>?_)
 ·obtain ⟨r,mk,xs,s,ps,rfl,_⟩:=h
  rfl
 ·obtain ⟨r,mk,xs,sv,ps,rfl,er,hw,hl,em,up,k⟩:=h
  have nd:=LX.nd
  refine ⟨_,(AO (AX (i:=2) nd rfl (Or.inl rfl) AD)
    (AO (AX (i:=3) nd rfl (Or.inl rfl) (Ab (BB (K:=K)) (by rfl) T.Er PySem.boot_len (AA (pv 0) AE)))
    (AO (Le PassesOwn.never (Ah Pq (pv 2) (pv 3) (Ak _))
    (AO (AX (i:=4) nd rfl (Or.inl rfl) (AL Aq (AL BF (pv 2) (pv 3)) AD))
    (AJ (Be (Ah (Sy (K:=K) hr.Gs) (AN (Al (K:=K)) (pv 0) (pv 4) (fun _ _=>rfl)) (pv 1) (Ak _))
    (AJ (AX (i:=2) nd rfl (Or.inl rfl) (AL BF (pv 4) AD)))
    (AJ (AX (i:=3) nd rfl (Or.inl rfl) (pv 4)))))))
    (AJ (Ae (pv 2)))))),?_⟩
  have len:=hw.len
  refine ⟨_,rfl,r,_,rfl,.inl (SqL.of er),?_⟩
  refine LF (fun σ H'=>H'=H/\∃(lo hi:Nat) (o4:Option V),σ=[some (.ref r),some (.ref mk),some (.int (lo:Int)),some (.int (hi:Int)),o4]/\lo≤hi/\hi≤ps.length/\(∀(i:Nat) p,i<lo→ps[i]?=some p→p.1<sv)/\(∀(i:Nat) p,hi≤i→ps[i]?=some p→¬ p.1<sv))
   (fun σ _=>match σ with|[_,_,some (.int lo),some (.int hi),_]=>(hi-lo).toNat|_=>0) ⟨rfl,0,ps.length,none,by rw [len];rfl,Nat.zero_le _,Nat.le_refl _,fun i ks h=>by omega,fun i ks h e=>by have:=(List.getElem?_eq_some_iff.mp e).1;omega⟩ ?_ ?_
  ·rintro σ H' ⟨rfl,lo,hi,o4,rfl,h1,h2,h3,h4⟩
   refine ⟨_,rfl,_,rfl,_,_,rfl,rfl,_,rfl,JS (fun e=>?_) fun e=>?_⟩
   ·have e:lo<hi:=by omega
    have em2:((lo:Int)+(hi:Int)) / 2=(((lo+hi) / 2:Nat):Int):=by omega
    have hm:(lo+hi) / 2<ps.length:=by omega
    have ek:ps[(lo+hi) / 2]?=some ps[(lo+hi) / 2]:=List.getElem?_eq_getElem hm
    obtain ⟨a,q,ts,ea,eq,_,_⟩:=hw.at ek
    generalize ps[(lo+hi) / 2]=pm at ek eq
    refine ⟨_,rfl,_,rfl,_,_,rfl,rfl,_,_,rfl,rfl,⟨by decide,by decide⟩,?_⟩
    have ea2:atI xs (((lo:Int)+(hi:Int)) / 2)=some (.ref a):=by rw [em2];exact AG ea
    refine ⟨_,rfl,_,rfl,r,_,_,_,rfl,rfl,SqL.of er,ea2,_,rfl,a,mk,[.inl pm.1,.inl pm.2.1],[.ref q],[.inl sv],rfl,rfl,SqT.of eq,SqT.of em,.inr (by show 1≤2;decide),(fun i k m e1 e2=>?_),_,rfl,?_⟩
    ·have hi0:i=0:=by have:=(List.getElem?_eq_some_iff.mp e2).1;simp at this;omega
     subst hi0
     cases e1
     cases e2
     rfl
    rw [Rk]
    refine JS (fun b=>?_) fun b=>?_
    ·refine ⟨_,rfl,_,_,rfl,rfl,⟨rfl,(lo+hi) / 2+1,hi,_,by show _=[_,_,some (V.int _),_,_];rw [show ((((lo+hi) / 2+1:Nat)):Int)=((lo:Int)+(hi:Int)) / 2+1 by omega];rfl,by omega,h2,fun i ks hi' e'=>?_,h4⟩,?_⟩
     ·have:=SD up (by omega) e' ek
      omega
     ·show ((hi:Int)-(((lo:Int)+(hi:Int)) / 2+1)).toNat<((hi:Int)-(lo:Int)).toNat
      omega
    ·refine ⟨_,rfl,⟨rfl,lo,(lo+hi) / 2,_,by show _=[_,_,_,some (V.int _),_];rw [←em2];rfl,by omega,by omega,h3,fun i ks hi' e'=>?_⟩,?_⟩
     ·have:=SD up hi' ek e'
      omega
     ·show ((((lo:Int)+(hi:Int)) / 2)-(lo:Int)).toNat<((hi:Int)-(lo:Int)).toNat
      omega
   ·have e:lo=hi:=by omega
    subst e
    exact ⟨_,rfl,k lo h2 h3 h4⟩
  ·rintro σ H1 R R' hR ⟨v,e1,u,e2,i,j,e3,e4,b,e5,q⟩
   exact ⟨v,e1,u,e2,i,j,e3,e4,b,e5,hR _ _ q⟩
end Wn
namespace Wn
theorem Np (xs:List V) (n:Nat) (h:n≤xs.length):F8 xs none (some (n:Int))=xs.take n:=by
 unfold F8
 have e1:HT.sIx xs.length 0 none=0:=rfl
 have e2:HT.sIx xs.length xs.length (some (n:Int))=n:=by
  show (if (n:Int)<0 then ((n:Int)+(xs.length:Int)).toNat else min (n:Int).toNat xs.length)=n
  rw [if_neg (by omega)]
  omega
 rw [e1,e2]
 rfl
theorem KO (xs:List V) (n:Nat) (h:n≤xs.length):F8 xs (some (n:Int)) none=xs.drop n:=by
 unfold F8
 have e1:HT.sIx xs.length xs.length none=xs.length:=rfl
 have e2:HT.sIx xs.length 0 (some (n:Int))=n:=by
  show (if (n:Int)<0 then ((n:Int)+(xs.length:Int)).toNat else min (n:Int).toNat xs.length)=n
  rw [if_neg (by omega)]
  omega
 rw [e1,e2]
 exact List.take_of_length_le (by rw [List.length_drop];exact Nat.le_refl _)
def Sj:Sp:=fun vs H Q _=>∃(l q:Addr) (xs ts:List V) (ps:List P3) (S E:Int) (ns:List Int),vs=[.ref l,.int S,.int E,.ref q]/\H l=some (.lst xs)/\Hi H xs ps/\UpI ps/\ps.length≤10000/\H q=some (.tup ts)/\Tal ns ts /\
 (∀H' r xs' n p,AH H H'→H r=none→H' r=some (.lst xs')→(∀(i:Nat) p,i<n→ps[i]?=some p→p.1<S)→ps[n]?=some p→p.1=S→Hi H' xs' (ps.take n++[(S,p.2.1,p.2.2++ns)]++ps.drop (n+1))→Q (.ref r) H') /\
 ∀H' r xs' n,AH H H'→H r=none→H' r=some (.lst xs')→n≤ps.length→(∀(i:Nat) p,i<n→ps[i]?=some p→p.1<S)→(∀(i:Nat) p,n≤i→ps[i]?=some p→¬ p.1<S)→(∀p,ps[n]?=some p→S<p.1)→Hi H' xs' (ps.take n++[(S,E,ns)]++ps.drop n)→Q (.ref r) H'
theorem NZ (T:Tx K mg ad):A9 P w K mg base CX0 2 ad.BA ad.BO ["pieces", "start", "end", "tally"] Sj:=by
 have G_ahead:=P4 (P:=P) (w:=w) (base:=base) T
 have G_added:=D6 (P:=P) (w:=w) (base:=base) T
 refine T.BP.ok Fh (fun vs H Q E h=>?_) (fun cdv A outer s H vs Q E hr h=>?_)
 ·obtain ⟨l,q,xs,ts,ps,s,a,ns,rfl,_⟩:=h
  rfl
 ·obtain ⟨l,q,xs,ts,ps,sv,ev0,ns,rfl,el,hw,up,hl,eq,tal,k1,k2⟩:=h
  have nd:=Fh.nd
  refine ⟨_,(AO (AX (i:=4) nd rfl (Or.inl rfl) (Af G_ahead (hr.mono (by decide)) (by rfl) T.Ri T.Ep.kp T.R7 .nil As (AA (pv 0) (AA (A8 (AA (pv 1) AE)) AE))))
    (AO (E7 (Be (PW.pt (Pb (Ah Pq (pv 4) (Ab (BB (K:=K)) (by rfl) T.Er PySem.boot_len (AA (pv 0) AE)) (Ak _)) (NT (Ah C5 (AN (AI (K:=K)) (AN (Al (K:=K)) (pv 0) (pv 4) (fun _ _=>rfl)) AD (fun _ _=>rfl)) (pv 1) (Ak _)))))
    (AO (AX (i:=5) nd rfl (Or.inl rfl) (AN (Al (K:=K)) (pv 0) (pv 4) (fun _ _=>rfl)))
    (AJ (Ae (AL FD (AL FD (DH (E2 (K:=K)) (pv 0) FR (DZ (pv 4))) (Ax (AA (A8 (AA (pv 1) (AA (AN (AI (K:=K)) (pv 5) AD (fun _ _=>rfl)) (AA (Af G_added (hr.mono (by decide)) (by rfl) T.Nh T.Dp.kp T.Nu .nil As (AA (AN (AI (K:=K)) (pv 5) AD (fun _ _=>rfl)) (AA (pv 3) AE))) AE)))) AE))) (DH (E2 (K:=K)) (pv 0) (DZ (AL BF (pv 4) AD)) FR)))))
    A4))
    (AJ (Ae (AL FD (AL FD (DH (E2 (K:=K)) (pv 0) FR (DZ (pv 4))) (Ax (AA (A8 (AA (pv 1) (AA (pv 2) (AA (pv 3) AE)))) AE))) (DH (E2 (K:=K)) (pv 0) (DZ (pv 4)) FR)))))),?_⟩
  have sz:sizeLine=16777216:=sizeLine_eq
  have i0:∀{a b c:V},atI [a,b,c] 0=some a:=AG (j:=0) rfl
  have i1:∀{a b c:V},atI [a,b,c] 1=some b:=AG (j:=1) rfl
  have i2:∀{a b c:V},atI [a,b,c] 2=some c:=AG (j:=2) rfl
  have lx:=hw.len
  refine ⟨_,rfl,_,rfl,Nat.le_of_ble_eq_true rfl,fun mk hmk=>?_⟩
  have s1:=AH.AW (o:=.tup [.int sv]) hmk
  have emk:(upd H mk (.tup [.int sv])) mk=some (.tup [.int sv]):=AB
  generalize upd H mk (.tup [.int sv])=H1 at s1 emk ⊢
  have el1:=s1 _ _ el
  have hw1:=hw.keep s1.tp
  have eq1:=s1 _ _ eq
  refine ⟨l,mk,xs,sv,ps,rfl,el1,hw1,by omega,emk,up,fun n hn b1 b2=>?_⟩
  refine IB (fun σ' H'=>H'=H1/\(∀p,ps[n]?=some p→sv<p.1)/\σ'=[some (.ref l),some (.int sv),some (.int ev0),some (.ref q),some (.int (n:Int)),none]) ?_ ?_
  ·refine ⟨_,rfl,_,rfl,l,_,rfl,.inl (SqL.of el1),_,_,rfl,rfl,_,rfl,JS (fun e=>?_) fun e=>⟨rfl,fun p ep=>absurd (List.getElem?_eq_some_iff.mp ep).1 (by omega),rfl⟩⟩
   have hnl:n<ps.length:=by omega
   have ep:ps[n]?=some ps[n]:=List.getElem?_eq_getElem hnl
   generalize ps[n]=p at ep
   obtain ⟨a,qp,tp,ea,ea1,eqp,talp⟩:=hw1.at ep
   have at1:atI xs (n:Int)=some (.ref a):=AG ea
   refine ⟨_,rfl,_,rfl,l,_,_,_,rfl,rfl,SqL.of el1,at1,a,_,_,_,rfl,rfl,SqT.of ea1,i0,_,rfl,rfl,_,rfl,Fl (fun es=>?_) fun es=>⟨rfl,fun p' ep'=>?_,rfl⟩⟩
   ·refine ⟨_,rfl,_,rfl,l,_,_,_,rfl,rfl,SqL.of el1,at1,?_⟩
    refine ⟨_,rfl,_,rfl,_,rfl,l,xs,rfl,SqL.of el1,fun c1 hc1=>?_⟩
    rw [Np xs n (by omega)]
    have s2:=AH.AW (o:=.lst (xs.take n)) hc1
    have ec1:(upd H1 c1 (.lst (xs.take n))) c1=some (.lst (xs.take n)):=AB
    generalize upd H1 c1 (.lst (xs.take n))=H2 at s2 ec1 ⊢
    refine ⟨_,rfl,_,rfl,a,_,_,_,rfl,rfl,SqT.of (s2 _ _ ea1),i1,_,rfl,a,_,_,_,rfl,rfl,SqT.of (s2 _ _ ea1),i2,_,rfl,qp,q,p.2.2,ns,tp,ts,rfl,s2 _ _ eqp,s2 _ _ eq1,talp,tal,fun u zs hu talu=>?_⟩
    have s3:=AH.AW (o:=.tup zs) hu
    have eu:(upd H2 u (.tup zs)) u=some (.tup zs):=AB
    generalize upd H2 u (.tup zs)=H3 at s3 eu ⊢
    refine ⟨Nat.le_of_ble_eq_true rfl,fun v hv=>⟨Nat.le_of_ble_eq_true rfl,fun c2 hc2=>?_⟩⟩
    have s4:=AH.AW (o:=.tup [.int sv,.int (p.2.1),.ref u]) hv
    have ev:(upd H3 v (.tup [.int sv,.int (p.2.1),.ref u])) v=some (.tup [.int sv,.int (p.2.1),.ref u]):=AB
    generalize upd H3 v (.tup [.int sv,.int (p.2.1),.ref u])=H4 at s4 ev hc2 ⊢
    have s5:=AH.AW (o:=.lst [.ref v]) hc2
    have ec2:(upd H4 c2 (.lst [.ref v])) c2=some (.lst [.ref v]):=AB
    generalize upd H4 c2 (.lst [.ref v])=H5 at s5 ec2 ⊢
    have s25:=s3.trans (s4.trans s5)
    refine ⟨c1,c2,_,_,rfl,rfl,s25 _ _ ec1,ec2,by rw [List.length_take];simp;omega,fun c3 hc3=>?_⟩
    have s6:=AH.AW (o:=.lst (xs.take n++[.ref v])) hc3
    have ec3:(upd H5 c3 (.lst (xs.take n++[.ref v]))) c3=some (.lst (xs.take n++[.ref v])):=AB
    generalize upd H5 c3 (.lst (xs.take n++[.ref v]))=H6 at s6 ec3 ⊢
    have s16:=s2.trans (s25.trans s6)
    refine ⟨_,rfl,_,rfl,_,_,rfl,rfl,_,rfl,l,xs,rfl,SqL.of (s16 _ _ el1),fun c4 hc4=>?_⟩
    have cf:F8 xs (some ((n:Int)+1)) none=xs.drop (n+1):=KO xs (n+1) (by omega)
    rw [cf]
    have s7:=AH.AW (o:=.lst (xs.drop (n+1))) hc4
    have ec4:(upd H6 c4 (.lst (xs.drop (n+1)))) c4=some (.lst (xs.drop (n+1))):=AB
    generalize upd H6 c4 (.lst (xs.drop (n+1)))=H7 at s7 ec4 ⊢
    refine ⟨c3,c4,_,_,rfl,rfl,s7 _ _ ec3,ec4,by rw [List.length_append,List.length_take,List.length_drop];simp;omega,fun c5 hc5=>?_⟩
    have s8:=AH.AW (o:=.lst (xs.take n++[.ref v]++xs.drop (n+1))) hc5
    have s18:=s16.trans (s7.trans s8)
    have s48:=s5.trans (s6.trans (s7.trans s8))
    refine k1 _ c5 _ n p (s1.trans s18) ((s1.trans (s16.trans s7)).free hc5) AB b1 ep es ?_
    have h8:=hw1.keep s18.tp
    exact Ag (Ag (E9 n h8) (.cons ⟨v,u,zs,rfl,s48 _ _ ev,(s4.trans s48) _ _ eu,talu⟩ .nil)) (FC (n+1) h8)
   ·rw [ep] at ep'
    cases ep'
    have:=b2 n _ (Nat.le_refl _) ep
    have es:¬ p.1=sv:=es
    omega
  rintro σ' H1' ⟨rfl,hno,rfl⟩
  refine ⟨_,rfl,_,rfl,_,rfl,l,xs,rfl,SqL.of el1,fun c1 hc1=>?_⟩
  rw [Np xs n (by omega)]
  have s2:=AH.AW (o:=.lst (xs.take n)) hc1
  have ec1:(upd H1' c1 (.lst (xs.take n))) c1=some (.lst (xs.take n)):=AB
  generalize upd H1' c1 (.lst (xs.take n))=H2 at s2 ec1 ⊢
  refine ⟨_,rfl,_,rfl,_,rfl,Nat.le_of_ble_eq_true rfl,fun v hv=>⟨Nat.le_of_ble_eq_true rfl,fun c2 hc2=>?_⟩⟩
  have s4:=AH.AW (o:=.tup [.int sv,.int (ev0),.ref q]) hv
  have ev:(upd H2 v (.tup [.int sv,.int (ev0),.ref q])) v=some (.tup [.int sv,.int (ev0),.ref q]):=AB
  generalize upd H2 v (.tup [.int sv,.int (ev0),.ref q])=H4 at s4 ev hc2 ⊢
  have s5:=AH.AW (o:=.lst [.ref v]) hc2
  have ec2:(upd H4 c2 (.lst [.ref v])) c2=some (.lst [.ref v]):=AB
  generalize upd H4 c2 (.lst [.ref v])=H5 at s5 ec2 ⊢
  have s25:=s4.trans s5
  refine ⟨c1,c2,_,_,rfl,rfl,s25 _ _ ec1,ec2,by rw [List.length_take];simp;omega,fun c3 hc3=>?_⟩
  have s6:=AH.AW (o:=.lst (xs.take n++[.ref v])) hc3
  have ec3:(upd H5 c3 (.lst (xs.take n++[.ref v]))) c3=some (.lst (xs.take n++[.ref v])):=AB
  generalize upd H5 c3 (.lst (xs.take n++[.ref v]))=H6 at s6 ec3 ⊢
  have s16:=s2.trans (s25.trans s6)
  refine ⟨_,rfl,_,rfl,_,rfl,l,xs,rfl,SqL.of (s16 _ _ el1),fun c4 hc4=>?_⟩
  rw [KO xs n (by omega)]
  have s7:=AH.AW (o:=.lst (xs.drop n)) hc4
  have ec4:(upd H6 c4 (.lst (xs.drop n))) c4=some (.lst (xs.drop n)):=AB
  generalize upd H6 c4 (.lst (xs.drop n))=H7 at s7 ec4 ⊢
  refine ⟨c3,c4,_,_,rfl,rfl,s7 _ _ ec3,ec4,by rw [List.length_append,List.length_take,List.length_drop];simp;omega,fun c5 hc5=>?_⟩
  have s8:=AH.AW (o:=.lst (xs.take n++[.ref v]++xs.drop n)) hc5
  have s18:=s16.trans (s7.trans s8)
  have s48:=s5.trans (s6.trans (s7.trans s8))
  refine k2 _ c5 _ n (s1.trans s18) ((s1.trans (s16.trans s7)).free hc5) AB hn b1 b2 hno ?_
  have h8:=hw1.keep s18.tp
  exact Ag (Ag (E9 n h8) (.cons ⟨v,q,ts,rfl,s48 _ _ ev,s18 _ _ eq1,tal⟩ .nil)) (FC n h8)
def O9:Sp:=fun vs H Q _=>∃(l q:Addr) (xs ts:List V) (ps:Ws) (z s a:Int),vs=[.ref l,.int s,.int (s+z),.ref q]/\H l=some (.lst xs)/\Pcs z H xs ps/\Up ps/\ps.length≤10000/\H q=some (.tup ts)/\Tal [a] ts /\
 ∀H' r xs',AH H H'→H r=none→H' r=some (.lst xs')→Pcs z H' xs' (ER ps s a)→Q (.ref r) H'
def trW (z:Int) (p:Int×List Int):P3:=(p.1,p.1+z,p.2)
theorem Kr (T:Tx K mg ad):A9 P w K mg base CX0 2 ad.BA ad.BO ["pieces", "start", "end", "tally"] O9 :=
 (NZ T).imp fun vs H Q E ⟨l,q,xs,ts,ps,z,s,a,e,el,hw,up,hl,eq,tal,k⟩=>by
  have lo:∀{n:Nat},(∀(i:Nat) p,i<n→(ps.map (trW z))[i]?=some p→p.1<s)→∀(i:Nat) p,i<n→ps[i]?=some p→p.1<s:=fun h i p hi ep=>h i (trW z p) hi (by rw [List.getElem?_map,ep];rfl)
  refine ⟨l,q,xs,ts,ps.map (trW z),s,s+z,[a],e,el,NX hw,List.pairwise_map.mpr up,by rw [List.length_map];exact hl,eq,tal,fun H' r xs' n p S h0 er b1 ep es hp=>?_,fun H' r xs' n S h0 er hn b1 b2 hno hp=>?_⟩
  ·rw [List.getElem?_map] at ep
   obtain ⟨p0,ep0,rfl⟩:=Option.map_eq_some_iff.mp ep
   have es:p0.1=s:=es
   have e2:(s,(trW z p0).2.1,(trW z p0).2.2++[a])=trW z (s,p0.2++[a]):=by
    show (s,p0.1+z,_)=(s,s+z,_)
    rw [es]
    rfl
   refine k H' r xs' S h0 er ?_
   rw [I9 (lo b1) ep0 es]
   rw [e2,←List.map_take,←List.map_drop] at hp
   refine G6 (f:=trW z) ?_
   rw [List.map_append,List.map_append]
   exact hp
  ·rw [List.length_map] at hn
   refine k H' r xs' S h0 er ?_
   rw [Lb (lo b1) hn fun p ep=>hno (trW z p) (by rw [List.getElem?_map,ep];rfl)]
   rw [←List.map_take,←List.map_drop] at hp
   refine G6 (f:=trW z) ?_
   rw [List.map_append,List.map_append]
   exact hp
end Wn
namespace Wn
theorem Lc:∀(ps:Ws) (s a:Int),(ER ps s a).length≤ps.length+1
 | [],_,_=>Nat.le_refl _
 | p::ps,s,a=>by
  unfold ER
  split
  ·have:=Lc ps s a
   simp only [List.length_cons]
   omega
  ·split <;> simp only [List.length_cons] <;> omega
theorem RM {ps:Ws}{s a:Int}(h:∀p∈ps,p.2≠[]):∀p∈ER ps s a,p.2≠[]:=fun p hp=>by
 rcases JA hp with hp|hp
 ·exact h p hp
 ·exact hp.2
theorem Gw {t z d:Int}{n:Nat}{s:Int}(h:(Av t z d)[n]?=some s):s=Am t z d+(n:Int) * d/\n<BE (Am t z d) (t+1) d:=by
 have hn:=(List.getElem?_eq_some_iff.mp h).1
 have hn':n<BE (Am t z d) (t+1) d:=by unfold Av at hn;rw [C3] at hn;exact hn
 have:=Iv hn'
 unfold Av at h
 rw [h] at this
 exact ⟨Option.some.inj this,hn'⟩
theorem MU {t z d:Int}{n:Nat}{s:Int}(hd:1≤d) (h:(Av t z d)[n]?=some s):s∉(Av t z d).take n:=fun hm=>by
 obtain ⟨i,hi,e⟩:=List.mem_iff_getElem.mp hm
 rw [List.length_take] at hi
 rw [List.getElem_take] at e
 have e2:(Av t z d)[i]?=some s:=by rw [←e];exact List.getElem?_eq_getElem _
 have h1:=(Gw h).1
 have h2:=(Gw e2).1
 have:(i:Int) * d=(n:Int) * d:=by omega
 have:=Int.eq_of_mul_eq_mul_right (by omega:d≠0) this
 omega
theorem Fq {t z d x:Int}(hW:Win t z d):x∈Av t z d↔x % d=0/\x≤t/\t-z<x:=by
 constructor
 ·intro h
  obtain ⟨n,hn,e⟩:=List.mem_iff_getElem.mp h
  obtain ⟨e1,e2⟩:=Gw (show (Av t z d)[n]?=some x by rw [←e];exact List.getElem?_eq_getElem _)
  rw [e1]
  have a:=O7 hW e2
  have b:=O6 hW n
  exact ⟨N3 t z d n,a,by omega⟩
 ·rintro ⟨h1,h2,h3⟩
  have hb:=M4 hW
  have hl:=FI hW
  have hd:1≤d:=hW.1
  obtain ⟨q,hq⟩:=Int.dvd_of_emod_eq_zero h1
  have f0:Am t z d=((t-z) / d+1) * d:=rfl
  have hx:x=q * d:=by rw [hq,Int.mul_comm]
  have ge:(t-z) / d+1≤q:=by
   have:=Int.ediv_lt_of_lt_mul (a:=t-z) (b:=q) (c:=d) (by omega) (by omega)
   omega
  have hk:x=Am t z d+(((q-((t-z) / d+1)).toNat:Nat):Int) * d:=by
   rw [Int.toNat_of_nonneg (by omega),f0,←Int.add_mul,hx]
   congr 1
   omega
  have hlt:(q-((t-z) / d+1)).toNat<BE (Am t z d) (t+1) d:=by
   rw [GG hW]
   have h7:0≤(t-Am t z d) / d:=Int.ediv_nonneg (by omega) (by omega)
   have:(((q-((t-z) / d+1)).toNat:Nat):Int)≤(t-Am t z d) / d:=Int.le_ediv_of_mul_le (by omega) (by omega)
   omega
  have:=Iv hlt
  rw [←hk] at this
  exact List.mem_of_getElem? this
theorem MV {t z d:Int}(hW:Win t z d) (hz:z≤20 * d):(Av t z d).length≤21:=by
 unfold Av
 rw [C3,GG hW]
 have h:=Gb hW
 have hd:1≤d:=hW.1
 have:(t-Am t z d) / d≤20:=by
  have:=Int.ediv_lt_of_lt_mul (a:=t-Am t z d) (b:=21) (c:=d) (by omega) (by omega)
  omega
 omega
def Sl:Sp:=fun vs H Q _=>∃(l:Addr) (xs:List V) (ps:Ws) (t a z d:Int),vs=[.ref l,.int t,.int a,.int z,.int d]/\Win t z d/\z≤20 * d/\H l=some (.lst xs)/\Pcs z H xs ps/\Up ps/\ps.length≤5000/\(∀p∈ps,p.2≠[]) /\
 ∀H' r xs' ps',AH H H'→H r=none→H' r=some (.lst xs')→Pcs z H' xs' ps'→Up ps'→(∀p∈ps',p.2≠[])→(∀x,look ps' x=look ps x++(if x∈Av t z d then [a] else []))→ps'.length≤ps.length+21→Q (.ref r) H'
theorem Rc (T:Tx K mg ad):A9 P w K mg base CX0 3 ad.CJ ad.Cr ["pieces", "time", "amount", "size", "step"] Sl:=by
 have G_starts:=OH (P:=P) (w:=w) (base:=base) T
 have G_tally_of:=CQ (P:=P) (w:=w) (base:=base) T
 have G_put_window:=Kr (P:=P) (w:=w) (base:=base) T
 refine T.CP.ok Hq (fun vs H Q E h=>?_) (fun cdv A outer s H vs Q E hr h=>?_)
 ·obtain ⟨l,xs,ps,t,a,z,d,rfl,_⟩:=h
  rfl
 ·obtain ⟨l,xs,ps,t,a,z,d,rfl,hW,hz,el,hw,up,hl,ne,k⟩:=h
  have nd:=Hq.nd
  refine ⟨_,(AO (AX (i:=5) nd rfl (Or.inl rfl) (D3 (Dt (K:=K)) (by rfl) T.DE PyProof.Rows.boot_list (AA (pv 0) AE)))
    (AO (Dq PassesOwn.never rfl (Ai (K:=K) (Af G_starts (hr.mono (by decide)) (by rfl) T.QG T.DR.kp T.Qj .nil As (AA (pv 1) (AA (pv 3) (AA (pv 4) AE))))) (BM (i:=6) nd rfl (Or.inl rfl))
    (AJ (AX (i:=5) nd rfl (Or.inl rfl) (Af G_put_window (hr.mono (by decide)) (by rfl) T.GY T.BP.kp T.Gk .nil As (AA (pv 5) (AA (pv 6) (AA (AL BF (pv 6) (pv 3)) (AA (Af G_tally_of (hr.mono (by decide)) (by rfl) T.JP T.Bs.kp T.Je .nil As (AA (pv 2) AE)) AE))))))))
    (AJ (Ae (pv 5))))),?_⟩
  have sz:sizeLine=16777216:=sizeLine_eq
  have sl:=MV hW hz
  refine ⟨_,rfl,l,xs,rfl,.inl (SqL.of el),fun tl htl=>?_⟩
  have s1:=AH.AW (o:=.lst xs) htl
  have etl:(upd H tl (.lst xs)) tl=some (.lst xs):=AB
  generalize upd H tl (.lst xs)=H1 at s1 etl ⊢
  refine ⟨_,rfl,_,rfl,_,rfl,t,z,d,rfl,hW,fun st hst=>?_⟩
  have s2:=AH.AW (o:=.lst ((Av t z d).map V.int)) hst
  have est:(upd H1 st (.lst ((Av t z d).map V.int))) st=some (.lst ((Av t z d).map V.int)):=AB
  generalize upd H1 st (.lst ((Av t z d).map V.int))=H2 at s2 est ⊢
  refine ⟨st,rfl,⟨_,SqL.of est⟩,B8 (K:=K) (xs:=(Av t z d).map V.int) (fun n σ H'=>∃(o6:Option V) (tl:Addr) (xt:List V) (pt:Ws),σ=[some (.ref l),some (.int t),some (.int a),some (.int z),some (.int d),some (.ref tl),o6]/\AH H2 H'/\H tl=none/\H' tl=some (.lst xt)/\Pcs z H' xt pt/\Up pt/\(∀p∈pt,p.2≠[])/\(∀x,look pt x=look ps x++(if x∈(Av t z d).take n then [a] else []))/\pt.length≤ps.length+n)
   ⟨none,tl,xs,ps,rfl,AH.refl _,htl,s2 _ _ etl,hw.keep (s1.trans s2).tp,up,ne,fun x=>by simp,Nat.le_refl _⟩ (fun n σ H' _ ⟨_,_,_,_,_,s',_⟩=>SqL.of (s' _ _ est)) ?_ ?_⟩
  ·rintro n y σ H3 hy ⟨o6,tl',xt,pt,rfl,s3,ht',et,hwt,upt,net,lk,ln⟩
   rw [List.getElem?_map] at hy
   obtain ⟨sv,hsv,rfl⟩:=Option.map_eq_some_iff.mp hy
   have hnl:n<(Av t z d).length:=(List.getElem?_eq_some_iff.mp hsv).1
   refine ⟨_,rfl,_,rfl,_,rfl,_,rfl,_,_,rfl,rfl,_,rfl,a,rfl,fun u hu=>?_⟩
   have s4:=AH.AW (o:=.tup [.int 1,.int a,.int a,.int a]) hu
   have eu:(upd H3 u (.tup [.int 1,.int a,.int a,.int a])) u=some (.tup [.int 1,.int a,.int a,.int a]):=AB
   generalize upd H3 u (.tup [.int 1,.int a,.int a,.int a])=H4 at s4 eu ⊢
   refine ⟨tl',u,xt,_,pt,z,sv,a,rfl,s4 _ _ et,hwt.keep s4.tp,upt,by omega,eu,Tal.one a,fun H5 r xr s5 hr5 er hwr=>?_⟩
   have s25:=s3.trans (s4.trans s5)
   refine ⟨_,r,xr,ER pt sv a,rfl,s25,((s1.trans s2).trans (s3.trans s4)).free hr5,er,hwr,NU upt,RM net,fun x=>?_,by have:=Lc pt sv a;omega⟩
   rw [J6 upt,List.take_add_one,hsv,lk sv,lk x,if_neg (MU hW.1 hsv)]
   by_cases e:x=sv
   ·rw [if_pos e,e,if_pos (List.mem_append_right _ (by simp))]
    simp
   ·rw [if_neg e]
    congr 1
    have:(x∈(Av t z d).take n++(some sv).toList)↔x∈(Av t z d).take n:=by
     rw [List.mem_append]
     exact ⟨fun h=>h.elim id fun h=>absurd (by simpa using h) e,.inl⟩
    simp only [this]
  ·rintro σ H3 ⟨o6,tl',xt,pt,rfl,s3,ht',et,hwt,upt,net,lk,ln⟩
   rw [List.length_map] at lk ln
   rw [List.take_of_length_le (Nat.le_refl _)] at lk
   exact ⟨_,rfl,k _ _ _ _ ((s1.trans s2).trans s3) ht' et hwt upt net lk (by omega)⟩
end Wn
namespace Gp
abbrev Bq:=List (Int×Int)
abbrev Bk:=Int×Int×List Int
def Apart (m:Int) (bs:List Bk):Prop:=bs.Pairwise fun a b=>a.2.1+m<b.1
def inB (b:Bk) (t:Int):Prop:=b.1≤t/\t≤b.2.1
instance (b:Bk) (t:Int):Decidable (inB b t):=inferInstanceAs (Decidable (_/\_))
structure Gd (m:Int) (its:Bq) (bs:List Bk):Prop where
 ap:Apart m bs
 am:∀b∈bs,b.2.2.Perm ((its.filter fun i=>decide (inB b i.1)).map (·.2))
 cov:∀i∈its,∃b∈bs,inB b i.1
 lo:∀b∈bs,∃i∈its,i.1=b.1
 hi:∀b∈bs,∃i∈its,i.1=b.2.1
 le:∀b∈bs,b.1≤b.2.1
 ch:∀b∈bs,∀i∈its,inB b i.1→i.1<b.2.1→∃j∈its,i.1<j.1/\j.1≤i.1+m
theorem Bg {m:Int}:∀{bs:List Bk},Apart m bs→∀{a b:Bk},a∈bs→b∈bs→a=b\/a.2.1+m<b.1\/b.2.1+m<a.1
 | x::bs,h,a,b,ha,hb=>by
  obtain ⟨h1,h2⟩:=List.pairwise_cons.mp h
  rcases List.mem_cons.mp ha with ea|ha'
  ·rcases List.mem_cons.mp hb with eb|hb'
   ·exact .inl (ea.trans eb.symm)
   ·rw [ea];exact .inr (.inl (h1 b hb'))
  ·rcases List.mem_cons.mp hb with eb|hb'
   ·rw [eb];exact .inr (.inr (h1 a ha'))
   ·exact Bg h2 ha' hb'
section
variable {m:Int}{its:Bq}{bs cs:List Bk}
theorem Ta (hm:0≤m) (g:Gd m its bs) (g':Gd m its cs) {b c:Bk}(hb:b∈bs) (hc:c∈cs) (h:b.1≤c.2.1):∀(n:Nat) (y:Int×Int),y∈its→(b.1-y.1).toNat=n→c.1≤y.1→y.1<b.1→False:=by
 intro n
 induction n using Nat.strongRecOn with
 | ind n ih =>
  intro y hy hn h1 h2
  obtain ⟨j,hj,j1,j2⟩:=g'.ch c hc y hy ⟨h1,by omega⟩ (by omega)
  obtain ⟨b',hb',i1,i2⟩:=g.cov y hy
  have hlt:j.1<b.1:=by
   rcases Bg g.ap hb' hb with e|e|e
   ·rw [e] at i1;omega
   ·omega
   ·have:=g.le b hb
    omega
  exact ih ((b.1-j.1).toNat) (by omega) j hj rfl (by omega) hlt
theorem MA (hm:0≤m) (g:Gd m its bs) (g':Gd m its cs) {b:Bk}(hb:b∈bs):∃c∈cs,c.1=b.1/\c.2.1=b.2.1:=by
 obtain ⟨i,hi,ei⟩:=g.lo b hb
 obtain ⟨c,hc,c1,c2⟩:=g'.cov i hi
 rw [ei] at c1 c2
 have e1:c.1=b.1:=by
  rcases Int.lt_or_eq_of_le c1 with h|h
  ·exfalso
   obtain ⟨y,hy,ey⟩:=g'.lo c hc
   exact Ta hm g g' hb hc c2 _ y hy rfl (by omega) (by omega)
  ·exact h
 refine ⟨c,hc,e1,?_⟩
 have go:∀{bs cs:List Bk} {b c:Bk},Gd m its bs→Gd m its cs→b∈bs→c∈cs→c.1=b.1→¬ c.2.1<b.2.1:=fun {bs cs b c} g g' hb hc e h=>by
  obtain ⟨y,hy,ey⟩:=g'.hi c hc
  have:=g'.le c hc
  obtain ⟨j,hj,j1,j2⟩:=g.ch b hb y hy ⟨by omega,by omega⟩ (by omega)
  obtain ⟨c',hc',k1,k2⟩:=g'.cov j hj
  rcases Bg g'.ap hc hc' with q|q|q
  ·rw [←q] at k2;omega
  ·omega
  ·omega
 have h1:=go g g' hb hc e1
 have h2:=go g' g hc hb e1.symm
 omega
theorem Gm (hm:0≤m):∀{bs cs:List Bk},Apart m bs→Apart m cs→(∀b∈bs,b.1≤b.2.1)→(∀b∈cs,b.1≤b.2.1)→(∀b∈bs,∃c∈cs,c.1=b.1/\c.2.1=b.2.1)→(∀c∈cs,∃b∈bs,b.1=c.1/\b.2.1=c.2.1)→Paired (fun b c=>b.1=c.1/\b.2.1=c.2.1) bs cs
 | [],[],_,_,_,_,_,_=>.nil
 | [],c::cs,_,_,_,_,_,h=>by obtain ⟨b,hb,_⟩:=h c List.mem_cons_self;cases hb
 | b::bs,[],_,_,_,_,h,_=>by obtain ⟨c,hc,_⟩:=h b List.mem_cons_self;cases hc
 | b::bs,c::cs,h1,h2,l1,l2,h3,h4=>by
  obtain ⟨a1,a2⟩:=List.pairwise_cons.mp h1
  obtain ⟨b1,b2⟩:=List.pairwise_cons.mp h2
  have lb:=l1 b List.mem_cons_self
  have lc:=l2 c List.mem_cons_self
  obtain ⟨x,hx,x1,x2⟩:=h3 b List.mem_cons_self
  obtain ⟨y,hy,y1,y2⟩:=h4 c List.mem_cons_self
  have e:b.1=c.1/\b.2.1=c.2.1:=by
   rcases List.mem_cons.mp hx with rfl|hx
   ·exact ⟨x1.symm,x2.symm⟩
   ·rcases List.mem_cons.mp hy with rfl|hy
    ·exact ⟨y1,y2⟩
    ·have:=b1 x hx
     have:=a1 y hy
     omega
  refine .cons e (Gm hm a2 b2 (fun z hz=>l1 z (List.mem_cons_of_mem _ hz)) (fun z hz=>l2 z (List.mem_cons_of_mem _ hz)) (fun z hz=>?_) fun z hz=>?_)
  ·obtain ⟨w,hw,w1,w2⟩:=h3 z (List.mem_cons_of_mem _ hz)
   rcases List.mem_cons.mp hw with rfl|hw
   ·have:=a1 z hz
    omega
   ·exact ⟨w,hw,w1,w2⟩
  ·obtain ⟨w,hw,w1,w2⟩:=h4 z (List.mem_cons_of_mem _ hz)
   rcases List.mem_cons.mp hw with rfl|hw
   ·have:=b1 z hz
    omega
   ·exact ⟨w,hw,w1,w2⟩
theorem Of (hm:0≤m) (g:Gd m its bs) (g':Gd m its cs):Paired (fun b c=>b.1=c.1/\b.2.1=c.2.1/\b.2.2.Perm c.2.2) bs cs:=by
 have p:=Gm hm g.ap g'.ap g.le g'.le (fun b hb=>MA hm g g' hb) fun c hc=>MA hm g' g hc
 have f:∀{bs' cs':List Bk},Paired (fun b c=>b.1=c.1/\b.2.1=c.2.1) bs' cs'→(∀b∈bs',b∈bs)→(∀c∈cs',c∈cs)→Paired (fun b c=>b.1=c.1/\b.2.1=c.2.1/\b.2.2.Perm c.2.2) bs' cs':=by
  intro bs' cs' h
  induction h with
  | nil=>intro _ _;exact .nil
  | cons hr _ ih =>
   rename_i b c bs' cs' _
   intro h1 h2
   refine .cons ⟨hr.1,hr.2,?_⟩ (ih (fun x hx=>h1 x (List.mem_cons_of_mem _ hx)) fun x hx=>h2 x (List.mem_cons_of_mem _ hx))
   refine (g.am _ (h1 _ List.mem_cons_self)).trans ((List.Perm.of_eq ?_).trans (g'.am _ (h2 _ List.mem_cons_self)).symm)
   congr 1
   refine List.filter_congr fun i _=>?_
   exact decide_eq_decide.mpr (by show (_/\_)↔(_/\_);rw [hr.1,hr.2])
 exact f p (fun _ h=>h) fun _ h=>h
theorem TZ (hm:0≤m) (g:Gd m its bs) {t a:Int}(h:∀b∈bs,b.2.1+m<t):Gd m (its++[(t,a)]) (bs++[(t,t,[a])]):=by
 have far:∀i∈its,i.1<t:=fun i hi=>by
  obtain ⟨b,hb,_,h2⟩:=g.cov i hi
  have:=h b hb
  omega
 have mem:∀{i:Int×Int},i∈its++[(t,a)]→i∈its\/i=(t,a):=fun h=>(List.mem_append.mp h).imp id List.mem_singleton.mp
 have memB:∀{b:Bk},b∈bs++[(t,t,[a])]→b∈bs\/b=(t,t,[a]):=fun h=>(List.mem_append.mp h).imp id List.mem_singleton.mp
 have last:(t,a)∈its++[(t,a)]:=List.mem_append_right _ (List.mem_singleton.mpr rfl)
 refine ⟨List.pairwise_append.mpr ⟨g.ap,List.pairwise_singleton _ _,fun x hx y hy=>by rw [List.mem_singleton.mp hy];exact h x hx⟩,fun b hb=>?_,fun i hi=>?_,fun b hb=>?_,fun b hb=>?_,fun b hb=>?_,fun b hb i hi hin hlt=>?_⟩
 ·rw [List.filter_append,List.map_append]
  rcases memB hb with hb|rfl
  ·have:=h b hb
   rw [List.filter_cons,if_neg (fun q=>by have:=(of_decide_eq_true q).2;have:t≤b.2.1:=this;omega)]
   simpa using g.am b hb
  ·have e:(its.filter fun i=>decide (inB (t,t,[a]) i.1))=[]:=List.filter_eq_nil_iff.mpr fun i hi q=>by
    have:=far i hi
    have:t≤i.1:=(of_decide_eq_true q).1
    omega
   rw [e,List.filter_cons,if_pos (decide_eq_true (show inB (t,t,[a]) t from ⟨Int.le_refl _,Int.le_refl _⟩))]
   exact List.Perm.refl _
 ·rcases mem hi with hi|rfl
  ·obtain ⟨b,hb,q⟩:=g.cov i hi
   exact ⟨b,List.mem_append_left _ hb,q⟩
  ·exact ⟨_,List.mem_append_right _ (List.mem_singleton.mpr rfl),Int.le_refl _,Int.le_refl _⟩
 ·rcases memB hb with hb|rfl
  ·obtain ⟨i,hi,e⟩:=g.lo b hb
   exact ⟨i,List.mem_append_left _ hi,e⟩
  ·exact ⟨_,last,rfl⟩
 ·rcases memB hb with hb|rfl
  ·obtain ⟨i,hi,e⟩:=g.hi b hb
   exact ⟨i,List.mem_append_left _ hi,e⟩
  ·exact ⟨_,last,rfl⟩
 ·rcases memB hb with hb|rfl
  ·exact g.le b hb
  ·exact Int.le_refl _
 ·rcases memB hb with hb|rfl
  ·rcases mem hi with hi|rfl
   ·obtain ⟨j,hj,q⟩:=g.ch b hb i hi hin hlt
    exact ⟨j,List.mem_append_left _ hj,q⟩
   ·have:=h b hb
    have:t≤b.2.1:=hin.2
    omega
  ·have h1:t≤i.1:=hin.1
   have h2:i.1<t:=hlt
   omega
theorem Tb (hm:0≤m) {f l:Int}{ns:List Int}(g:Gd m its (bs++[(f,l,ns)])) {t a:Int}(hall:∀i∈its,i.1≤t) (hn:t≤l+m):Gd m (its++[(t,a)]) (bs++[(f,t,ns++[a])]):=by
 have mB:(f,l,ns)∈bs++[(f,l,ns)]:=List.mem_append_right _ (List.mem_singleton.mpr rfl)
 have mb:∀{b:Bk},b∈bs→b∈bs++[(f,l,ns)]:=fun h=>List.mem_append_left _ h
 have hfl:f≤l:=g.le _ mB
 have hlt:l≤t:=by
  obtain ⟨i,hi,e⟩:=g.hi _ mB
  have:=hall i hi
  have e:i.1=l:=e
  omega
 obtain ⟨p1,_,p3⟩:=List.pairwise_append.mp g.ap
 have ahead:∀b∈bs,b.2.1+m<f:=fun b hb=>p3 b hb _ (List.mem_singleton.mpr rfl)
 have inl:∀i∈its,f≤i.1→i.1≤l:=fun i hi h=>by
  obtain ⟨b,hb,_,h2⟩:=g.cov i hi
  rcases List.mem_append.mp hb with hb|hb
  ·have:=ahead b hb;omega
  ·rw [List.mem_singleton.mp hb] at h2;exact h2
 have mem:∀{i:Int×Int},i∈its++[(t,a)]→i∈its\/i=(t,a):=fun h=>(List.mem_append.mp h).imp id List.mem_singleton.mp
 have memB:∀{b:Bk},b∈bs++[(f,t,ns++[a])]→b∈bs\/b=(f,t,ns++[a]):=fun h=>(List.mem_append.mp h).imp id List.mem_singleton.mp
 have last:(t,a)∈its++[(t,a)]:=List.mem_append_right _ (List.mem_singleton.mpr rfl)
 refine ⟨List.pairwise_append.mpr ⟨p1,List.pairwise_singleton _ _,fun x hx y hy=>by rw [List.mem_singleton.mp hy];exact ahead x hx⟩,fun b hb=>?_,fun i hi=>?_,fun b hb=>?_,fun b hb=>?_,fun b hb=>?_,fun b hb i hi hin hlt'=>?_⟩
 ·rw [List.filter_append,List.map_append]
  rcases memB hb with hb|rfl
  ·have:=ahead b hb
   rw [List.filter_cons,if_neg (fun q=>by have:=(of_decide_eq_true q).2;have:t≤b.2.1:=this;omega)]
   simpa using g.am b (mb hb)
  ·rw [List.filter_cons,if_pos (decide_eq_true (show inB (f,t,ns++[a]) t from ⟨by show f≤t;omega,Int.le_refl _⟩))]
   refine List.Perm.append ((g.am _ mB).trans (List.Perm.of_eq ?_)) (List.Perm.refl _)
   congr 1
   refine List.filter_congr fun i hi=>decide_eq_decide.mpr ⟨fun h=>⟨h.1,by have:i.1≤l:=h.2;show i.1≤t;omega⟩,fun h=>⟨h.1,inl i hi h.1⟩⟩
 ·rcases mem hi with hi|rfl
  ·obtain ⟨b,hb,q⟩:=g.cov i hi
   rcases List.mem_append.mp hb with hb|hb
   ·exact ⟨b,List.mem_append_left _ hb,q⟩
   ·rw [List.mem_singleton.mp hb] at q
    exact ⟨_,List.mem_append_right _ (List.mem_singleton.mpr rfl),q.1,hall i hi⟩
  ·exact ⟨_,List.mem_append_right _ (List.mem_singleton.mpr rfl),by show f≤t;omega,Int.le_refl _⟩
 ·rcases memB hb with hb|rfl
  ·obtain ⟨i,hi,e⟩:=g.lo b (mb hb)
   exact ⟨i,List.mem_append_left _ hi,e⟩
  ·obtain ⟨i,hi,e⟩:=g.lo _ mB
   exact ⟨i,List.mem_append_left _ hi,e⟩
 ·rcases memB hb with hb|rfl
  ·obtain ⟨i,hi,e⟩:=g.hi b (mb hb)
   exact ⟨i,List.mem_append_left _ hi,e⟩
  ·exact ⟨_,last,rfl⟩
 ·rcases memB hb with hb|rfl
  ·exact g.le b (mb hb)
  ·show f≤t;omega
 ·rcases memB hb with hb|rfl
  ·rcases mem hi with hi|rfl
   ·obtain ⟨j,hj,q⟩:=g.ch b (mb hb) i hi hin hlt'
    exact ⟨j,List.mem_append_left _ hj,q⟩
   ·have:=ahead b hb
    have:t≤b.2.1:=hin.2
    omega
  ·rcases mem hi with hi|rfl
   ·have h1:f≤i.1:=hin.1
    have h2:=inl i hi h1
    have h3:i.1<t:=hlt'
    rcases Int.lt_or_eq_of_le h2 with h|h
    ·obtain ⟨j,hj,q⟩:=g.ch _ mB i hi ⟨h1,h2⟩ h
     exact ⟨j,List.mem_append_left _ hj,q⟩
    ·exact ⟨_,last,h3,by show t≤i.1+m;omega⟩
   ·have:t<t:=hlt'
    omega
theorem filter_or {α:Type}(p q:α→Bool):∀(l:List α),(∀x∈l,¬ (p x=true/\q x=true))→(l.filter p++l.filter q).Perm (l.filter fun x=>p x||q x)
 | [],_=>.nil
 | x::l,h=>by
  have ih:=filter_or p q l fun y hy=>h y (List.mem_cons_of_mem _ hy)
  have hx:=h x List.mem_cons_self
  simp only [List.filter_cons]
  cases hp:p x with
  | true =>
   cases hq:q x with
   | true=>exact absurd ⟨hp,hq⟩ hx
   | false=>simpa using ih
  | false =>
   cases hq:q x with
   | true=>simpa using (List.perm_middle.trans (ih.cons x))
   | false=>simpa using ih
theorem IA (hm:0≤m) (its:Bq):∀{bs:List Bk},Apart m bs→(∀b∈bs,b.1≤b.2.1)→(bs.flatMap fun b=>its.filter fun i=>decide (inB b i.1)).Perm (its.filter fun i=>bs.any fun b=>decide (inB b i.1))
 | [],_,_=>by simp
 | b::bs,h,hl=>by
  obtain ⟨h1,h2⟩:=List.pairwise_cons.mp h
  rw [List.flatMap_cons]
  refine ((List.Perm.refl _).append (IA hm its h2 fun c hc=>hl c (List.mem_cons_of_mem _ hc))).trans ((filter_or _ _ its fun i hi=>?_).trans (List.Perm.of_eq ?_))
  ·rintro ⟨p,q⟩
   obtain ⟨c,hc,e⟩:=List.any_eq_true.mp q
   have:=h1 c hc
   have p:=of_decide_eq_true p
   have e:=of_decide_eq_true e
   have:=p.2
   have:=e.1
   omega
  ·refine List.filter_congr fun i _=>?_
   rw [List.any_cons]
theorem JC {f g:Bk→List Int}:∀{l:List Bk},(∀x∈l,(f x).Perm (g x))→(l.flatMap f).Perm (l.flatMap g)
 | [],_=>.nil
 | x::l,h=>by
  rw [List.flatMap_cons,List.flatMap_cons]
  exact (h x List.mem_cons_self).append (JC fun y hy=>h y (List.mem_cons_of_mem _ hy))
def mts (m t:Int) (b:Bk):Bool:=decide (b.1-t≤m)&&decide (t-b.2.1≤m)
theorem Df {t:Int}{b:Bk}:mts m t b=true↔b.1-t≤m/\t-b.2.1≤m:=by
 unfold mts
 rw [Bool.and_eq_true,decide_eq_true_eq,decide_eq_true_eq]
theorem Ru (g:Gd m its bs) {c:Bk}(hc:c∈bs) {t:Int}(h:t<c.2.1):∀(n:Nat) (y:Int×Int),y∈its→(t-y.1).toNat=n→c.1≤y.1→y.1≤t→∃j∈its,t<j.1/\j.1≤t+m:=by
 intro n
 induction n using Nat.strongRecOn with
 | ind n ih =>
  intro y hy hn h1 h2
  obtain ⟨j,hj,j1,j2⟩:=g.ch c hc y hy ⟨h1,by omega⟩ (by omega)
  by_cases q:t<j.1
  ·exact ⟨j,hj,q,by omega⟩
  ·exact ih ((t-j.1).toNat) (by omega) j hj rfl (by omega) (by omega)
theorem QW (hm:0≤m) (g:Gd m its bs) {t S E:Int}(hS:S=t\/∃b∈bs,mts m t b=true/\b.1=S) (hE:E=t\/∃b∈bs,mts m t b=true/\b.2.1=E) {r:Bk}(hr:r∈bs) (nr:mts m t r=false):(r.2.1+m<S/\r.2.1+m<t)\/(E+m<r.1/\t+m<r.1):=by
 have nr':¬ (r.1-t≤m/\t-r.2.1≤m):=fun h=>by rw [Df.mpr h] at nr;cases nr
 have lr:=g.le r hr
 by_cases h:t-r.2.1≤m
 ·refine .inr ⟨?_,by omega⟩
  rcases hE with e|⟨b,hb,mb,e⟩
  ·omega
  ·have mb:=Df.mp mb
   have lb:=g.le b hb
   rcases Bg g.ap hb hr with q|q|q
   ·rw [q] at mb;omega
   ·omega
   ·omega
 ·refine .inl ⟨?_,by omega⟩
  rcases hS with e|⟨b,hb,mb,e⟩
  ·omega
  ·have mb:=Df.mp mb
   have lb:=g.le b hb
   rcases Bg g.ap hb hr with q|q|q
   ·rw [q] at mb;omega
   ·omega
   ·omega
theorem TY (hm:0≤m) (g:Gd m its bs) {t a S E:Int}{ns:List Int}{L:List Bk}(hS:S=t\/∃b∈bs,mts m t b=true/\b.1=S) (hE:E=t\/∃b∈bs,mts m t b=true/\b.2.1=E)
  (lS:S≤t) (lE:t≤E) (mS:∀b∈bs,mts m t b=true→S≤b.1) (mE:∀b∈bs,mts m t b=true→b.2.1≤E) (hns:ns.Perm ([a]++(bs.filter (mts m t)).flatMap (·.2.2)))
  (hL:∀x,x∈L↔x=(S,E,ns)\/(x∈bs/\mts m t x=false)) (hA:Apart m L):Gd m (its++[(t,a)]) L:=by
 have sep:=fun {r:Bk}=>QW (r:=r) hm g hS hE
 have mB:(S,E,ns)∈L:=(hL _).mpr (.inl rfl)
 have memI:∀{i:Int×Int},i∈its++[(t,a)]→i∈its\/i=(t,a):=fun h=>(List.mem_append.mp h).imp id List.mem_singleton.mp
 have lft:∀{i:Int×Int},i∈its→i∈its++[(t,a)]:=fun h=>List.mem_append_left _ h
 have last:(t,a)∈its++[(t,a)]:=List.mem_append_right _ (List.mem_singleton.mpr rfl)
 have hit:∀b∈bs,mts m t b=true→∀x,inB b x→S≤x/\x≤E:=fun b hb mb x hx=>by
  have:=mS b hb mb
  have:=mE b hb mb
  have:=hx.1
  have:=hx.2
  omega
 have miss:∀r∈bs,mts m t r=false→∀x,inB r x→¬ (S≤x/\x≤E):=fun r hr nr x hx h=>by
  have:=hx.1
  have:=hx.2
  rcases sep hr nr with q|q <;> omega
 refine ⟨hA,fun b hb=>?_,fun i hi=>?_,fun b hb=>?_,fun b hb=>?_,fun b hb=>?_,fun b hb i hi hin hlt=>?_⟩
 ·rw [List.filter_append,List.map_append]
  rcases (hL b).mp hb with rfl|⟨hb,nb⟩
  ·rw [List.filter_cons,if_pos (decide_eq_true (show inB (S,E,ns) t from ⟨lS,lE⟩))]
   refine hns.trans (List.perm_append_comm.trans (List.Perm.append ?_ (List.Perm.refl _)))
   refine (JC fun b hb=>g.am b (List.mem_filter.mp hb).1).trans ?_
   rw [←List.map_flatMap]
   refine ((IA hm its (g.ap.sublist List.filter_sublist) fun b hb=>g.le b (List.mem_filter.mp hb).1).trans (List.Perm.of_eq ?_)).map _
   refine List.filter_congr fun i hi=>?_
   obtain ⟨b,hb,q⟩:=g.cov i hi
   cases mb:mts m t b with
   | true =>
    rw [decide_eq_true (show inB (S,E,ns) i.1 from hit b hb mb _ q)]
    exact List.any_eq_true.mpr ⟨b,List.mem_filter.mpr ⟨hb,mb⟩,decide_eq_true q⟩
   | false =>
    rw [decide_eq_false (show ¬ inB (S,E,ns) i.1 from miss b hb mb _ q)]
    rw [List.any_eq_false]
    intro c hc h
    obtain ⟨hc1,hc2⟩:=List.mem_filter.mp hc
    have:=hit c hc1 hc2 _ (of_decide_eq_true h)
    exact miss b hb mb _ q this
  ·have:¬ inB b t:=fun h=>by
    have:=Df.mpr (show b.1-t≤m/\t-b.2.1≤m from ⟨by have:=h.1;omega,by have:=h.2;omega⟩)
    rw [nb] at this
    cases this
   rw [List.filter_cons,if_neg (fun q=>this (of_decide_eq_true q))]
   simpa using g.am b hb
 ·rcases memI hi with hi|rfl
  ·obtain ⟨b,hb,q⟩:=g.cov i hi
   cases mb:mts m t b with
   | true=>exact ⟨_,mB,hit b hb mb _ q⟩
   | false=>exact ⟨b,(hL b).mpr (.inr ⟨hb,mb⟩),q⟩
  ·exact ⟨_,mB,lS,lE⟩
 ·rcases (hL b).mp hb with rfl|⟨hb,nb⟩
  ·rcases hS with e|⟨b,hb,_,e⟩
   ·exact ⟨_,last,e.symm⟩
   ·obtain ⟨i,hi,ei⟩:=g.lo b hb
    exact ⟨i,lft hi,ei.trans e⟩
  ·obtain ⟨i,hi,ei⟩:=g.lo b hb
   exact ⟨i,lft hi,ei⟩
 ·rcases (hL b).mp hb with rfl|⟨hb,nb⟩
  ·rcases hE with e|⟨b,hb,_,e⟩
   ·exact ⟨_,last,e.symm⟩
   ·obtain ⟨i,hi,ei⟩:=g.hi b hb
    exact ⟨i,lft hi,ei.trans e⟩
  ·obtain ⟨i,hi,ei⟩:=g.hi b hb
   exact ⟨i,lft hi,ei⟩
 ·rcases (hL b).mp hb with rfl|⟨hb,nb⟩
  ·show S≤E;omega
  ·exact g.le b hb
 ·rcases (hL b).mp hb with rfl|⟨hb,nb⟩
  ·have hlt:i.1<E:=hlt
   rcases memI hi with hi|rfl
   ·obtain ⟨b,hb,q⟩:=g.cov i hi
    have mb:mts m t b=true:=by
     cases mb:mts m t b with
     | true=>rfl
     | false=>exact absurd hin (miss b hb mb _ q)
    by_cases hl:i.1<b.2.1
    ·obtain ⟨j,hj,r⟩:=g.ch b hb i hi q hl
     exact ⟨j,lft hj,r⟩
    ·have hq2:=q.2
     have hq:=Df.mp mb
     by_cases ht:i.1<t
     ·exact ⟨_,last,ht,by show t≤i.1+m;omega⟩
     ·rcases hE with e|⟨c,hc,mc,e⟩
      ·omega
      ·have mc':=Df.mp mc
       have hcl:=g.le c hc
       rcases Bg g.ap hb hc with w|w|w
       ·rw [w] at hl;omega
       ·omega
       ·have:=g.le b hb;omega
   ·rcases hE with e|⟨c,hc,mc,e⟩
    ·have:t<E:=hlt
     omega
    ·have mc':=Df.mp mc
     have h1:t<E:=hlt
     by_cases hct:c.1≤t
     ·obtain ⟨y,hy,ey⟩:=g.lo c hc
      obtain ⟨j,hj,r⟩:=Ru (t:=t) g hc (by omega) _ y hy rfl (by omega) (by omega)
      exact ⟨j,lft hj,r⟩
     ·obtain ⟨y,hy,ey⟩:=g.lo c hc
      exact ⟨y,lft hy,by show t<y.1;omega,by show y.1≤t+m;omega⟩
  ·rcases memI hi with hi|rfl
   ·obtain ⟨j,hj,r⟩:=g.ch b hb i hi hin hlt
    exact ⟨j,lft hj,r⟩
   ·have:=Df.mpr (show b.1-t≤m/\t-b.2.1≤m from ⟨by have:b.1≤t:=hin.1;omega,by have:t≤b.2.1:=hin.2;omega⟩)
    rw [nb] at this
    cases this
end
open Wn (Tal GJ GK CQ D6 D1)
def Q5:Sp:=fun vs H Q _=>∃a b c m:Int,vs=[.int a,.int b,.int c,.int m]/\Q (.bl (decide (a-c≤m)&&decide (c-(b-m-1)≤m))) H
theorem Px (T:Tx K mg ad):A9 P w K mg base CX0 1 ad.Eg ad.FZ ["start", "end", "time", "most"] Q5:=by
 refine T.Dm.ok LW (fun vs H Q E h=>?_) (fun cdv A outer s H vs Q E hr h=>?_)
 ·obtain ⟨a,b,c,m,rfl,_⟩:=h
  rfl
 ·obtain ⟨a,b,c,m,rfl,k⟩:=h
  have nd:=LW.nd
  refine ⟨_,(AO (AX (i:=4) nd rfl (Or.inl rfl) (AL C8 (AL C8 (pv 1) (pv 3)) AD))
    (AJ (Ae (Sw (EU NY (AL C8 (pv 0) (pv 2)) (pv 3) (Ak _)) (Ph (EU NY (AL C8 (pv 2) (pv 4)) (pv 3) (Ak _))))))),?_⟩
  refine ⟨_,rfl,_,rfl,_,_,rfl,rfl,_,_,rfl,rfl,_,rfl,_,rfl,_,_,rfl,rfl,_,rfl,_,_,rfl,rfl,_,rfl,Rq (fun e=>?_) fun e=>?_⟩
  ·rw [e,Bool.true_and] at k
   exact ⟨_,rfl,_,rfl,_,_,rfl,rfl,_,rfl,_,_,rfl,rfl,k⟩
  ·rw [e,Bool.false_and] at k
   exact k
def Uq (K:W.Frag):Sp:=fun vs H Q _=>∃(a:Addr) (ns:List Int) (k:Int),vs=[.ref a,.int k]/\SqL K H a (ns.map V.int)/\0≤k/\ns.length≤63/\∀r:Int,Q (.int r) H
theorem UN (T:Tx K mg ad):A9 P w K mg base CX0 1 ad.CH ad.Cp ["_law_script", "_law_k"] (Uq K):=by
 refine T.BU.ok Hn (fun vs H Q E h=>?_) (fun cdv A outer s H vs Q E hr h=>?_)
 ·obtain ⟨a,ns,k,rfl,_⟩:=h
  rfl
 ·obtain ⟨a,ns,i,rfl,hS,h0,hl,k⟩:=h
  have nd:=Hn.nd
  refine ⟨_,(AO (Be (Ah Pq (pv 1) (Ab (BB (K:=K)) (by rfl) T.Er PySem.boot_len (AA (pv 0) AE)) (Ak _))
    (AJ (Ae (AN (Al (K:=K)) (pv 0) (pv 1) (fun _ _=>rfl))))
    A4)
    (AJ (Ae AD))),?_⟩
  refine ⟨_,rfl,_,rfl,a,_,rfl,.inl hS,_,_,rfl,rfl,_,rfl,JS (fun e=>?_) fun e=>k 0⟩
  rw [List.length_map] at e
  have hlt:i.toNat<ns.length:=by omega
  refine ⟨_,rfl,_,rfl,a,_,_,.int ns[i.toNat],rfl,rfl,hS,?_,k _⟩
  have q:=AG (xs:=ns.map V.int) (j:=i.toNat) (v:=.int ns[i.toNat]) (by rw [List.getElem?_map,List.getElem?_eq_getElem hlt];rfl)
  rw [Int.toNat_of_nonneg h0] at q
  exact q
end Gp
namespace Gp
open Wn (Tal GJ GK CQ D6 D1)
def Tj (m:Int) (H:Hp) (x:V) (p:Bk):Prop:=∃(a q:Addr) (ts:List V),x=.ref a/\H a=some (.tup [.int p.1,.int (p.2.1+m+1),.ref q])/\H q=some (.tup ts)/\Tal p.2.2 ts
def Pcs (m:Int) (H:Hp) (xs:List V) (ps:List Bk):Prop:=Paired (Tj m H) xs ps
theorem Pcs.keep {m:Int}{H H':Hp}{xs:List V}{ps:List Bk}(h:Pcs m H xs ps) (t:Tp H H'):Pcs m H' xs ps:=Au (fun x p ⟨a,q,ts,e,e1,e2,e3⟩=>⟨a,q,ts,e,t _ _ e1,t _ _ e2,e3⟩) h
theorem Pcs.len {m:Int}{H:Hp}{xs:List V}{ps:List Bk}(h:Pcs m H xs ps):xs.length=ps.length:=(AQ h).1
theorem Pcs.ix {m:Int}{H:Hp}{xs:List V}{ps:List Bk}(h:Pcs m H xs ps) {i:Nat}{x:V}(e:xs[i]?=some x):∃(p:Bk) (a q:Addr) (ts:List V),ps[i]?=some p/\x=.ref a/\H a=some (.tup [.int p.1,.int (p.2.1+m+1),.ref q])/\H q=some (.tup ts)/\Tal p.2.2 ts:=by
 obtain ⟨l,f⟩:=AQ h
 have hi:=(List.getElem?_eq_some_iff.mp e).1
 have e2:=List.getElem?_eq_getElem (show i<ps.length by omega)
 obtain ⟨a,q,ts,r⟩:=f i _ _ e e2
 exact ⟨_,a,q,ts,e2,r⟩
def Up (ps:List Bk):Prop:=ps.Pairwise fun a b=>a.1<b.1
def O9:Sp:=fun vs H Q _=>∃(l q:Addr) (xs ts:List V) (ps:List Bk) (m S E:Int) (ns:List Int),vs=[.ref l,.int S,.int (E+m+1),.ref q]/\H l=some (.lst xs)/\Pcs m H xs ps/\Up ps/\ps.length≤10000/\H q=some (.tup ts)/\Tal ns ts/\(∀p∈ps,p.1≠S) /\
 ∀H' r xs' n,AH H H'→H r=none→H' r=some (.lst xs')→n≤ps.length→(∀(i:Nat) p,i<n→ps[i]?=some p→p.1<S)→(∀(i:Nat) p,n≤i→ps[i]?=some p→¬ p.1<S)→Pcs m H' xs' (ps.take n++[(S,E,ns)]++ps.drop n)→Q (.ref r) H'
def trG (m:Int) (p:Bk):Wn.P3:=(p.1,p.2.1+m+1,p.2.2)
theorem Kr (T:Tx K mg ad):A9 P w K mg base CX0 2 ad.BA ad.BO ["pieces", "start", "end", "tally"] O9 :=
 (Wn.NZ T).imp fun vs H Q E ⟨l,q,xs,ts,ps,m,S,En,ns,e,el,hw,up,hl,eq,tal,hno,k⟩=>by
  have to:∀{i:Nat} {p:Bk},ps[i]?=some p→(ps.map (trG m))[i]?=some (trG m p):=fun ep=>by rw [List.getElem?_map,ep];rfl
  refine ⟨l,q,xs,ts,ps.map (trG m),S,En+m+1,ns,e,el,Wn.NX hw,List.pairwise_map.mpr up,by rw [List.length_map];exact hl,eq,tal,fun H' r xs' n p _ _ _ _ ep es _=>?_,fun H' r xs' n s h0 er hn b1 b2 _ hp=>?_⟩
  ·rw [List.getElem?_map] at ep
   obtain ⟨p0,ep0,rfl⟩:=Option.map_eq_some_iff.mp ep
   exact absurd es (hno p0 (List.mem_of_getElem? ep0))
  ·rw [List.length_map] at hn
   refine k H' r xs' n s h0 er hn (fun i p hi ep=>b1 i (trG m p) hi (to ep)) (fun i p hi ep=>b2 i (trG m p) hi (to ep)) ?_
   rw [←List.map_take,←List.map_drop] at hp
   refine Wn.G6 (f:=trG m) ?_
   rw [List.map_append,List.map_append]
   exact hp
end Gp
namespace Gp
open Wn (Tal GJ GK CQ D6 D1)
def T9:Sp:=fun vs H Q _=>∃(l:Addr) (xs:List V) (its:Bq) (bs:List Bk) (t a m:Int),vs=[.ref l,.int t,.int a,.int m]/\0≤m/\H l=some (.lst xs)/\Pcs m H xs bs/\Gd m its bs/\bs.length≤1000 /\
 ∀H' r xs' cs,AH H H'→H r=none→H' r=some (.lst xs')→Pcs m H' xs' cs→Gd m (its++[(t,a)]) cs→cs.length≤bs.length+1→(∀b∈cs,b∈bs\/(t≤b.2.1/\(b.1=t\/∃c∈bs,c.1=b.1)))→Q (.ref r) H'
theorem UT {m:Int}{its:Bq}{bs:List Bk}(hm:0≤m) (g:Gd m its bs):Up bs:=by
 have:=List.Pairwise.and_mem.mp g.ap
 exact this.imp fun {a b} ⟨ha,hb,h⟩=>by have:=g.le a ha;omega
theorem Bn {α:Type}{p:α→Bool}{l:List α}{n:Nat}{x:α}(e:l[n]?=some x):(l.take (n+1)).filter p=(l.take n).filter p++(if p x=true then [x] else []):=by
 rw [List.take_add_one,e,List.filter_append]
 congr 1
 show [x].filter p=_
 rw [List.filter_cons]
 cases p x <;> rfl
theorem S9 (T:Tx K mg ad):A9 P w K mg base CX0 3 ad.Cv ad.DD ["pieces", "time", "amount", "most"] T9:=by
 have G_meets:=Px (P:=P) (w:=w) (base:=base) T
 have G_tally_of:=CQ (P:=P) (w:=w) (base:=base) T
 have G_added:=D6 (P:=P) (w:=w) (base:=base) T
 have G_put_window:=Kr (P:=P) (w:=w) (base:=base) T
 refine T.Cw.ok Im (fun vs H Q E h=>?_) (fun cdv A outer s H vs Q E hr h=>?_)
 ·obtain ⟨l,xs,its,bs,t,a,m,rfl,_⟩:=h
  rfl
 ·obtain ⟨l,xs,its,bs,t,a,m,rfl,hm,el,hw,gd,hl,k⟩:=h
  have nd:=Im.nd
  refine ⟨_,(AV (FQ (i:=4) (osc:=AM Cj) [("time", 1),("most", 3)] nd rfl (Or.inl rfl) rfl (Ai (K:=K) (pv 0)) rfl rfl (by decide +kernel) (by decide +kernel) (by decide +kernel) ⟨rfl,rfl,rfl,rfl,trivial⟩ rfl (by decide +kernel) (fun _ _ _ _=>DY (DG (Af G_meets (hr.mono (by decide)) (by rfl) T.Ng T.Dm.kp T.Nt .nil As (AA (AN (AI (K:=K)) (pv 0) AD (fun _ _=>rfl)) (AA (AN (AI (K:=K)) (pv 0) AD (fun _ _=>rfl)) (AA (pv 1) (AA (pv 2) AE))))))) (fun _ _ _ _=>(pv 0)))
    (AV (FQ (i:=5) (osc:=AM Cj) [("time", 1),("most", 3)] nd rfl (Or.inl rfl) rfl (Ai (K:=K) (pv 0)) rfl rfl (by decide +kernel) (by decide +kernel) (by decide +kernel) ⟨rfl,rfl,rfl,rfl,trivial⟩ rfl (by decide +kernel) (fun _ _ _ _=>DY (ES (DG (Af G_meets (hr.mono (by decide)) (by rfl) T.Ng T.Dm.kp T.Nt .nil As (AA (AN (AI (K:=K)) (pv 0) AD (fun _ _=>rfl)) (AA (AN (AI (K:=K)) (pv 0) AD (fun _ _=>rfl)) (AA (pv 1) (AA (pv 2) AE)))))))) (fun _ _ _ _=>(pv 0)))
    (AV (AX (i:=6) nd rfl (Or.inl rfl) (Ab (HQ (K:=K) rfl) (by rfl) T.Ew PyProof.Rows.boot_min (AA (AL FD (Ax (AA (pv 1) AE)) (BN (osc:=AM Cj) [] rfl (Ai (K:=K) (pv 4)) rfl rfl (by decide +kernel) (by decide +kernel) (by decide +kernel) trivial rfl (by decide +kernel) (fun _ _ _ _=>B9) (fun _ _ _ _=>(AN (AI (K:=K)) (pv 0) AD (fun _ _=>rfl))))) AE)))
    (AV (AX (i:=7) nd rfl (Or.inl rfl) (Ab (HR (K:=K) rfl) (by rfl) T.Fg PyProof.Rows.boot_max (AA (AL FD (Ax (AA (AL BF (AL BF (pv 1) (pv 3)) AD) AE)) (BN (osc:=AM Cj) [] rfl (Ai (K:=K) (pv 4)) rfl rfl (by decide +kernel) (by decide +kernel) (by decide +kernel) trivial rfl (by decide +kernel) (fun _ _ _ _=>B9) (fun _ _ _ _=>(AN (AI (K:=K)) (pv 0) AD (fun _ _=>rfl))))) AE)))
    (AV (AX (i:=8) nd rfl (Or.inl rfl) (Af G_tally_of (hr.mono (by decide)) (by rfl) T.JP T.Bs.kp T.Je .nil As (AA (pv 2) AE)))
    (AV (Dq PassesOwn.never rfl (Ai (K:=K) (pv 4)) (BM (i:=9) nd rfl (Or.inl rfl))
    (AJ (AX (i:=8) nd rfl (Or.inl rfl) (Af G_added (hr.mono (by decide)) (by rfl) T.Nh T.Dp.kp T.Nu .nil As (AA (pv 8) (AA (AN (AI (K:=K)) (pv 9) AD (fun _ _=>rfl)) AE))))))
    (AJ (Ae (Af G_put_window (hr.mono (by decide)) (by rfl) T.GY T.BP.kp T.Gk .nil As (AA (pv 5) (AA (pv 6) (AA (pv 7) (AA (pv 8) AE))))))))))))),?_⟩
  have sz:sizeLine=16777216:=sizeLine_eq
  have i0:∀{a b c:V},atI [a,b,c] 0=some a:=AG (j:=0) rfl
  have i1:∀{a b c:V},atI [a,b,c] 1=some b:=AG (j:=1) rfl
  have i2:∀{a b c:V},atI [a,b,c] 2=some c:=AG (j:=2) rfl
  have lx:=hw.len
  have hmt:∀p:Bk,(decide (p.1-t≤m)&&decide (t-(p.2.1+m+1-m-1)≤m))=mts m t p:=fun p=>by
   unfold mts
   rw [show p.2.1+m+1-m-1=p.2.1 by omega]
  refine fun _ _ _ _ z1=>⟨_,rfl,l,rfl,⟨_,SqL.of el⟩,?_⟩
  refine Bw (K:=K) (xs:=xs) (fun n τ acc H'=>(∃o,τ=[o,some (.int t),some (.int m)])/\H'=H/\Pcs m H acc ((bs.take n).filter (mts m t))) (by omega) ⟨⟨none,rfl⟩,rfl,.nil⟩ (fun n τ acc H' ⟨_,e,_⟩=>by rw [e];exact SqL.of el) ?_ ?_
  ·rintro n y τ acc H' R1 R0 hy _ ⟨⟨o,rfl⟩,rfl,hp⟩ k1 k0
   obtain ⟨p,b,q,ts,ep,rfl,eb,eq,tal⟩:=hw.ix hy
   refine ⟨_,rfl,b,_,_,_,rfl,rfl,SqT.of eb,i0,_,rfl,b,_,_,_,rfl,rfl,SqT.of eb,i1,_,rfl,_,rfl,_,_,_,_,rfl,?_⟩
   rw [hmt]
   have fs:=Bn (p:=mts m t) ep
   cases hb:mts m t p with
   | true =>
    rw [hb,if_pos rfl] at fs
    exact ⟨_,rfl,QP ⟨_,rfl,k1 _ _ _ ⟨⟨_,rfl⟩,rfl,by rw [fs];exact Ag hp (.cons ⟨b,q,ts,rfl,eb,eq,tal⟩ .nil)⟩⟩⟩
   | false =>
    rw [hb,if_neg Bool.false_ne_true,List.append_nil] at fs
    exact ⟨_,rfl,D7 (k0 _ _ ⟨⟨_,rfl⟩,rfl,by rw [fs];exact hp⟩)⟩
  rintro τ xm H' lxm ⟨_,rfl,hpm⟩ lm hlm
  rw [List.take_of_length_le (by omega)] at hpm
  have s1:=AH.AW (o:=.lst xm) hlm
  have elm:(upd H' lm (.lst xm)) lm=some (.lst xm):=AB
  have hpm1:=hpm.keep s1.tp
  generalize upd H' lm (.lst xm)=H1 at s1 elm hpm1 ⊢
  have el1:=s1 _ _ el
  have hw1:=hw.keep s1.tp
  refine z1 _ _ fun _ _ _ _ z2=>⟨_,rfl,l,rfl,⟨_,SqL.of el1⟩,?_⟩
  refine Bw (K:=K) (xs:=xs) (fun n τ acc H'=>(∃o,τ=[o,some (.int t),some (.int m)])/\H'=H1/\Pcs m H1 acc ((bs.take n).filter fun p=>!mts m t p)) (by omega) ⟨⟨none,rfl⟩,rfl,.nil⟩ (fun n τ acc H' ⟨_,e,_⟩=>by rw [e];exact SqL.of el1) ?_ ?_
  ·rintro n y τ acc H2 R1 R0 hy _ ⟨⟨o,rfl⟩,rfl,hp⟩ k1 k0
   obtain ⟨p,b,q,ts,ep,rfl,eb,eq,tal⟩:=hw1.ix hy
   refine ⟨_,rfl,b,_,_,_,rfl,rfl,SqT.of eb,i0,_,rfl,b,_,_,_,rfl,rfl,SqT.of eb,i1,_,rfl,_,rfl,_,_,_,_,rfl,?_⟩
   rw [hmt]
   have fs:=Bn (p:=fun p=>!mts m t p) ep
   cases hb:mts m t p with
   | true =>
    rw [hb,if_neg (by decide),List.append_nil] at fs
    exact ⟨_,rfl,D7 (k0 _ _ ⟨⟨_,rfl⟩,rfl,by rw [fs];exact hp⟩)⟩
   | false =>
    rw [hb,if_pos (by decide)] at fs
    exact ⟨_,rfl,QP ⟨_,rfl,k1 _ _ _ ⟨⟨_,rfl⟩,rfl,by rw [fs];exact Ag hp (.cons ⟨b,q,ts,rfl,eb,eq,tal⟩ .nil)⟩⟩⟩
  rintro τ xr H2 lxr ⟨_,rfl,hpr⟩ lr hlr
  rw [List.take_of_length_le (by omega)] at hpr
  have s2:=AH.AW (o:=.lst xr) hlr
  have elr:(upd H2 lr (.lst xr)) lr=some (.lst xr):=AB
  have hpr2:=hpr.keep s2.tp
  have hpm2:=hpm1.keep s2.tp
  have elm2:=s2 _ _ elm
  have s02:=s1.trans s2
  generalize upd H2 lr (.lst xr)=H3 at s2 elr hpr2 hpm2 elm2 s02 ⊢
  have lmm:(bs.filter (mts m t)).length≤bs.length:=List.length_filter_le _ _
  have lxm2:xm.length≤1000:=by rw [hpm.len];omega
  refine z2 _ _ fun _ _ _ _ z3=>⟨_,rfl,Nat.le_of_ble_eq_true rfl,fun q1 hq1=>?_⟩
  have s3:=AH.AW (o:=.lst [.int t]) hq1
  have eq1:(upd H3 q1 (.lst [.int t])) q1=some (.lst [.int t]):=AB
  generalize upd H3 q1 (.lst [.int t])=H4 at s3 eq1 ⊢
  refine ⟨_,rfl,lm,rfl,⟨_,SqL.of (s3 _ _ elm2)⟩,?_⟩
  refine BR (K:=K) (xs:=xm) (fun n τ acc H'=>(∃o,τ=[o])/\H'=H4/\acc=((bs.filter (mts m t)).take n).map fun p=>V.int p.1) (by omega) ⟨⟨none,rfl⟩,rfl,rfl⟩ (fun n τ acc H' ⟨_,e,_⟩=>by rw [e];exact SqL.of (s3 _ _ elm2)) ?_ ?_
  ·rintro n y τ acc H5 R1 hy _ ⟨⟨o,rfl⟩,rfl,rfl⟩ k1
   obtain ⟨p,b,q,ts,ep,rfl,eb,eq,tal⟩:=(hpm2.keep s3.tp).ix hy
   exact ⟨_,rfl,b,_,_,_,rfl,rfl,SqT.of eb,i0,k1 _ _ _ ⟨⟨_,rfl⟩,rfl,by rw [List.take_add_one,ep,List.map_append];rfl⟩⟩
  rintro τ acc H5 _ ⟨_,rfl,rfl⟩ q2 hq2
  rw [List.take_of_length_le (by rw [hpm.len];exact Nat.le_refl _)]
  have s4:=AH.AW (o:=.lst ((bs.filter (mts m t)).map fun p=>V.int p.1)) hq2
  have eq2:(upd H5 q2 (.lst ((bs.filter (mts m t)).map fun p=>V.int p.1))) q2=some (.lst ((bs.filter (mts m t)).map fun p=>V.int p.1)):=AB
  generalize upd H5 q2 (.lst ((bs.filter (mts m t)).map fun p=>V.int p.1))=H6 at s4 eq2 ⊢
  refine ⟨q1,q2,_,_,rfl,rfl,s4 _ _ eq1,eq2,by simp;omega,fun q3 hq3=>?_⟩
  have s5:=AH.AW (o:=.lst ([V.int t]++(bs.filter (mts m t)).map fun p=>V.int p.1)) hq3
  have eq3:(upd H6 q3 (.lst ([V.int t]++(bs.filter (mts m t)).map fun p=>V.int p.1))) q3=some (.lst ((t::(bs.filter (mts m t)).map (·.1)).map V.int)):=by rw [AB,List.map_cons,List.map_map];rfl
  generalize upd H6 q3 (.lst ([V.int t]++(bs.filter (mts m t)).map fun p=>V.int p.1))=H7 at s5 eq3 ⊢
  refine ⟨q3,_,rfl,SqL.of eq3,by simp,fun S hS1 hS2=>?_⟩
  have s37:=s3.trans (s4.trans s5)
  refine z3 _ _ fun _ _ _ _ z4=>⟨_,rfl,_,rfl,_,_,rfl,rfl,_,_,rfl,rfl,Nat.le_of_ble_eq_true rfl,fun q4 hq4=>?_⟩
  have s6:=AH.AW (o:=.lst [.int (t+m+1)]) hq4
  have eq4:(upd H7 q4 (.lst [.int (t+m+1)])) q4=some (.lst [.int (t+m+1)]):=AB
  generalize upd H7 q4 (.lst [.int (t+m+1)])=H8 at s6 eq4 ⊢
  have s38:=s37.trans s6
  refine ⟨_,rfl,lm,rfl,⟨_,SqL.of (s38 _ _ elm2)⟩,?_⟩
  refine BR (K:=K) (xs:=xm) (fun n τ acc H'=>(∃o,τ=[o])/\H'=H8/\acc=((bs.filter (mts m t)).take n).map fun p=>V.int (p.2.1+m+1)) (by omega) ⟨⟨none,rfl⟩,rfl,rfl⟩ (fun n τ acc H' ⟨_,e,_⟩=>by rw [e];exact SqL.of (s38 _ _ elm2)) ?_ ?_
  ·rintro n y τ acc H9 R1 hy _ ⟨⟨o,rfl⟩,rfl,rfl⟩ k1
   obtain ⟨p,b,q,ts,ep,rfl,eb,eq,tal⟩:=(hpm2.keep s38.tp).ix hy
   exact ⟨_,rfl,b,_,_,_,rfl,rfl,SqT.of eb,i1,k1 _ _ _ ⟨⟨_,rfl⟩,rfl,by rw [List.take_add_one,ep,List.map_append];rfl⟩⟩
  rintro τ acc H9 _ ⟨_,rfl,rfl⟩ q5 hq5
  rw [List.take_of_length_le (by rw [hpm.len];exact Nat.le_refl _)]
  have s7:=AH.AW (o:=.lst ((bs.filter (mts m t)).map fun p=>V.int (p.2.1+m+1))) hq5
  have eq5:(upd H9 q5 (.lst ((bs.filter (mts m t)).map fun p=>V.int (p.2.1+m+1)))) q5=some (.lst ((bs.filter (mts m t)).map fun p=>V.int (p.2.1+m+1))):=AB
  generalize upd H9 q5 (.lst ((bs.filter (mts m t)).map fun p=>V.int (p.2.1+m+1)))=HA at s7 eq5 ⊢
  refine ⟨q4,q5,_,_,rfl,rfl,s7 _ _ eq4,eq5,by simp;omega,fun q6 hq6=>?_⟩
  have s8:=AH.AW (o:=.lst ([V.int (t+m+1)]++(bs.filter (mts m t)).map fun p=>V.int (p.2.1+m+1))) hq6
  have eq6:(upd HA q6 (.lst ([V.int (t+m+1)]++(bs.filter (mts m t)).map fun p=>V.int (p.2.1+m+1)))) q6=some (.lst (((t+m+1)::(bs.filter (mts m t)).map fun p=>p.2.1+m+1).map V.int)):=by rw [AB,List.map_cons,List.map_map];rfl
  generalize upd HA q6 (.lst ([V.int (t+m+1)]++(bs.filter (mts m t)).map fun p=>V.int (p.2.1+m+1)))=HB at s8 eq6 ⊢
  refine ⟨q6,_,rfl,SqL.of eq6,by simp,fun E1 hE1 hE2=>?_⟩
  have s3B:=s38.trans (s7.trans s8)
  refine z4 _ _ fun _ _ _ _ z5=>⟨_,rfl,a,rfl,fun u hu=>z5 _ _ ?_⟩
  have s9:=AH.AW (o:=.tup [.int 1,.int a,.int a,.int a]) hu
  have eu:(upd HB u (.tup [.int 1,.int a,.int a,.int a])) u=some (.tup [.int 1,.int a,.int a,.int a]):=AB
  generalize upd HB u (.tup [.int 1,.int a,.int a,.int a])=HC at s9 eu ⊢
  have s3C:=s3B.trans s9
  refine fun _ _ _ _ z6=>⟨_,rfl,lm,rfl,⟨_,SqL.of (s3C _ _ elm2)⟩,B8 (K:=K) (xs:=xm) (fun n σ H'=>∃(o9:Option V) (tl:Addr) (ts:List V),σ=[some (.ref l),some (.int t),some (.int a),some (.int m),some (.ref lm),some (.ref lr),some (.int S),some (.int E1),some (.ref tl),o9]/\AH HC H'/\H' tl=some (.tup ts)/\Tal ([a]++((bs.filter (mts m t)).take n).flatMap (·.2.2)) ts)
   ⟨none,u,_,rfl,AH.refl _,eu,by simpa using Tal.one a⟩ (fun n σ H' _ ⟨_,_,_,_,s',_⟩=>SqL.of ((s3C.trans s') _ _ elm2)) ?_ ?_⟩
  ·rintro n y σ HD hy ⟨o9,tl,ts,rfl,sD,etl,tal⟩
   obtain ⟨p,b,q,us,ep,rfl,eb,eq,tal2⟩:=(hpm2.keep (s3C.trans sD).tp).ix hy
   refine ⟨_,rfl,_,rfl,b,_,_,_,rfl,rfl,SqT.of eb,i2,tl,q,_,_,ts,us,rfl,etl,eq,tal,tal2,fun r zs hr' talr=>⟨_,r,zs,rfl,sD.upd hr',AB,?_⟩⟩
   rw [List.take_add_one,ep,List.flatMap_append,←List.append_assoc]
   simpa using talr
  ·rintro σ HD ⟨o9,tl,ts,rfl,sD,etl,tal⟩
   rw [hpm.len,List.take_of_length_le (Nat.le_refl _)] at tal
   have s3D:=s3C.trans sD
   have mem:∀{p:Bk},p∈bs.filter (mts m t)↔p∈bs/\mts m t p=true:=List.mem_filter
   have lS:S≤t:=hS2 t List.mem_cons_self
   have mS:∀b∈bs,mts m t b=true→S≤b.1:=fun b hb mb=>hS2 _ (List.mem_cons_of_mem _ (List.mem_map.mpr ⟨b,mem.mpr ⟨hb,mb⟩,rfl⟩))
   have hS:S=t\/∃b∈bs,mts m t b=true/\b.1=S:=by
    rcases List.mem_cons.mp hS1 with h|h
    ·exact .inl h
    ·obtain ⟨b,hb,e⟩:=List.mem_map.mp h
     exact .inr ⟨b,(mem.mp hb).1,(mem.mp hb).2,e⟩
   obtain ⟨E0,rfl⟩:∃E0,E1=E0+m+1:=⟨E1-m-1,by omega⟩
   have lE:t≤E0:=by have:=hE2 _ List.mem_cons_self;omega
   have mE:∀b∈bs,mts m t b=true→b.2.1≤E0:=fun b hb mb=>by
    have:=hE2 _ (List.mem_cons_of_mem _ (List.mem_map.mpr ⟨b,mem.mpr ⟨hb,mb⟩,rfl⟩))
    omega
   have hE:E0=t\/∃b∈bs,mts m t b=true/\b.2.1=E0:=by
    rcases List.mem_cons.mp hE1 with h|h
    ·exact .inl (by omega)
    ·obtain ⟨b,hb,e⟩:=List.mem_map.mp h
     exact .inr ⟨b,(mem.mp hb).1,(mem.mp hb).2,by have e:b.2.1+m+1=E0+m+1:=e;omega⟩
   have memr:∀{p:Bk},p∈bs.filter (fun p=>!mts m t p)↔p∈bs/\mts m t p=false:=fun {p}=>by
    rw [List.mem_filter]
    cases mts m t p <;> simp
   have sep:∀{r:Bk},r∈bs.filter (fun p=>!mts m t p)→(r.2.1+m<S)\/(E0+m<r.1):=fun h=>(QW hm gd hS hE (memr.mp h).1 (memr.mp h).2).imp (·.1) (·.1)
   have upr:Up (bs.filter fun p=>!mts m t p):=(UT hm gd).sublist List.filter_sublist
   have apr:Apart m (bs.filter fun p=>!mts m t p):=gd.ap.sublist List.filter_sublist
   refine z6 _ _ ⟨_,rfl,_,rfl,_,rfl,_,rfl,lr,tl,xr,ts,_,m,S,E0,_,rfl,s3D _ _ elr,hpr2.keep s3D.tp,upr,by have:=List.length_filter_le (fun p=>!mts m t p) bs;omega,etl,tal,(fun p hp e=>?_),fun HE r xe n sE hre ere hn b1 b2 hpe=>?_⟩
   ·have:=gd.le p (memr.mp hp).1
    rcases sep hp with q|q <;> omega
   ·have s0E:AH H' HE:=s02.trans (s3D.trans sE)
    refine k _ r xe _ s0E ((s02.trans s3D).free hre) ere hpe (TY (L:=(bs.filter fun p=>!mts m t p).take n++[(S,E0,_)]++(bs.filter fun p=>!mts m t p).drop n) hm gd hS hE lS lE mS mE (List.Perm.refl _) (fun x=>?_) ?_) ?_ ?_
    ·rw [List.append_assoc,List.mem_append,List.mem_append,List.mem_singleton,←memr]
     have:x∈(bs.filter fun p=>!mts m t p)↔x∈(bs.filter fun p=>!mts m t p).take n\/x∈(bs.filter fun p=>!mts m t p).drop n:=by
      rw [←List.mem_append,List.take_append_drop]
     rw [this]
     constructor
     ·rintro (h|h|h)
      ·exact .inr (.inl h)
      ·exact .inl h
      ·exact .inr (.inr h)
     ·rintro (h|h|h)
      ·exact .inr (.inl h)
      ·exact .inl h
      ·exact .inr (.inr h)
    ·have ap2:Apart m ((bs.filter fun p=>!mts m t p).take n++(bs.filter fun p=>!mts m t p).drop n):=by rw [List.take_append_drop];exact apr
     obtain ⟨p1,p2,p3⟩:=List.pairwise_append.mp ap2
     have lo:∀x∈(bs.filter fun p=>!mts m t p).take n,x.2.1+m<S:=fun x hx=>by
      obtain ⟨i,hi,e⟩:=List.mem_iff_getElem.mp hx
      rw [List.length_take] at hi
      have:=b1 i x (by omega) (by rw [←e,List.getElem_take];exact List.getElem?_eq_getElem _)
      rcases sep (List.mem_of_mem_take hx) with q|q
      ·exact q
      ·omega
     have hi':∀x∈(bs.filter fun p=>!mts m t p).drop n,E0+m<x.1:=fun x hx=>by
      obtain ⟨i,hi,e⟩:=List.mem_iff_getElem.mp hx
      rw [List.length_drop] at hi
      have:=b2 (n+i) x (by omega) (by rw [←e,List.getElem_drop];exact List.getElem?_eq_getElem _)
      have hx':=List.mem_of_mem_drop hx
      have:=gd.le x (memr.mp hx').1
      rcases sep hx' with q|q
      ·omega
      ·exact q
     refine List.pairwise_append.mpr ⟨List.pairwise_append.mpr ⟨p1,List.pairwise_singleton _ _,fun x hx y hy=>by rw [List.mem_singleton.mp hy];exact lo x hx⟩,p2,fun x hx y hy=>?_⟩
     rcases List.mem_append.mp hx with hx|hx
     ·exact p3 x hx y hy
     ·rw [List.mem_singleton.mp hx];exact hi' y hy
    ·have:=List.length_filter_le (fun p=>!mts m t p) bs
     simp only [List.length_append,List.length_take,List.length_drop,List.length_singleton]
     omega
    ·intro b hb
     rcases List.mem_append.mp hb with hb|hb
     ·rcases List.mem_append.mp hb with hb|hb
      ·exact .inl (memr.mp (List.mem_of_mem_take hb)).1
      ·rw [List.mem_singleton.mp hb]
       refine .inr ⟨lE,?_⟩
       rcases hS with e|⟨c,hc,_,e⟩
       ·exact .inl e
       ·exact .inr ⟨c,hc,e⟩
     ·exact .inl (memr.mp (List.mem_of_mem_drop hb)).1
end Gp
abbrev Pc:=Int×Int×List Int
abbrev Bq:=List (Int×Int)
abbrev Tal:=Wn.Tal
def PcA (H:Hp) (x:V) (p:Pc):Prop:=∃(a q:Addr) (ts:List V),x=.ref a/\H a=some (.tup [.int p.1,.int p.2.1,.ref q])/\H q=some (.tup ts)/\Tal p.2.2 ts
def C7 (H:Hp) (xs:List V) (ps:List Pc):Prop:=Paired (PcA H) xs ps
theorem C7.keep {H H':Hp}{xs:List V}{ps:List Pc}(h:C7 H xs ps) (t:Tp H H'):C7 H' xs ps:=Au (fun x p ⟨a,q,ts,e,e1,e2,e3⟩=>⟨a,q,ts,e,t _ _ e1,t _ _ e2,e3⟩) h
theorem C7.len {H:Hp}{xs:List V}{ps:List Pc}(h:C7 H xs ps):xs.length=ps.length:=(AQ h).1
theorem C7.ix {H:Hp}{xs:List V}{ps:List Pc}(h:C7 H xs ps) {i:Nat}{x:V}(e:xs[i]?=some x):∃(p:Pc) (a q:Addr) (ts:List V),ps[i]?=some p/\x=.ref a/\H a=some (.tup [.int p.1,.int p.2.1,.ref q])/\H q=some (.tup ts)/\Tal p.2.2 ts:=by
 obtain ⟨l,f⟩:=AQ h
 have hi:=(List.getElem?_eq_some_iff.mp e).1
 have e2:=List.getElem?_eq_getElem (show i<ps.length by omega)
 obtain ⟨a,q,ts,r⟩:=f i _ _ e e2
 exact ⟨_,a,q,ts,e2,r⟩
def pcW (z:Int) (w:Int×List Int):Pc:=(w.1,w.1+z,w.2)
def pcG (m:Int) (b:Gp.Bk):Pc:=(b.1,b.2.1+m+1,b.2.2)
theorem DI {α β γ:Type}{F:α→γ→Prop}{f:β→γ}:∀{as:List α}{bs:List β},Paired (fun a b=>F a (f b)) as bs→Paired F as (bs.map f)
 | _,_,.nil=>.nil
 | _,_,.cons h r=>.cons h (DI r)
theorem EV {α β γ:Type}{F:α→γ→Prop}{f:β→γ}:∀{as:List α}{bs:List β},Paired F as (bs.map f)→Paired (fun a b=>F a (f b)) as bs
 | _,[],.nil=>.nil
 | _,b::bs,.cons h r=>.cons h (EV r)
theorem SN {z:Int}{H:Hp}{xs:List V}{ws:Wn.Ws}:Wn.Pcs z H xs ws↔C7 H xs (ws.map (pcW z)):=⟨fun h=>DI h,fun h=>EV (F:=PcA H) (f:=pcW z) h⟩
theorem SO {m:Int}{H:Hp}{xs:List V}{bs:List Gp.Bk}:Gp.Pcs m H xs bs↔C7 H xs (bs.map (pcG m)):=⟨fun h=>DI h,fun h=>EV (F:=PcA H) (f:=pcG m) h⟩
def FH (z d s t:Int):Prop:=s % d=0/\s≤t/\t-z<s
instance (z d s t:Int):Decidable (FH z d s t):=inferInstanceAs (Decidable (_/\_/\_))
def Du (z d:Int) (its:Bq) (s:Int):List Int:=(its.filter fun i=>decide (FH z d s i.1)).map (·.2)
theorem KZ (z d:Int) (its:Bq) (i:Int×Int) (s:Int):Du z d (its++[i]) s=Du z d its s++(if FH z d s i.1 then [i.2] else []):=by
 unfold Du
 rw [List.filter_append,List.map_append]
 congr 1
 rw [List.filter_cons]
 by_cases h:FH z d s i.1
 ·rw [if_pos (decide_eq_true h),if_pos h];rfl
 ·rw [if_neg (fun q=>h (of_decide_eq_true q)),if_neg h];rfl
theorem Qq (z d:Int) (its:Bq) (s:Int):(Du z d its s).length≤its.length:=by
 unfold Du
 rw [List.length_map]
 exact List.length_filter_le _ _
inductive Kd where
 | each (z d:Int)
 | gap (m:Int)
def OpenK:Kd→Bq→Int→List Pc→Prop
 | .each z d,its,now,ps=>∃ws:Wn.Ws,Wn.Up ws/\(∀p∈ws,p.2≠[])/\(∀s,Wn.look ws s=if now<s+z then Du z d its s else [])/\ps=ws.map (pcW z)
 | .gap m,its,now,ps=>∃(A B:Bq) (bsA bs:List Gp.Bk),its.Perm (A++B)/\Gp.Gd m A bsA/\Gp.Gd m B bs/\(∀b∈bsA,b.2.1+m+1≤now)/\(∀b∈bs,now<b.2.1+m+1)/\(∀a∈bsA,∀b∈bs,a.2.1+m<b.1)/\ps=bs.map (pcG m)
def ID (p q:Pc):Prop:=p.1=q.1/\p.2.1=q.2.1/\p.2.2.Perm q.2.2
theorem IP {m:Int}{A B:Bq}{bs:List Gp.Bk}(p:A.Perm B) (g:Gp.Gd m A bs):Gp.Gd m B bs :=
 ⟨g.ap,fun b hb=>(g.am b hb).trans ((p.filter _).map _),fun i hi=>g.cov i (p.mem_iff.mpr hi),fun b hb=>by
  obtain ⟨i,hi,e⟩:=g.lo b hb
  exact ⟨i,p.mem_iff.mp hi,e⟩,fun b hb=>by
  obtain ⟨i,hi,e⟩:=g.hi b hb
  exact ⟨i,p.mem_iff.mp hi,e⟩,g.le,fun b hb i hi h1 h2=>by
  obtain ⟨j,hj,q⟩:=g.ch b hb i (p.mem_iff.mpr hi) h1 h2
  exact ⟨j,p.mem_iff.mp hj,q⟩⟩
theorem K0 {m:Int}{A B:Bq}{as bs:List Gp.Bk}(hm:0≤m) (g:Gp.Gd m A as) (g':Gp.Gd m B bs) (h:∀a∈as,∀b∈bs,a.2.1+m<b.1):Gp.Gd m (A++B) (as++bs):=by
 have inA:∀i∈A,∀b∈bs,¬ Gp.inB b i.1:=fun i hi b hb q=>by
  obtain ⟨a,ha,qa⟩:=g.cov i hi
  have:=h a ha b hb
  have:=qa.2
  have:=q.1
  omega
 have inB':∀i∈B,∀a∈as,¬ Gp.inB a i.1:=fun i hi a ha q=>by
  obtain ⟨b,hb,qb⟩:=g'.cov i hi
  have:=h a ha b hb
  have:=qb.1
  have:=q.2
  omega
 refine ⟨List.pairwise_append.mpr ⟨g.ap,g'.ap,h⟩,fun b hb=>?_,fun i hi=>?_,fun b hb=>?_,fun b hb=>?_,fun b hb=>?_,fun b hb i hi h1 h2=>?_⟩
 ·rw [List.filter_append,List.map_append]
  rcases List.mem_append.mp hb with hb|hb
  ·have e:(B.filter fun i=>decide (Gp.inB b i.1))=[]:=List.filter_eq_nil_iff.mpr fun i hi q=>inB' i hi b hb (of_decide_eq_true q)
   rw [e,List.map_nil,List.append_nil]
   exact g.am b hb
  ·have e:(A.filter fun i=>decide (Gp.inB b i.1))=[]:=List.filter_eq_nil_iff.mpr fun i hi q=>inA i hi b hb (of_decide_eq_true q)
   rw [e,List.map_nil,List.nil_append]
   exact g'.am b hb
 ·rcases List.mem_append.mp hi with hi|hi
  ·obtain ⟨b,hb,q⟩:=g.cov i hi
   exact ⟨b,List.mem_append_left _ hb,q⟩
  ·obtain ⟨b,hb,q⟩:=g'.cov i hi
   exact ⟨b,List.mem_append_right _ hb,q⟩
 ·rcases List.mem_append.mp hb with hb|hb
  ·obtain ⟨i,hi,e⟩:=g.lo b hb
   exact ⟨i,List.mem_append_left _ hi,e⟩
  ·obtain ⟨i,hi,e⟩:=g'.lo b hb
   exact ⟨i,List.mem_append_right _ hi,e⟩
 ·rcases List.mem_append.mp hb with hb|hb
  ·obtain ⟨i,hi,e⟩:=g.hi b hb
   exact ⟨i,List.mem_append_left _ hi,e⟩
  ·obtain ⟨i,hi,e⟩:=g'.hi b hb
   exact ⟨i,List.mem_append_right _ hi,e⟩
 ·rcases List.mem_append.mp hb with hb|hb
  ·exact g.le b hb
  ·exact g'.le b hb
 ·rcases List.mem_append.mp hb with hb|hb
  ·rcases List.mem_append.mp hi with hi|hi
   ·obtain ⟨j,hj,q⟩:=g.ch b hb i hi h1 h2
    exact ⟨j,List.mem_append_left _ hj,q⟩
   ·exact absurd h1 (inB' i hi b hb)
  ·rcases List.mem_append.mp hi with hi|hi
   ·exact absurd h1 (inA i hi b hb)
   ·obtain ⟨j,hj,q⟩:=g'.ch b hb i hi h1 h2
    exact ⟨j,List.mem_append_right _ hj,q⟩
theorem QV {m:Int}{A:Bq}{bs:List Gp.Bk}(hm:0≤m) (g:Gp.Gd m A bs) (p:Gp.Bk→Bool):Gp.Gd m (A.filter fun i=>(bs.filter p).any fun b=>decide (Gp.inB b i.1)) (bs.filter p):=by
 have sub:∀{b:Gp.Bk},b∈bs.filter p→b∈bs:=fun h=>(List.mem_filter.mp h).1
 have memF:∀{i:Int×Int},i∈(A.filter fun i=>(bs.filter p).any fun b=>decide (Gp.inB b i.1))↔i∈A/\∃b∈bs.filter p,Gp.inB b i.1:=fun {i}=>by
  rw [List.mem_filter,List.any_eq_true]
  exact ⟨fun ⟨a,b,hb,q⟩=>⟨a,b,hb,of_decide_eq_true q⟩,fun ⟨a,b,hb,q⟩=>⟨a,b,hb,decide_eq_true q⟩⟩
 refine ⟨g.ap.sublist List.filter_sublist,fun b hb=>?_,fun i hi=>(memF.mp hi).2,fun b hb=>?_,fun b hb=>?_,fun b hb=>g.le b (sub hb),fun b hb i hi h1 h2=>?_⟩
 ·rw [List.filter_filter]
  refine (g.am b (sub hb)).trans (List.Perm.of_eq ?_)
  congr 1
  refine List.filter_congr fun i hi=>?_
  by_cases q:Gp.inB b i.1
  ·rw [decide_eq_true q,Bool.true_and]
   exact (List.any_eq_true.mpr ⟨b,hb,decide_eq_true q⟩).symm
  ·rw [decide_eq_false q,Bool.false_and]
 ·obtain ⟨i,hi,e⟩:=g.lo b (sub hb)
  exact ⟨i,memF.mpr ⟨hi,b,hb,by rw [e];exact ⟨Int.le_refl _,g.le b (sub hb)⟩⟩,e⟩
 ·obtain ⟨i,hi,e⟩:=g.hi b (sub hb)
  exact ⟨i,memF.mpr ⟨hi,b,hb,by rw [e];exact ⟨g.le b (sub hb),Int.le_refl _⟩⟩,e⟩
 ·obtain ⟨j,hj,q1,q2⟩:=g.ch b (sub hb) i (memF.mp hi).1 h1 h2
  obtain ⟨c,hc,qc⟩:=g.cov j hj
  have e:c=b:=by
   rcases Gp.Bg g.ap hc (sub hb) with e|e|e
   ·exact e
   ·have:=g.le c hc
    have:=qc.2
    have:=h1.1
    omega
   ·have:=qc.1
    have:=h1.2
    omega
  exact ⟨j,memF.mpr ⟨hj,b,hb,by rw [←e];exact qc⟩,q1,q2⟩
def Kd.ok:Kd→Prop
 | .each z d=>1≤d/\d≤z/\z≤1000000/\z≤20 * d
 | .gap m=>0≤m/\m≤1000000
theorem GU (k:Kd) (now:Int):OpenK k [] now []:=by
 cases k with
 | each z d=>exact ⟨[],.nil,fun p hp=>(by cases hp),fun s=>(by show []=_;split <;> rfl),rfl⟩
 | gap m=>exact ⟨[],[],[],[],.nil,⟨.nil,fun b hb=>(by cases hb),fun i hi=>(by cases hi),fun b hb=>(by cases hb),fun b hb=>(by cases hb),fun b hb=>(by cases hb),fun b hb=>(by cases hb)⟩,⟨.nil,fun b hb=>(by cases hb),fun i hi=>(by cases hi),fun b hb=>(by cases hb),fun b hb=>(by cases hb),fun b hb=>(by cases hb),fun b hb=>(by cases hb)⟩,fun b hb=>(by cases hb),fun b hb=>(by cases hb),fun b hb=>(by cases hb),rfl⟩
theorem C1 {α β:Type}{R:α→β→Prop}{p:α→Bool}{q:β→Bool}(h:∀a b,R a b→p a=q b):∀{as:List α}{bs:List β},Paired R as bs→Paired R (as.filter p) (bs.filter q)
 | _,_,.nil=>.nil
 | _,_,.cons (a:=a) (b:=b) r rs=>by
  rw [List.filter_cons,List.filter_cons,h _ _ r]
  split
  ·exact .cons r (C1 h rs)
  ·exact C1 h rs
theorem FA {α β γ δ:Type}{R:α→β→Prop}{S:γ→δ→Prop}{f:α→γ}{g:β→δ}(h:∀a b,R a b→S (f a) (g b)):∀{as:List α}{bs:List β},Paired R as bs→Paired S (as.map f) (bs.map g)
 | _,_,.nil=>.nil
 | _,_,.cons r rs=>.cons (h _ _ r) (FA h rs)
theorem Dd {α:Type}{R:α→α→Prop}(h:∀a,R a a):∀as:List α,Paired R as as
 | []=>.nil
 | a::as=>.cons (h a) (Dd h as)
theorem JV {α:Type}{p:α→Bool}{as bs:List α}(h1:∀a∈as,p a=false) (h2:∀b∈bs,p b=true):(as++bs).filter p=bs:=by
 rw [List.filter_append,List.filter_eq_nil_iff.mpr fun a ha=>by rw [h1 a ha];simp,List.filter_eq_self.mpr h2,List.nil_append]
theorem Ht {k:Kd}(hk:k.ok) {its:Bq}{now:Int}{ps qs:List Pc}(h:OpenK k its now ps) (h':OpenK k its now qs):Paired ID ps qs:=by
 cases k with
 | each z d =>
  obtain ⟨ws,u,n,l,rfl⟩:=h
  obtain ⟨ws',u',n',l',rfl⟩:=h'
  have e:ws=ws':=Wn.L1 u u' n n' fun s=>(l s).trans (l' s).symm
  rw [e]
  exact Dd (fun a=>⟨rfl,rfl,.refl _⟩) _
 | gap m =>
  obtain ⟨A,B,as,bs,p,gA,gB,cA,oB,sp,rfl⟩:=h
  obtain ⟨A',B',as',bs',p',gA',gB',cA',oB',sp',rfl⟩:=h'
  have hm:0≤m:=hk.1
  have j:=IP p.symm (K0 hm gA gB sp)
  have j':=IP p'.symm (K0 hm gA' gB' sp')
  have u:=Gp.Of hm j j'
  have f:=C1 (p:=fun b=>decide (now<b.2.1+m+1)) (q:=fun b=>decide (now<b.2.1+m+1)) (fun a b h=>by rw [h.2.1]) u
  rw [JV (fun a ha=>decide_eq_false (by have:=cA a ha;omega)) (fun b hb=>decide_eq_true (oB b hb)),JV (fun a ha=>decide_eq_false (by have:=cA' a ha;omega)) (fun b hb=>decide_eq_true (oB' b hb))] at f
  exact FA (fun a b h=>⟨h.1,by show a.2.1+m+1=b.2.1+m+1;rw [h.2.1],h.2.2⟩) f
theorem Hx {p:Int→Bool}:∀{ws:Wn.Ws}{s:Int},Wn.Up ws→Wn.look (ws.filter fun w=>p w.1) s=if p s=true then Wn.look ws s else []
 | [],s,_=>by show []=_;split <;> rfl
 | w::ws,s,u=>by
  obtain ⟨u1,u2⟩:=List.pairwise_cons.mp u
  rw [List.filter_cons]
  have ih:=Hx (p:=p) (s:=s) u2
  have L:Wn.look (w::ws) s=if w.1=s then w.2 else Wn.look ws s:=rfl
  cases hp:p w.1 with
  | true =>
   show (if w.1=s then w.2 else Wn.look (ws.filter _) s)=_
   rw [ih,L]
   by_cases e:w.1=s
   ·rw [if_pos e,←e,if_pos hp,if_pos rfl]
   ·rw [if_neg e,if_neg e]
  | false =>
   show Wn.look (ws.filter _) s=_
   rw [ih,L]
   by_cases e:w.1=s
   ·rw [←e,if_neg (by rw [hp];exact Bool.false_ne_true),if_neg (by rw [hp];exact Bool.false_ne_true)]
   ·rw [if_neg e]
theorem JF {k:Kd}(hk:k.ok) {its:Bq}{now now':Int}{ps:List Pc}(hn:now≤now') (h:OpenK k its now ps):OpenK k its now' (ps.filter fun p=>decide (now'<p.2.1)):=by
 cases k with
 | each z d =>
  obtain ⟨ws,u,n,l,rfl⟩:=h
  refine ⟨ws.filter fun w=>decide (now'<w.1+z),u.sublist List.filter_sublist,fun p hp=>n p (List.mem_filter.mp hp).1,fun s=>?_,?_⟩
  ·rw [Hx (p:=fun s=>decide (now'<s+z)) u,l s]
   by_cases e:now'<s+z
   ·rw [if_pos (decide_eq_true e),if_pos (by omega),if_pos e]
   ·rw [if_neg (by rw [decide_eq_true_eq];exact e),if_neg e]
  ·rw [List.filter_map]
   rfl
 | gap m =>
  obtain ⟨A,B,as,bs,p,gA,gB,cA,oB,sp,rfl⟩:=h
  have hm:0≤m:=hk.1
  let c:Gp.Bk→Bool:=fun b=>decide (now'<b.2.1+m+1)
  have s1:=QV hm gB fun b=>!c b
  have s2:=QV hm gB c
  have pB:B.Perm ((B.filter fun i=>(bs.filter fun b=>!c b).any fun b=>decide (Gp.inB b i.1))++B.filter fun i=>(bs.filter c).any fun b=>decide (Gp.inB b i.1)):=by
   refine ((Gp.filter_or _ _ B fun i hi=>?_).trans (List.Perm.of_eq ?_)).symm
   ·rintro ⟨q1,q2⟩
    obtain ⟨b1,hb1,i1⟩:=List.any_eq_true.mp q1
    obtain ⟨b2,hb2,i2⟩:=List.any_eq_true.mp q2
    obtain ⟨m1,c1⟩:=List.mem_filter.mp hb1
    obtain ⟨m2,c2⟩:=List.mem_filter.mp hb2
    have i1:=of_decide_eq_true i1
    have i2:=of_decide_eq_true i2
    rcases Gp.Bg gB.ap m1 m2 with e|e|e
    ·rw [e,c2] at c1;cases c1
    ·have:=i1.2;have:=i2.1;omega
    ·have:=i1.1;have:=i2.2;omega
   ·rw [List.filter_eq_self]
    intro i hi
    obtain ⟨b,hb,q⟩:=gB.cov i hi
    rw [Bool.or_eq_true]
    cases hc:c b with
    | true=>exact .inr (List.any_eq_true.mpr ⟨b,List.mem_filter.mpr ⟨hb,hc⟩,decide_eq_true q⟩)
    | false=>exact .inl (List.any_eq_true.mpr ⟨b,List.mem_filter.mpr ⟨hb,by rw [hc];rfl⟩,decide_eq_true q⟩)
  refine ⟨A++B.filter _,B.filter _,as++bs.filter _,bs.filter c,p.trans ?_,K0 hm gA s1 fun a ha b hb=>sp a ha b (List.mem_filter.mp hb).1,s2,fun b hb=>?_,fun b hb=>of_decide_eq_true (List.mem_filter.mp hb).2,fun a ha b hb=>?_,?_⟩
  ·rw [List.append_assoc]
   exact (List.Perm.refl _).append pB
  ·rcases List.mem_append.mp hb with hb|hb
   ·have:=cA b hb;omega
   ·have h2:=(List.mem_filter.mp hb).2
    have h2:(!decide (now'<b.2.1+m+1))=true:=h2
    have h3:decide (now'<b.2.1+m+1)=false:=by simpa using h2
    have:=of_decide_eq_false h3
    omega
  ·obtain ⟨mb,cb⟩:=List.mem_filter.mp hb
   rcases List.mem_append.mp ha with ha|ha
   ·exact sp a ha b mb
   ·obtain ⟨ma,ca⟩:=List.mem_filter.mp ha
    have cb:decide (now'<b.2.1+m+1)=true:=cb
    have ca:(!decide (now'<a.2.1+m+1))=true:=ca
    have ca:decide (now'<a.2.1+m+1)=false:=by simpa using ca
    have q1:=of_decide_eq_true cb
    have q2:=of_decide_eq_false ca
    rcases Gp.Bg gB.ap ma mb with e|e|e
    ·rw [e] at q2;omega
    ·exact e
    ·have:=gB.le a ma
     omega
  ·rw [List.filter_map]
   rfl
def stV (k:Kd) (nm so:Str):List V:=match k with
 | .each z d=>[.str "each", .str nm,.str "stream", .str so,.int z,.int d]
 | .gap m=>[.str "gap", .str nm,.str "stream", .str so,.int m]
def Dl (H:Hp) (p:Addr) (k:Kd) (nm so:Str):Prop:=H p=some (.tup (stV k nm so))
theorem Jl {z d now t a:Int}{its:Bq}{ws ws':Wn.Ws}(hW:Wn.Win t z d) (hn:now≤t) (h:∀s,Wn.look ws s=if now<s+z then Du z d its s else [])
  (h':∀x,Wn.look ws' x=Wn.look ws x++(if x∈Wn.Av t z d then [a] else [])) (s:Int):Wn.look ws' s=if now<s+z then Du z d (its++[(t,a)]) s else []:=by
 rw [h' s,h s,KZ]
 by_cases e:s∈Wn.Av t z d
 ·have w:=(Wn.Fq hW).mp e
  have w2:t-z<s:=w.2.2
  rw [if_pos e,if_pos (by omega),if_pos (by omega),if_pos (show FH z d s (t,a).1 from w)]
 ·have w:¬ FH z d s t:=fun q=>e ((Wn.Fq hW).mpr q)
  rw [if_neg e,if_neg (show ¬ FH z d s (t,a).1 from w),List.append_nil,List.append_nil]
def Q3:Sp:=fun vs H Q _=>∃(p l q:Addr) (k:Kd) (nm so key:Str) (xs:List V) (its:Bq) (ps:List Pc) (now t a:Int),vs=[.ref p,.ref l,.ref q]/\Dl H p k nm so/\k.ok/\H l=some (.lst xs)/\C7 H xs ps/\OpenK k its now ps/\now≤t/\0≤t/\t≤2000000000/\H q=some (.tup [.int t,.str key,.int a])/\ps.length≤1000 /\
 ∀H' r xs' ps',AH H H'→H r=none→H' r=some (.lst xs')→C7 H' xs' ps'→OpenK k (its++[(t,a)]) now ps'→ps'≠[]→ps'.length≤ps.length+21→Q (.ref r) H'
theorem OJ (T:Tx K mg ad):A9 P w K mg base CX0 4 ad.DN ad.EF ["step", "pieces", "item"] Q3:=by
 have G_put_each:=Wn.Rc (P:=P) (w:=w) (base:=base) T
 have G_put_gap:=Gp.S9 (P:=P) (w:=w) (base:=base) T
 refine T.DT.ok J4 (fun vs H Q E h=>?_) (fun cdv A outer s H vs Q E hr h=>?_)
 ·obtain ⟨p,l,q,k,nm,so,key,xs,its,ps,now,t,a,rfl,_⟩:=h
  rfl
 ·obtain ⟨p,l,q,kd,nm,so,key,xs,its,ps,now,t,a,rfl,ep,ok,el,hw,op,hn,t0,t1,eq,lp,k⟩:=h
  have nd:=J4.nd
  refine ⟨_,(AO (Be (Ah C5 (AN (AI (K:=K)) (pv 0) AD (fun _ _=>rfl)) Bh (Ak _))
    (AJ (Ae (Af G_put_each (hr.mono (by decide)) (by rfl) T.Mw T.CP.kp T.NH .nil As (AA (pv 1) (AA (AN (AI (K:=K)) (pv 2) AD (fun _ _=>rfl)) (AA (AN (AI (K:=K)) (pv 2) AD (fun _ _=>rfl)) (AA (AN (AI (K:=K)) (pv 0) AD (fun _ _=>rfl)) (AA (AN (AI (K:=K)) (pv 0) AD (fun _ _=>rfl)) AE))))))))
    A4)
    (AJ (Ae (Af G_put_gap (hr.mono (by decide)) (by rfl) T.OS T.Cw.kp T.Ou .nil As (AA (pv 1) (AA (AN (AI (K:=K)) (pv 2) AD (fun _ _=>rfl)) (AA (AN (AI (K:=K)) (pv 2) AD (fun _ _=>rfl)) (AA (AN (AI (K:=K)) (pv 0) AD (fun _ _=>rfl)) AE)))))))),?_⟩
  have q0:SqT K H q _:=SqT.of eq
  have p0:SqT K H p _:=SqT.of ep
  cases kd with
  | each z d =>
   obtain ⟨ok1,ok2,ok3,ok4⟩:=ok
   obtain ⟨ws,up,ne,lk,rfl⟩:=op
   have hW:Wn.Win t z d:=⟨ok1,by omega,ok2,ok3,t0,t1⟩
   rw [List.length_map] at lp
   refine ⟨_,rfl,p,_,_,_,rfl,rfl,p0,AG (j:=0) rfl,rfl,_,rfl,Hz (fun _=>?_) fun h=>absurd rfl h⟩
   refine ⟨_,rfl,_,rfl,q,_,_,_,rfl,rfl,q0,AG (j:=0) rfl,_,rfl,q,_,_,_,rfl,rfl,q0,AG (j:=2) rfl,_,rfl,p,_,_,_,rfl,rfl,p0,AG (j:=4) rfl,_,rfl,p,_,_,_,rfl,rfl,p0,AG (j:=5) rfl,l,xs,ws,t,a,z,d,rfl,hW,ok4,el,SN.mpr hw,up,by omega,ne,fun H' r xs' ws' s hr er hw' up' ne' lk' ll=>?_⟩
   have lk2:=Jl hW hn lk lk'
   refine k H' r xs' _ s hr er (SN.mp hw') ⟨ws',up',ne',lk2,rfl⟩ (fun e=>?_) (by rw [List.length_map,List.length_map];exact ll)
   have e:ws'=[]:=List.map_eq_nil_iff.mp e
   have m0:=Int.emod_nonneg t (show d≠0 by omega)
   have m1:=Int.emod_lt_of_pos t (show 0<d by omega)
   have hin:(t-t % d)∈Wn.Av t z d:=(Wn.Fq hW).mpr ⟨by rw [Int.sub_emod,Int.emod_emod];simp,by omega,by omega⟩
   have:=lk' (t-t % d)
   rw [e,if_pos hin] at this
   have:([]:List Int)=_++[a]:=this
   simp at this
  | gap m =>
   obtain ⟨ok1,ok2⟩:=ok
   obtain ⟨A,B,as,bs,pm,gA,gB,cA,oB,sp,rfl⟩:=op
   rw [List.length_map] at lp
   refine ⟨_,rfl,p,_,_,_,rfl,rfl,p0,AG (j:=0) rfl,rfl,_,rfl,Hz (fun h=>absurd h (by decide)) fun _=>?_⟩
   refine ⟨_,rfl,_,rfl,q,_,_,_,rfl,rfl,q0,AG (j:=0) rfl,_,rfl,q,_,_,_,rfl,rfl,q0,AG (j:=2) rfl,_,rfl,p,_,_,_,rfl,rfl,p0,AG (j:=4) rfl,l,xs,B,bs,t,a,m,rfl,ok1,el,SO.mpr hw,gB,by omega,fun H' r xs' cs s hr er hw' gd ll hc=>?_⟩
   refine k H' r xs' _ s hr er (SO.mp hw') ⟨A,B++[(t,a)],as,cs,?_,gA,gd,cA,fun b hb=>?_,fun x hx b hb=>?_,rfl⟩ (fun e=>?_) (by rw [List.length_map,List.length_map];omega)
   ·rw [←List.append_assoc]
    exact pm.append (.refl _)
   ·rcases hc b hb with h|⟨h,_⟩
    ·exact oB b h
    ·omega
   ·have:=cA x hx
    rcases hc b hb with h|⟨h,h2|⟨c,hc',h2⟩⟩
    ·exact sp x hx b h
    ·omega
    ·have:=sp x hx c hc'
     omega
   ·have e:cs=[]:=List.map_eq_nil_iff.mp e
    obtain ⟨b,hb,_⟩:=gd.cov (t,a) (List.mem_append_right _ (List.mem_singleton.mpr rfl))
    rw [e] at hb
    cases hb
abbrev SRT:List Str:=["count", "sum", "least", "greatest"]
def FN (so:Str) (ns:List Int) (v:Int):Prop:=(so = "count" /\ v=(ns.length:Int))\/(so = "sum" /\ v=ns.sum)\/(so = "least" /\ v∈ns/\∀a∈ns,v≤a)\/(so = "greatest" /\ v∈ns/\∀a∈ns,a≤v)
theorem KY {so:Str}{ns ms:List Int}{v u:Int}(h:FN so ns v) (h':FN so ms u) (p:ns.Perm ms):v=u:=by
 have d1:("count" : Str) ≠ "sum" := by decide
 have d2:("count" : Str) ≠ "least" := by decide
 have d3:("count" : Str) ≠ "greatest" := by decide
 have d4:("sum" : Str) ≠ "least" := by decide
 have d5:("sum" : Str) ≠ "greatest" := by decide
 have d6:("least" : Str) ≠ "greatest" := by decide
 rcases h with ⟨e,h⟩|⟨e,h⟩|⟨e,h,h2⟩|⟨e,h,h2⟩ <;> rcases h' with ⟨e',g⟩|⟨e',g⟩|⟨e',g,g2⟩|⟨e',g,g2⟩
 ·rw [h,g,p.length_eq]
 ·exact absurd (e.symm.trans e') d1
 ·exact absurd (e.symm.trans e') d2
 ·exact absurd (e.symm.trans e') d3
 ·exact absurd (e'.symm.trans e) d1
 ·rw [h,g,Wn.D1 p]
 ·exact absurd (e.symm.trans e') d4
 ·exact absurd (e.symm.trans e') d5
 ·exact absurd (e'.symm.trans e) d2
 ·exact absurd (e'.symm.trans e) d4
 ·exact Int.le_antisymm (h2 _ (p.mem_iff.mpr g)) (g2 _ (p.mem_iff.mp h))
 ·exact absurd (e.symm.trans e') d6
 ·exact absurd (e'.symm.trans e) d3
 ·exact absurd (e'.symm.trans e) d5
 ·exact absurd (e'.symm.trans e) d6
 ·exact Int.le_antisymm (g2 _ (p.mem_iff.mp h)) (h2 _ (p.mem_iff.mpr g))
def Q1:Sp:=fun vs H Q _=>∃(so:Str) (q:Addr) (ns:List Int) (ts:List V),vs=[.str so,.ref q]/\so∈SRT/\H q=some (.tup ts)/\Tal ns ts/\∀v:Int,FN so ns v→Q (.int v) H
theorem Pu (T:Tx K mg ad):A9 P w K mg base CX0 1 ad.Ee ad.FX ["sort", "tally"] Q1:=by
 refine T.El.ok LU (fun vs H Q E h=>?_) (fun cdv A outer s H vs Q E hr h=>?_)
 ·obtain ⟨so,q,ns,ts,rfl,_⟩:=h
  rfl
 ·obtain ⟨so,q,ns,ts,rfl,hso,eq,tal,k⟩:=h
  have nd:=LU.nd
  refine ⟨_,(AJ (Ae (AN (AI (K:=K)) (pv 1) (Cb (K:=K) F.plainAttrs_tuple F.slot_tuple_index F.type_tuple_index (OR (K:=K)) (RR (v:=.ref ad.BC) (by rfl) T.D8 rfl) (AA (pv 0) AE)) (fun _ _=>rfl)))),?_⟩
  obtain ⟨l,g,rfl,a1,a2,a3,a4⟩:=tal
  have q0:SqT K H q _:=SqT.of eq
  have qt:SqT K H ad.BC (SRT.map V.str):=T.OB H
  obtain ⟨j,hj,ej⟩:=List.mem_iff_getElem.mp hso
  have ej:SRT[j]?=some so:=by rw [←ej];exact List.getElem?_eq_getElem hj
  have nd:SRT.Nodup:=by decide +kernel
  have hno:∀m,m<j→SRT[m]?≠some so:=fun m hm e=>by
   obtain ⟨h1,g1⟩:=List.getElem?_eq_some_iff.mp ej
   obtain ⟨h2,g2⟩:=List.getElem?_eq_some_iff.mp e
   exact (List.pairwise_iff_getElem.mp nd) m j h2 h1 hm (g2.trans g1.symm)
  match j,ej,hno with
  | 0,ej,hno =>
   have e:=(Option.some.inj ej).symm
   exact ⟨_,rfl,.inr (.inl ⟨rfl,T.FW⟩),_,rfl,ad.BC,SRT,so,0,rfl,rfl,qt,ej,hno,q,_,_,_,rfl,rfl,q0,AG (j:=0) rfl,k _ (.inl ⟨e,rfl⟩)⟩
  | 1,ej,hno =>
   have e:=(Option.some.inj ej).symm
   exact ⟨_,rfl,.inr (.inl ⟨rfl,T.FW⟩),_,rfl,ad.BC,SRT,so,1,rfl,rfl,qt,ej,hno,q,_,_,_,rfl,rfl,q0,AG (j:=1) rfl,k _ (.inr (.inl ⟨e,rfl⟩))⟩
  | 2,ej,hno =>
   have e:=(Option.some.inj ej).symm
   exact ⟨_,rfl,.inr (.inl ⟨rfl,T.FW⟩),_,rfl,ad.BC,SRT,so,2,rfl,rfl,qt,ej,hno,q,_,_,_,rfl,rfl,q0,AG (j:=2) rfl,k _ (.inr (.inr (.inl ⟨e,a1,a2⟩)))⟩
  | 3,ej,hno =>
   have e:=(Option.some.inj ej).symm
   exact ⟨_,rfl,.inr (.inl ⟨rfl,T.FW⟩),_,rfl,ad.BC,SRT,so,3,rfl,rfl,qt,ej,hno,q,_,_,_,rfl,rfl,q0,AG (j:=3) rfl,k _ (.inr (.inr (.inr ⟨e,a3,a4⟩)))⟩
theorem Dl.parts {H:Hp} {p:Addr} {k:Kd} {nm so:Str} (h:Dl H p k nm so):SqT K H p (stV k nm so)/\atI (stV k nm so) 1=some (.str nm)/\atI (stV k nm so) 3=some (.str so)/\atI (stV k nm so) 0=some (.str (match k with|.each .. => "each" | .gap .. => "gap")):=by
 refine ⟨SqT.of h,?_⟩
 cases k <;> exact ⟨AG (j:=1) rfl,AG (j:=3) rfl,AG (j:=0) rfl⟩
def N7 (nm key:Str) (p:Pc) (v:Int):List Key:=[.inr nm,.inr key,.inl p.1,.inl p.2.1,.inl v]
def Q2:Sp:=fun vs H Q _=>∃(p a q:Addr) (k:Kd) (nm so key:Str) (pc:Pc) (ts:List V),vs=[.ref p,.str key,.ref a]/\Dl H p k nm so/\so∈SRT/\H a=some (.tup [.int pc.1,.int pc.2.1,.ref q])/\H q=some (.tup ts)/\Tal pc.2.2 ts /\
 ∀v:Int,FN so pc.2.2 v→∀r,H r=none→Q (.ref r) (upd H r (.tup ((N7 nm key pc v).map kV)))
theorem OI (T:Tx K mg ad):A9 P w K mg base CX0 2 ad.DM ad.EE ["step", "key", "piece"] Q2:=by
 have G_value:=Pu (P:=P) (w:=w) (base:=base) T
 refine T.DS.ok J3 (fun vs H Q E h=>?_) (fun cdv A outer s H vs Q E hr h=>?_)
 ·obtain ⟨p,a,q,k,nm,so,key,pc,ts,rfl,_⟩:=h
  rfl
 ·obtain ⟨p,a,q,kd,nm,so,key,⟨s0,e0,ns⟩,ts,rfl,ep,hso,ea,eq,tal,k⟩:=h
  have nd:=J3.nd
  refine ⟨_,(AJ (Ae (A8 (AA (AN (AI (K:=K)) (pv 0) AD (fun _ _=>rfl)) (AA (pv 1) (AA (AN (AI (K:=K)) (pv 2) AD (fun _ _=>rfl)) (AA (AN (AI (K:=K)) (pv 2) AD (fun _ _=>rfl)) (AA (Af G_value (hr.mono (by decide)) (by rfl) T.Rg T.El.kp T.R5 .nil As (AA (AN (AI (K:=K)) (pv 0) AD (fun _ _=>rfl)) (AA (AN (AI (K:=K)) (pv 2) AD (fun _ _=>rfl)) AE))) AE)))))))),?_⟩
  obtain ⟨p0,p1,p3,_⟩:=ep.parts (K:=K)
  have a0:SqT K H a _:=SqT.of ea
  exact ⟨_,rfl,p,_,_,_,rfl,rfl,p0,p1,_,rfl,_,rfl,a,_,_,_,rfl,rfl,a0,AG (j:=0) rfl,_,rfl,a,_,_,_,rfl,rfl,a0,AG (j:=1) rfl,_,rfl,p,_,_,_,rfl,rfl,p0,p3,_,rfl,a,_,_,_,rfl,rfl,a0,AG (j:=2) rfl,so,q,ns,ts,rfl,hso,eq,tal,fun v hv=>⟨Nat.le_of_ble_eq_true rfl,fun r hr=>k v hv r hr⟩⟩
def Q4:Sp:=fun vs H Q _=>∃(a:Addr) (nm key:Str) (pc:Pc) (v:Int),vs=[.ref a]/\H a=some (.tup ((N7 nm key pc v).map kV))/\∀r,H r=none→Q (.ref r) (upd H r (.tup [.int pc.2.1,.str key,.int pc.1]))
theorem Pw (T:Tx K mg ad):A9 P w K mg base CX0 1 ad.CK ad.Cs ["row"] Q4:=by
 refine T.Cy.ok Hr (fun vs H Q E h=>?_) (fun cdv A outer s H vs Q E hr h=>?_)
 ·obtain ⟨a,nm,key,pc,v,rfl,_⟩:=h
  rfl
 ·obtain ⟨a,nm,key,pc,v,rfl,ea,k⟩:=h
  have nd:=Hr.nd
  refine ⟨_,(AJ (Ae (A8 (AA (AN (AI (K:=K)) (pv 0) AD (fun _ _=>rfl)) (AA (AN (AI (K:=K)) (pv 0) AD (fun _ _=>rfl)) (AA (AN (AI (K:=K)) (pv 0) AD (fun _ _=>rfl)) AE)))))),?_⟩
  have a0:SqT K H a _:=SqT.of ea
  exact ⟨_,rfl,a,_,_,_,rfl,rfl,a0,AG (j:=3) rfl,_,rfl,a,_,_,_,rfl,rfl,a0,AG (j:=1) rfl,_,rfl,a,_,_,_,rfl,rfl,a0,AG (j:=2) rfl,Nat.le_of_ble_eq_true rfl,k⟩
structure Cf (ex:List Addr) (H:Hp) (d:Addr) (g:Str→List Pc) (kvs:List (Key×V)):Prop where
 dict:H d=some (.dK kvs)
 nd:(kvs.map (·.1)).Nodup
 row:∀q∈kvs,∃(key:Str) (r:Addr) (xs:List V),q=(.inr key,.ref r)/\r∉ex/\H r=some (.lst xs)/\C7 H xs (g key)/\g key≠[]
 all:∀key,g key≠[]→(.inr key:Key)∈kvs.map (·.1)
theorem Cf.keep {ex:List Addr}{H H':Hp}{d:Addr}{g:Str→List Pc}{kvs:List (Key×V)}(h:Cf ex H d g kvs) (kd:H' d=some (.dK kvs)) (kl:∀b xs,b∉ex→H b=some (.lst xs)→H' b=some (.lst xs)) (t:Tp H H'):Cf ex H' d g kvs :=
 ⟨kd,h.nd,fun q hq=>by
  obtain ⟨key,r,xs,e,n,er,w,ne⟩:=h.row q hq
  exact ⟨key,r,xs,e,n,kl _ _ n er,w.keep t,ne⟩,h.all⟩
theorem Cf.same {ex:List Addr}{H H':Hp}{d:Addr}{g:Str→List Pc}{kvs:List (Key×V)}(h:Cf ex H d g kvs) (s:AH H H'):Cf ex H' d g kvs:=h.keep (s _ _ h.dict) (fun _ _ _ e=>s _ _ e) s.tp
theorem Cf.at {ex:List Addr}{H:Hp}{d:Addr}{g:Str→List Pc}{kvs:List (Key×V)}(h:Cf ex H d g kvs) (key:Str):(A0 kvs (.inr key)=none/\g key=[])\/∃r xs,A0 kvs (.inr key)=some (.ref r)/\r∉ex/\H r=some (.lst xs)/\C7 H xs (g key)/\g key≠[]:=by
 cases hv:A0 kvs (.inr key) with
 | none =>
  refine .inl ⟨rfl,?_⟩
  cases hg:g key with
  | nil=>rfl
  | cons a b =>
   obtain ⟨v,hv'⟩:=Cz (h.all key (by rw [hg];simp))
   rw [hv] at hv'
   cases hv'
 | some v =>
  obtain ⟨key',r,xs,e,n,er,w,ne⟩:=h.row _ (B6 hv)
  cases e
  exact .inr ⟨r,xs,rfl,n,er,w,ne⟩
def E6 (g:Str→List Pc) (key:Str) (ps:List Pc):Str→List Pc:=fun k=>if k=key then ps else g k
theorem CY {g:Str→List Pc}{key:Str}{ps:List Pc}:E6 g key ps key=ps:=if_pos rfl
theorem Bi {g:Str→List Pc}{key k:Str}{ps:List Pc}(h:k≠key):E6 g key ps k=g k:=if_neg h
theorem Cf.put {ex:List Addr}{H:Hp}{d r:Addr}{g:Str→List Pc}{kvs:List (Key×V)}{key:Str}{xs:List V}{ps:List Pc}(h:Cf ex H d g kvs) (hr:r∉ex) (er:H r=some (.lst xs)) (hw:C7 H xs ps) (ne:ps≠[]) :
  Cf ex (upd H d (.dK (putK kvs (.inr key) (.ref r)))) d (E6 g key ps) (putK kvs (.inr key) (.ref r)):=by
 have k1:∀{b:Addr} {ys:List V},H b=some (.lst ys)→(upd H d (.dK (putK kvs (.inr key) (.ref r)))) b=some (.lst ys):=fun {b ys} e=>by
  rw [AF fun z=>by rw [z,h.dict] at e;cases e];exact e
 have tp:Tp H (upd H d (.dK (putK kvs (.inr key) (.ref r)))):=(Tp.refl H).upd h.dict fun xs=>by intro z;cases z
 refine ⟨AB,F3 h.nd,fun q hq=>?_,fun k hk=>?_⟩
 ·rcases Cc hq with rfl|⟨hm,hne⟩
  ·exact ⟨key,r,xs,rfl,hr,k1 er,by rw [CY];exact hw.keep tp,by rw [CY];exact ne⟩
  ·obtain ⟨key',r',xs',e,n,er',w',ne'⟩:=h.row q hm
   subst e
   have hk:key'≠key:=fun z=>hne (by show (Sum.inr key':Key)=.inr key;rw [z])
   exact ⟨key',r',xs',rfl,n,k1 er',by rw [Bi hk];exact w'.keep tp,by rw [Bi hk];exact ne'⟩
 ·by_cases e:k=key
  ·subst e
   obtain ⟨v,hv⟩:∃v,A0 (putK kvs (.inr k) (.ref r)) (.inr k)=some v:=⟨_,by rw [LI,if_pos rfl]⟩
   exact List.mem_map.mpr ⟨_,B6 hv,rfl⟩
  ·rw [Bi e] at hk
   obtain ⟨v,hv⟩:=Cz (h.all k hk)
   have:A0 (putK kvs (.inr key) (.ref r)) (.inr k)=some v:=by rw [LI,if_neg (fun z=>e (Sum.inr.inj z))];exact hv
   exact List.mem_map.mpr ⟨_,B6 this,rfl⟩
structure BJ (ad:Ad) (ex:List Addr) (H:Hp) (x p d:Addr) (k:Kd) (nm so:Str) (g:Str→List Pc) (kvs:List (Key×V)):Prop where
 obj:∃dx,H x=some (.ins ad.AU dx [("step", .ref p),("rows", .ref d)])
 step:Dl H p k nm so
 rows:Cf ex H d g kvs
theorem BJ.same {ex:List Addr}{H H':Hp}{x p d:Addr}{k:Kd}{nm so:Str}{g:Str→List Pc}{kvs:List (Key×V)}(h:BJ ad ex H x p d k nm so g kvs) (s:AH H H'):BJ ad ex H' x p d k nm so g kvs:=by
 obtain ⟨⟨dx,e⟩,st,r⟩:=h
 exact ⟨⟨dx,s _ _ e⟩,s _ _ st,r.same s⟩
theorem BJ.Me {ex:List Addr}{H H':Hp}{x p d:Addr}{k:Kd}{nm so:Str}{g g':Str→List Pc}{kvs kvs':List (Key×V)}(h:BJ ad ex H x p d k nm so g kvs) (s:BW d H H') (r:Cf ex H' d g' kvs'):BJ ad ex H' x p d k nm so g' kvs':=by
 obtain ⟨⟨dx,e⟩,st,r0⟩:=h
 have nd:x≠d:=fun z=>by rw [z,r0.dict] at e;cases e
 have np:p≠d:=fun z=>by have st:H p=_:=st;rw [z,r0.dict] at st;cases st
 exact ⟨⟨dx,s _ _ nd e⟩,s _ _ np st,r⟩
def Q9 (ad:Ad):Sp:=fun vs H Q _=>∃(x dx p:Addr),vs=[.ref x,.ref p]/\H x=some (.ins ad.AU dx [])/\∀d,H d=none→Q .non (upd (upd (upd H x (.ins ad.AU dx [("step", .ref p)])) d (.dK [])) x (.ins ad.AU dx [("step", .ref p),("rows", .ref d)]))
theorem P1 (T:Tx K mg ad):A9 P w K mg base CX0 1 ad.Ao ad.BD ["self", "step"] (Q9 ad):=by
 refine T.A3.ok DV (fun vs H Q E h=>?_) (fun cdv A outer s H vs Q E hr h=>?_)
 ·obtain ⟨x,dx,p,rfl,_⟩:=h
  rfl
 ·obtain ⟨x,dx,p,rfl,e,k⟩:=h
  have nd:=DV.nd
  refine ⟨_,(AO (Pe (pv 0) (pv 1) rfl)
    (AJ (Pe (pv 0) Lh rfl))),?_⟩
  refine ⟨_,rfl,_,rfl,x,_,dx,[],rfl,e,T.A1,T.Bb,by decide,?_⟩
  refine fun d hd=>⟨_,rfl,x,_,dx,[("step", .ref p)],rfl,?_,T.A1,T.An,(by show 1<1000;decide),?_⟩
  ·rw [AF (AK AB hd)];exact AB
  ·refine k d ?_
   rw [AF (AK AB hd).symm] at hd
   exact hd
def MX (ad:Ad):Sp:=fun vs H Q _=>∃(ex:List Addr) (x p d q:Addr) (k:Kd) (nm so key:Str) (g:Str→List Pc) (kvs:List (Key×V)) (its:Bq) (now t a:Int),vs=[.ref x,.ref q]/\BJ ad ex H x p d k nm so g kvs/\(∀c∈ex,∃o,H c=some o)/\k.ok/\OpenK k its now (g key)/\now≤t/\0≤t/\t≤2000000000/\H q=some (.tup [.int t,.str key,.int a])/\(g key).length≤1000/\kvs.length≤1000 /\
 ∀H' ps' kvs',BW d H H'→BJ ad ex H' x p d k nm so (E6 g key ps') kvs'→OpenK k (its++[(t,a)]) now ps'→ps'.length≤(g key).length+21→kvs'.length≤kvs.length+1→Q .non H'
theorem Rb (T:Tx K mg ad):A9 P w K mg base CX0 5 ad.Bp ad.CV ["self", "item"] (MX ad):=by
 have G_put_by:=OJ (P:=P) (w:=w) (base:=base) T
 refine T.Bt.ok GO (fun vs H Q E h=>?_) (fun cdv A outer s H vs Q E hr h=>?_)
 ·obtain ⟨ex,x,p,d,q,k,nm,so,key,g,kvs,its,now,t,a,rfl,_⟩:=h
  rfl
 ·obtain ⟨ex,x,p,d,q,kd,nm,so,key,g,kvs,its,now,t,a,rfl,gr,hex,ok,op,hn,t0,t1,eq,lg,lk,k⟩:=h
  have nd:=GO.nd
  refine ⟨_,(AO (AX (i:=2) nd rfl (Or.inl rfl) (AN (AI (K:=K)) (pv 1) AD (fun _ _=>rfl)))
    (AJ (NV hr.u1 (Dr (pv 0) rfl) (pv 2) (Af G_put_by (hr.mono (by decide)) (by rfl) T.QI T.DT.kp T.Ql .nil As (AA (Dr (pv 0) rfl) (AA (Pn hr.u1 (Dr (pv 0) rfl) (pv 2) (Ax AE) ⟨rfl,rfl,rfl,rfl⟩) (AA (pv 1) AE)))) rfl))),?_⟩
  have sz:sizeLine=16777216:=sizeLine_eq
  obtain ⟨dx,eo⟩:=gr.obj
  refine ⟨_,rfl,q,_,_,_,rfl,rfl,SqT.of eq,AG (j:=1) rfl,?_⟩
  have isd:IsD H d:=.inl ⟨kvs,.inl gr.rows.dict⟩
  refine ⟨_,rfl,x,_,dx,_,_,rfl,eo,T.A1,T.Bb,rfl,_,rfl,x,_,dx,_,_,rfl,eo,T.A1,T.An,rfl,d,rfl,isd,_,rfl,Nat.zero_le _,fun el hel=>?_⟩
  have s1:=AH.AW (o:=.lst []) hel
  have eel:(upd H el (.lst [])) el=some (.lst []):=AB
  generalize upd H el (.lst [])=H1 at s1 eel ⊢
  have gr1:=gr.same s1
  obtain ⟨dx1,eo1⟩:=gr1.obj
  obtain ⟨rw_,xs,erw,er,hw⟩:∃(r:Addr) (xs:List V),(A0 kvs (.inr key)).getD (.ref el)=.ref r/\H1 r=some (.lst xs)/\C7 H1 xs (g key):=by
   rcases gr1.rows.at key with ⟨e1,e2⟩|⟨r,xs,e1,_,er,hw,_⟩
   ·exact ⟨el,[],by rw [e1];rfl,eel,by rw [e2];exact .nil⟩
   ·exact ⟨r,xs,by rw [e1];rfl,er,hw⟩
  refine ⟨_,Jp.k (k:=Sum.inr key) gr1.rows.dict,?_⟩
  rw [erw]
  refine ⟨_,rfl,p,rw_,q,kd,nm,so,key,xs,its,g key,now,t,a,rfl,gr1.step,ok,er,hw,op,hn,t0,t1,s1 _ _ eq,lg,fun H2 r xs' ps' s2 hr er2 hw2 op2 ne2 ll=>?_⟩
  have gr2:=gr1.same s2
  obtain ⟨dx2,eo2⟩:=gr2.obj
  refine ⟨_,rfl,x,_,dx2,_,_,rfl,eo2,T.A1,T.An,rfl,_,rfl,d,_,rfl,Ox.k (k:=Sum.inr key) gr2.rows.dict (by omega),?_⟩
  have hrx:r∉ex:=fun hm=>by
   obtain ⟨o,e⟩:=hex r hm
   rw [s1 _ _ e] at hr
   cases hr
  exact k _ ps' _ ((((s1.trans s2).x d)).upd) (gr2.Me (fun b o nb e=>by rw [AF nb];exact e) (gr2.rows.put hrx er2 hw2 ne2)) op2 ll (by have:=GZ kvs (.inr key) (.ref r);omega)
theorem Bn {α:Type}{p:α→Bool}{l:List α}{n:Nat}{x:α}(e:l[n]?=some x):(l.take (n+1)).filter p=(l.take n).filter p++(if p x=true then [x] else []):=Gp.Bn e
def PB:Sp:=fun vs H Q _=>∃(l:Addr) (xs:List V) (ps:List Pc) (now:Int),vs=[.ref l,.int now]/\H l=some (.lst xs)/\C7 H xs ps/\ps.length≤100000 /\
 ∀H' q r1 r2 x1 x2,AH H H'→H r1=none→H r2=none→r1≠r2→H' q=some (.tup [.ref r1,.ref r2])→H' r1=some (.lst x1)→H' r2=some (.lst x2)→C7 H' x1 (ps.filter fun p=>decide (p.2.1≤now))→C7 H' x2 (ps.filter fun p=>decide (now<p.2.1))→Q (.ref q) H'
theorem OM (T:Tx K mg ad):A9 P w K mg base CX0 1 ad.DO ad.EG ["pieces", "now"] PB:=by
 refine T.DU.ok J5 (fun vs H Q E h=>?_) (fun cdv A outer s H vs Q E hr h=>?_)
 ·obtain ⟨l,xs,ps,now,rfl,_⟩:=h
  rfl
 ·obtain ⟨l,xs,ps,now,rfl,el,hw,hl,k⟩:=h
  have nd:=J5.nd
  refine ⟨_,(AO (FQ (i:=2) (osc:=AM E4) [("now", 1)] nd rfl (Or.inl rfl) rfl (Ai (K:=K) (pv 0)) rfl rfl (by decide +kernel) (by decide +kernel) (by decide +kernel) ⟨rfl,rfl,trivial⟩ rfl (by decide +kernel) (fun _ _ _ _=>DY (Ah NY (AN (AI (K:=K)) (pv 0) AD (fun _ _=>rfl)) (pv 1) (Ak _))) (fun _ _ _ _=>(pv 0)))
    (AO (FQ (i:=3) (osc:=AM E4) [("now", 1)] nd rfl (Or.inl rfl) rfl (Ai (K:=K) (pv 0)) rfl rfl (by decide +kernel) (by decide +kernel) (by decide +kernel) ⟨rfl,rfl,trivial⟩ rfl (by decide +kernel) (fun _ _ _ _=>DY (Ah Lm (AN (AI (K:=K)) (pv 0) AD (fun _ _=>rfl)) (pv 1) (Ak _))) (fun _ _ _ _=>(pv 0)))
    (AJ (Ae (A8 (AA (pv 2) (AA (pv 3) AE))))))),?_⟩
  have sz:sizeLine=16777216:=sizeLine_eq
  have i1:∀{a b c:V},atI [a,b,c] 1=some b:=AG (j:=1) rfl
  have lx:=hw.len
  refine ⟨_,rfl,l,rfl,⟨_,SqL.of el⟩,?_⟩
  refine Bw (K:=K) (xs:=xs) (fun n τ acc H'=>(∃o,τ=[o,some (.int now)])/\H'=H/\C7 H acc ((ps.take n).filter fun p=>decide (p.2.1≤now))) (by omega) ⟨⟨none,rfl⟩,rfl,.nil⟩ (fun n τ acc H' ⟨_,e,_⟩=>by rw [e];exact SqL.of el) ?_ ?_
  ·rintro n y τ acc H' R1 R0 hy _ ⟨⟨o,rfl⟩,rfl,hp⟩ k1 k0
   obtain ⟨p,b,q,ts,ep,rfl,eb,eq,tal⟩:=hw.ix hy
   have fs:=Bn (p:=fun p:Pc=>decide (p.2.1≤now)) ep
   refine ⟨_,rfl,b,_,_,_,rfl,rfl,SqT.of eb,i1,_,rfl,_,_,rfl,rfl,_,rfl,JS (fun e=>⟨_,rfl,k1 _ _ _ ⟨⟨_,rfl⟩,rfl,?_⟩⟩) fun e=>k0 _ _ ⟨⟨_,rfl⟩,rfl,?_⟩⟩
   ·rw [if_pos (decide_eq_true e)] at fs
    rw [fs];exact Ag hp (.cons ⟨b,q,ts,rfl,eb,eq,tal⟩ .nil)
   ·rw [if_neg (by simpa using e),List.append_nil] at fs
    rw [fs];exact hp
  rintro τ x1 H' _ ⟨_,rfl,hp1⟩ r1 hr1
  rw [List.take_of_length_le (by omega)] at hp1
  have s1:=AH.AW (o:=.lst x1) hr1
  have e1:(upd H' r1 (.lst x1)) r1=some (.lst x1):=AB
  have hp1':=hp1.keep s1.tp
  generalize upd H' r1 (.lst x1)=H1 at s1 e1 hp1' ⊢
  have hw1:=hw.keep s1.tp
  refine ⟨_,rfl,l,rfl,⟨_,SqL.of (s1 _ _ el)⟩,?_⟩
  refine Bw (K:=K) (xs:=xs) (fun n τ acc H'=>(∃o,τ=[o,some (.int now)])/\H'=H1/\C7 H1 acc ((ps.take n).filter fun p=>decide (now<p.2.1))) (by omega) ⟨⟨none,rfl⟩,rfl,.nil⟩ (fun n τ acc H' ⟨_,e,_⟩=>by rw [e];exact SqL.of (s1 _ _ el)) ?_ ?_
  ·rintro n y τ acc H2 R1 R0 hy _ ⟨⟨o,rfl⟩,rfl,hp⟩ k1 k0
   obtain ⟨p,b,q,ts,ep,rfl,eb,eq,tal⟩:=hw1.ix hy
   have fs:=Bn (p:=fun p:Pc=>decide (now<p.2.1)) ep
   refine ⟨_,rfl,b,_,_,_,rfl,rfl,SqT.of eb,i1,_,rfl,_,_,rfl,rfl,_,rfl,JS (fun e=>⟨_,rfl,k1 _ _ _ ⟨⟨_,rfl⟩,rfl,?_⟩⟩) fun e=>k0 _ _ ⟨⟨_,rfl⟩,rfl,?_⟩⟩
   ·rw [if_pos (decide_eq_true e)] at fs
    rw [fs];exact Ag hp (.cons ⟨b,q,ts,rfl,eb,eq,tal⟩ .nil)
   ·have e:¬ now<p.2.1:=e
    rw [if_neg (by simpa using e),List.append_nil] at fs
    rw [fs];exact hp
  rintro τ x2 H2 _ ⟨_,rfl,hp2⟩ r2 hr2
  rw [List.take_of_length_le (by omega)] at hp2
  have s2:=AH.AW (o:=.lst x2) hr2
  have e2:(upd H2 r2 (.lst x2)) r2=some (.lst x2):=AB
  have hp2':=hp2.keep s2.tp
  have n12:r1≠r2:=AK e1 hr2
  generalize upd H2 r2 (.lst x2)=H3 at s2 e2 hp2' ⊢
  refine ⟨_,rfl,_,rfl,Nat.le_of_ble_eq_true rfl,fun q hq=>?_⟩
  have s3:=AH.AW (o:=.tup [.ref r1,.ref r2]) hq
  exact k _ q r1 r2 x1 x2 (s1.trans (s2.trans s3)) hr1 (s1.free hr2) n12 AB ((s2.trans s3) _ _ e1) (s3 _ _ e2) (hp1'.keep (s2.trans s3).tp) (hp2'.keep s3.tp)
theorem Cf.drop {ex:List Addr}{H:Hp}{d:Addr}{g:Str→List Pc}{kvs:List (Key×V)}(h:Cf ex H d g kvs) (key:Str):Cf ex (upd H d (.dK (CT kvs (.inr key)))) d (E6 g key []) (CT kvs (.inr key)):=by
 have k1:∀{b:Addr} {ys:List V},H b=some (.lst ys)→(upd H d (.dK (CT kvs (.inr key)))) b=some (.lst ys):=fun {b ys} e=>by
  rw [AF fun z=>by rw [z,h.dict] at e;cases e];exact e
 have tp:Tp H (upd H d (.dK (CT kvs (.inr key)))):=(Tp.refl H).upd h.dict fun xs=>by intro z;cases z
 have mem:∀{q:Key×V},q∈CT kvs (.inr key)↔q∈kvs/\q.1≠.inr key:=fun {q}=>by
  unfold CT
  rw [List.mem_filter,decide_eq_true_eq]
 refine ⟨AB,h.nd.sublist (List.Sublist.map _ List.filter_sublist),fun q hq=>?_,fun k hk=>?_⟩
 ·obtain ⟨hm,hne⟩:=mem.mp hq
  obtain ⟨key',r',xs',e,n,er',w',ne'⟩:=h.row q hm
  subst e
  have hk:key'≠key:=fun z=>hne (by show (Sum.inr key':Key)=.inr key;rw [z])
  exact ⟨key',r',xs',rfl,n,k1 er',by rw [Bi hk];exact w'.keep tp,by rw [Bi hk];exact ne'⟩
 ·have e:k≠key:=fun z=>hk (by rw [z];exact CY)
  rw [Bi e] at hk
  obtain ⟨q,hq,eq⟩:=List.mem_map.mp (h.all k hk)
  exact List.mem_map.mpr ⟨q,mem.mpr ⟨hq,by rw [eq];exact fun z=>e (Sum.inr.inj z)⟩,eq⟩
theorem OC {g:Str→List Pc}{key:Str}{a b:List Pc}:E6 (E6 g key a) key b=E6 g key b:=by
 funext k
 by_cases e:k=key
 ·rw [e,CY,CY]
 ·rw [Bi e,Bi e,Bi e]
def B7:Option Int→List Pc→List Pc
 | none,ps=>ps
 | some now,ps=>ps.filter fun p=>decide (p.2.1≤now)
def Az:Option Int→List Pc→List Pc
 | none,_=>[]
 | some now,ps=>ps.filter fun p=>decide (now<p.2.1)
def Ln:Option Int→V
 | none=>.non
 | some n=>.int n
def Si (ad:Ad):Sp:=fun vs H Q _=>∃(ex:List Addr) (x p d:Addr) (k:Kd) (nm so key:Str) (g:Str→List Pc) (kvs:List (Key×V)) (now:Option Int),vs=[.ref x,.str key,Ln now]/\BJ ad ex H x p d k nm so g kvs/\(∀c∈ex,∃o,H c=some o)/\g key≠[]/\(g key).length≤10000/\kvs.length≤1000 /\
 ∀H' r xs kvs',BW d H H'→BJ ad ex H' x p d k nm so (E6 g key (Az now (g key))) kvs'→H' r=some (.lst xs)→C7 H' xs (B7 now (g key))→kvs'.length≤kvs.length→Q (.ref r) H'
theorem RY (T:Tx K mg ad):A9 P w K mg base CX0 2 ad.Bc ad.Bv ["self", "key", "now"] (Si ad):=by
 have G_parted:=OM (P:=P) (w:=w) (base:=base) T
 refine T.Bd.ok Fi (fun vs H Q E h=>?_) (fun cdv A outer s H vs Q E hr h=>?_)
 ·obtain ⟨ex,x,p,d,k,nm,so,key,g,kvs,now,rfl,_⟩:=h
  rfl
 ·obtain ⟨ex,x,p,d,kd,nm,so,key,g,kvs,now,rfl,gr,hex,hg,lg,lk,k⟩:=h
  have nd:=Fi.nd
  refine ⟨_,(AO (AX (i:=3) nd rfl (Or.inl rfl) (Pl (Dr (pv 0) rfl) (pv 1) ⟨rfl,rfl,rfl,rfl⟩))
    (AO (Be (Ah Sz (pv 2) E8 (Ak _))
    (AJ (Ae (pv 3)))
    A4)
    (AO (AX (i:=4) nd rfl (Or.inl rfl) (Af G_parted (hr.mono (by decide)) (by rfl) T.QJ T.DU.kp T.Qm .nil As (AA (pv 3) (AA (pv 2) AE))))
    (AO (E7 (Be (Ah Lm (Ab (BB (K:=K)) (by rfl) T.Er PySem.boot_len (AA (AN (AI (K:=K)) (pv 4) AD (fun _ _=>rfl)) AE)) AD (Ak _))
    (AJ (NV hr.u1 (Dr (pv 0) rfl) (pv 1) (AN (AI (K:=K)) (pv 4) AD (fun _ _=>rfl)) rfl))
    A4))
    (AJ (Ae (AN (AI (K:=K)) (pv 4) AD (fun _ _=>rfl)))))))),?_⟩
  have sz:sizeLine=16777216:=sizeLine_eq
  obtain ⟨dx,eo⟩:=gr.obj
  have isd:IsD H d:=.inl ⟨kvs,.inl gr.rows.dict⟩
  rcases gr.rows.at key with ⟨_,e2⟩|⟨r,xs,e1,hrx,er,hw,_⟩
  ·exact absurd e2 hg
  refine ⟨_,rfl,x,_,dx,_,_,rfl,eo,T.A1,T.An,rfl,d,rfl,isd,_,rfl,kvs,.inr key,.ref r,gr.rows.dict,rfl,e1,?_⟩
  have rd:=gr.rows.drop key
  have sx1:BW d H (upd H d (.dK (CT kvs (.inr key)))):=fun b o nb e=>by rw [AF nb];exact e
  have gr1:=gr.Me sx1 rd
  have nrd:r≠d:=fun z=>by rw [z,gr.rows.dict] at er;cases er
  have er1:=sx1 _ _ nrd er
  have hw1:=hw.keep (sx1.tp gr.rows.dict (by intro xs z;cases z))
  have ll:(CT kvs (.inr key)).length≤kvs.length:=List.length_filter_le _ _
  generalize upd H d (.dK (CT kvs (.inr key)))=H1 at sx1 gr1 er1 hw1 ⊢
  have lt1:A0 (CT kvs (.inr key)) (.inr key)=none→(CT kvs (.inr key)).length<kvs.length:=fun _=>by
   have hm:=B6 e1
   have hne:CT kvs (.inr key)≠kvs:=fun z=>by
    rw [←z] at hm
    unfold CT at hm
    have:=(List.mem_filter.mp hm).2
    simp at this
   rcases Nat.lt_or_ge (CT kvs (.inr key)).length kvs.length with h|h
   ·exact h
   ·exact absurd (List.Sublist.eq_of_length_le (List.filter_sublist) h) hne
  generalize CT kvs (.inr key)=kvs1 at gr1 ll lt1
  cases now with
  | none =>
   exact ⟨_,rfl,rfl,_,rfl,UR rfl ⟨_,rfl,k H1 r xs kvs1 sx1 gr1 er1 hw1 ll⟩⟩
  | some now =>
   refine ⟨_,rfl,rfl,_,rfl,UQ (by intro z;cases z) ⟨_,rfl,_,rfl,r,xs,g key,now,rfl,er1,hw1,by omega,fun H2 q r1 r2 x1 x2 s2 hr1 hr2 n12 eq e1 e2 p1 p2=>?_⟩⟩
   have gr2:=gr1.same s2
   obtain ⟨dx2,eo2⟩:=gr2.obj
   have q0:SqT K H2 q _:=SqT.of eq
   have l2:=p2.len
   refine IB (fun σ' H'=>∃kvs',σ'=[some (.ref x),some (.str key),some (.int now),some (.ref r),some (.ref q)]/\BW d H2 H'/\BJ ad ex H' x p d kd nm so (E6 g key (Az (some now) (g key))) kvs'/\kvs'.length≤kvs.length) ?_ ?_
   ·refine ⟨_,rfl,q,_,_,_,rfl,rfl,q0,AG (j:=1) rfl,r2,x2,rfl,.inl (SqL.of e2),_,_,rfl,rfl,_,rfl,JS (fun h=>?_) fun h=>?_⟩
    ·refine ⟨_,rfl,q,_,_,_,rfl,rfl,q0,AG (j:=1) rfl,_,rfl,x,_,dx2,_,_,rfl,eo2,T.A1,T.An,rfl,_,rfl,d,_,rfl,Ox.k (k:=Sum.inr key) gr2.rows.dict (by omega),?_⟩
     have hrx2:r2∉ex:=fun hm=>by
      obtain ⟨o,e⟩:=hex r2 hm
      have nd:r2≠d:=fun z=>by rw [z,gr1.rows.dict] at hr2;cases hr2
      rw [sx1 _ _ nd e] at hr2
      cases hr2
     have ne2:Az (some now) (g key)≠[]:=fun z=>by
      have:x2.length=0:=by rw [l2];exact congrArg List.length z
      omega
     have rp:=gr2.rows.put (key:=key) hrx2 e2 p2 ne2
     rw [OC] at rp
     have sxp:BW d H2 (upd H2 d (.dK (putK kvs1 (.inr key) (.ref r2)))):=fun b o nb e=>by rw [AF nb];exact e
     refine ⟨_,rfl,sxp,gr2.Me sxp rp,?_⟩
     have nk:(A0 kvs1 (.inr key))=none:=by
      rcases gr2.rows.at key with ⟨e,_⟩|⟨_,_,_,_,_,_,ne⟩
      ·exact e
      ·exact absurd CY ne
     have lk1:kvs1.length<kvs.length:=lt1 nk
     have:=GZ kvs1 (.inr key) (.ref r2)
     omega
    ·have e0:Az (some now) (g key)=[]:=List.eq_nil_of_length_eq_zero (by show (List.filter (fun p:Pc=>decide (now<p.2.1)) (g key)).length=0;omega)
     exact ⟨kvs1,rfl,fun b o _ e=>e,by rw [e0];exact gr2,ll⟩
   ·rintro σ' H3 ⟨kvs',rfl,sx3,gr3,l3⟩
    have nqd:q≠d:=fun z=>by rw [z,gr2.rows.dict] at eq;cases eq
    have n1d:r1≠d:=fun z=>by rw [z,gr2.rows.dict] at e1;cases e1
    exact ⟨_,rfl,q,_,_,_,rfl,rfl,SqT.of (sx3 _ _ nqd eq),AG (j:=0) rfl,k H3 r1 x1 kvs' (sx1.trans ((s2.x d).trans sx3)) gr3 (sx3 _ _ n1d e1) (p1.keep (sx3.tp gr2.rows.dict (by intro xs z;cases z))) l3⟩
def PkA (H:Hp) (x:V) (kp:Str×Pc):Prop:=∃(a q:Addr) (ts:List V),x=.ref a/\H a=some (.tup [.str kp.1,.int kp.2.1,.int kp.2.2.1,.ref q])/\H q=some (.tup ts)/\Tal kp.2.2.2 ts
def PkS (H:Hp) (xs:List V) (ps:List (Str×Pc)):Prop:=Paired (PkA H) xs ps
theorem PkS.keep {H H':Hp}{xs:List V}{ps:List (Str×Pc)}(h:PkS H xs ps) (t:Tp H H'):PkS H' xs ps:=Au (fun x p ⟨a,q,ts,e,e1,e2,e3⟩=>⟨a,q,ts,e,t _ _ e1,t _ _ e2,e3⟩) h
def AZ (g:Str→List Pc) (ks:List Str):List (Str×Pc):=ks.flatMap fun k=>(g k).map fun p=>(k,p)
def CA (ks:List Str):Prop:=(ks.map (Sum.inr:Str→Key)).Pairwise fun a b=>kLt b a=false
def Sh:Sp:=fun vs H Q _=>∃(ex:List Addr) (d:Addr) (g:Str→List Pc) (kvs:List (Key×V)),vs=[.ref d]/\Cf ex H d g kvs/\kvs.length≤100/\(∀k,(g k).length≤10000) /\
 ∀H' r xs ks,AH H H'→H r=none→H' r=some (.lst xs)→PkS H' xs (AZ g ks)→CA ks→ks.Nodup→(∀k,k∈ks↔g k≠[])→Q (.ref r) H'
theorem RX (T:Tx K mg ad):A9 P w K mg base CX0 1 ad.Bo ad.CU ["rows"] Sh:=by
 refine T.Br.ok GN (fun vs H Q E h=>?_) (fun cdv A outer s H vs Q E hr h=>?_)
 ·obtain ⟨ex,d,g,kvs,rfl,_⟩:=h
  rfl
 ·obtain ⟨ex,d,g,kvs,rfl,rg,lk,lg,k⟩:=h
  have nd:=GN.nd
  refine ⟨_,(AO (AX (i:=1) nd rfl (Or.inl rfl) (Ax AE))
    (AO (Dq PassesOwn.never rfl (Ai (K:=K) (Ab (K6 rfl) (by rfl) T.B0 PyProof.Rows.boot_sorted (AA (pv 0) AE))) (BM (i:=2) nd rfl (Or.inr rfl))
    (AJ (Bu (Cb (K:=K) F.plainAttrs_list F.slot_list_extend F.type_list_extend KC (pv 1) (AA (BN (osc:=AM DX) [("key", 2)] rfl (Ai (K:=K) (NW hr.u1 (pv 0) (pv 2) (fun _ _=>rfl))) rfl rfl (by decide +kernel) (by decide +kernel) (by decide +kernel) ⟨rfl,rfl,trivial⟩ rfl (by decide +kernel) (fun _ _ _ _=>B9) (fun _ _ _ _=>(AL (Pt (K:=K)) (A8 (AA (pv 1) AE)) (pv 0)))) AE)))))
    (AJ (Ae (pv 1))))),?_⟩
  have sz:sizeLine=16777216:=sizeLine_eq
  refine ⟨Nat.zero_le _,fun l hl=>?_⟩
  have s1:=AH.AW (o:=.lst []) hl
  have el:(upd H l (.lst [])) l=some (.lst []):=AB
  generalize upd H l (.lst [])=H1 at s1 el ⊢
  refine ⟨_,rfl,d,kvs,rfl,s1 _ _ rg.dict,.inr fun q hq'=>?_,fun ls kk hls pk ps=>?_⟩
  ·obtain ⟨z,r,xs,e,_⟩:=rg.row q hq'
   exact ⟨z,by rw [e]⟩
  obtain ⟨ks,rfl⟩:∃ks:List Str,kk=ks.map Sum.inr:=by
   refine ⟨kk.map fun k=>match k with|.inr i=>i|.inl _ => "", ?_⟩
   rw [List.map_map]
   refine ((List.map_congr_left (g:=id) fun k hk=>?_).trans (List.map_id _)).symm
   obtain ⟨q,hq,rfl⟩:=List.mem_map.mp (pk.mem_iff.mp hk)
   obtain ⟨z,r,xs,rfl,_⟩:=rg.row q hq
   rfl
  have s2:=AH.AW (o:=.lst ((ks.map Sum.inr).map kV)) hls
  have els:(upd H1 ls (.lst ((ks.map Sum.inr).map kV))) ls=some (.lst ((ks.map Sum.inr).map kV)):=AB
  generalize upd H1 ls (.lst ((ks.map Sum.inr).map kV))=H2 at s2 els ⊢
  have nll:ls≠l:=fun z=>by rw [z,el] at hls;cases hls
  have kn0:(ks.map (Sum.inr:Str→Key)).Nodup:=pk.nodup_iff.mpr rg.nd
  have kn:ks.Nodup:=by
   rw [List.Nodup,List.pairwise_map] at kn0
   exact kn0.imp fun h e=>h (by rw [e])
  have km:∀z,z∈ks↔g z≠[]:=fun z=>by
   constructor
   ·intro hz
    obtain ⟨q,hq,e⟩:=List.mem_map.mp (pk.mem_iff.mp (List.mem_map.mpr ⟨z,hz,rfl⟩))
    obtain ⟨z',r,xs,rfl,_,_,_,ne⟩:=rg.row q hq
    rw [←Sum.inr.inj e]
    exact ne
   ·intro ne
    obtain ⟨y,hy,e⟩:=List.mem_map.mp (pk.mem_iff.mpr (rg.all z ne))
    rw [←Sum.inr.inj e]
    exact hy
  have lks:ks.length≤100:=by
   have:=pk.length_eq
   rw [List.length_map,List.length_map] at this
   omega
  refine ⟨ls,rfl,⟨_,SqL.of els⟩,B8 (xs:=(ks.map Sum.inr).map kV) (fun i σ H'=>∃(o2:Option V) (acc:List V),σ=[some (.ref d),some (.ref l),o2]/\AH H H'/\H' l=some (.lst acc)/\H' ls=some (.lst ((ks.map Sum.inr).map kV))/\PkS H' acc (AZ g (ks.take i))/\acc.length≤10000 * i)
   ⟨none,[],rfl,s1.trans s2,s2 _ _ el,els,.nil,Nat.zero_le _⟩ (fun i σ H' _ ⟨_,_,_,_,_,e,_⟩=>SqL.of e) ?_ ?_⟩
  ·rintro i x σ H3 hx ⟨o2,acc,rfl,s3,el3,els3,hw3,la⟩
   rw [List.map_map,List.getElem?_map] at hx
   obtain ⟨z,hz,rfl⟩:=Option.map_eq_some_iff.mp hx
   have hi:i<ks.length:=(List.getElem?_eq_some_iff.mp hz).1
   have ne:=(km z).mp (List.mem_of_getElem? hz)
   rcases rg.at z with ⟨_,e⟩|⟨r,xs,hv,_,er,hw,_⟩
   ·exact absurd e ne
   have hxl:=hw.len
   have hgz:=lg z
   have ed3:=s3 _ _ rg.dict
   refine ⟨_,rfl,.inl ⟨rfl,_,SqL.of el3⟩,_,rfl,_,rfl,d,_,rfl,by have:=Jp.k (k:=Sum.inr z) ed3;rw [hv] at this;exact this,r,rfl,⟨_,SqL.of (s3 _ _ er)⟩,?_⟩
   refine BR (K:=K) (xs:=xs) (fun j τ acc' H'=>(∃o,τ=[o,some (.str z)])/\AH H3 H'/\PkS H' acc' (((g z).take j).map fun p=>(z,p))) (by omega) ⟨⟨none,rfl⟩,AH.refl _,.nil⟩ (fun j τ acc' H' ⟨_,s',_⟩=>SqL.of (s' _ _ (s3 _ _ er))) ?_ ?_
   ·rintro j y τ acc' H4 R1 hy _ ⟨⟨o,rfl⟩,s4,hw4⟩ k1
    obtain ⟨pc,a,q,ts,ep,rfl,ea,eq,tal⟩:=hw.ix hy
    have s34:=s3.trans s4
    refine ⟨_,rfl,Nat.le_of_ble_eq_true rfl,fun p hp=>⟨_,rfl,?_⟩⟩
    have s5:=AH.AW (o:=.tup [.str z]) hp
    have ep':(upd H4 p (.tup [.str z])) p=some (.tup [.str z]):=AB
    generalize upd H4 p (.tup [.str z])=H5 at s5 ep' ⊢
    refine ⟨p,a,_,_,rfl,rfl,SqT.of ep',SqT.of (s5 _ _ (s34 _ _ ea)),by simp,Nat.le_of_ble_eq_true rfl,(fun e=>by cases e),fun _ q' hq'=>k1 _ _ _ ⟨⟨_,rfl⟩,(s4.trans s5).upd hq',?_⟩⟩
    have s6:=AH.AW (o:=.tup ([.str z]++[.int pc.1,.int pc.2.1,.ref q])) hq'
    rw [List.take_add_one,ep,List.map_append]
    exact Ag (hw4.keep (s5.trans s6).tp) (.cons ⟨q',q,ts,rfl,AB,s6 _ _ (s5 _ _ (s34 _ _ eq)),tal⟩ .nil)
   ·rintro τ acc' H4 la4 ⟨_,s4,hw4⟩ D hD
    have s5:=AH.AW (o:=.lst acc') hD
    have eD:(upd H4 D (.lst acc')) D=some (.lst acc'):=AB
    generalize upd H4 D (.lst acc')=H5 at s5 eD ⊢
    have s35:=s4.trans s5
    have el5:=s35 _ _ el3
    refine ⟨l,D,_,_,rfl,rfl,el5,eD,by omega,?_⟩
    have tp5:Tp H5 (upd H5 l (.lst (acc++acc'))):=(Tp.refl H5).upd el5 fun xs=>by intro z;cases z
    refine ⟨_,acc++acc',rfl,(s3.trans s35).Fo hl,AB,by rw [AF nll];exact s35 _ _ els3,?_,by rw [List.length_append];omega⟩
    unfold AZ
    rw [List.take_add_one,hz,List.flatMap_append]
    refine PkS.keep ?_ tp5
    refine Ag (hw3.keep s35.tp) ?_
    rw [List.take_of_length_le (by omega)] at hw4
    have:=hw4.keep s5.tp
    show PkS H5 acc' _
    simpa using this
  ·rintro σ H3 ⟨o2,acc,rfl,s3,el3,els3,hw3,la⟩
   rw [List.length_map,List.length_map,List.take_of_length_le (Nat.le_refl _)] at hw3
   exact ⟨_,rfl,k H3 l acc ks s3 hl el3 hw3 ps kn km⟩
def Ii (ad:Ad):Sp:=fun vs H Q _=>∃(ex:List Addr) (x p d:Addr) (k:Kd) (nm so:Str) (g:Str→List Pc) (kvs:List (Key×V)),vs=[.ref x]/\BJ ad ex H x p d k nm so g kvs/\kvs.length≤100/\(∀k,(g k).length≤10000) /\
 ∀H' r xs ks,AH H H'→H r=none→H' r=some (.lst xs)→PkS H' xs (AZ g ks)→CA ks→ks.Nodup→(∀k,k∈ks↔g k≠[])→Q (.ref r) H'
theorem OL (T:Tx K mg ad):A9 P w K mg base CX0 2 ad.BI ad.BY ["self"] (Ii ad):=by
 have G_with_keys:=RX (P:=P) (w:=w) (base:=base) T
 refine T.BK.ok Es (fun vs H Q E h=>?_) (fun cdv A outer s H vs Q E hr h=>?_)
 ·obtain ⟨ex,x,p,d,k,nm,so,g,kvs,rfl,_⟩:=h
  rfl
 ·obtain ⟨ex,x,p,d,kd,nm,so,g,kvs,rfl,gr,lk,lg,k⟩:=h
  have nd:=Es.nd
  refine ⟨_,(AJ (Ae (Af G_with_keys (hr.mono (by decide)) (by rfl) T.L0 T.Br.kp T.MJ .nil As (AA (Dr (pv 0) rfl) AE)))),?_⟩
  obtain ⟨dx,eo⟩:=gr.obj
  exact ⟨_,rfl,x,_,dx,_,_,rfl,eo,T.A1,T.An,rfl,ex,d,g,kvs,rfl,gr.rows,lk,lg,k⟩
open Classical in
noncomputable def HX (so:Str) (ns:List Int):Int:=if h:∃v,FN so ns v then h.choose else 0
theorem LB {so:Str}{ns:List Int}{v:Int}(h:FN so ns v):v=HX so ns:=by
 have e:∃v,FN so ns v:=⟨v,h⟩
 unfold HX
 rw [dif_pos e]
 exact KY h e.choose_spec (.refl _)
theorem Qo {so:Str}{ns ms:List Int}{v:Int}(h:FN so ns v) (p:ns.Perm ms) (h':∃u,FN so ms u):HX so ns=HX so ms:=by
 obtain ⟨u,hu⟩:=h'
 rw [←LB h,←LB hu]
 exact KY h hu p
noncomputable def Dy (nm so:Str) (kp:Str×Pc):List Key:=N7 nm kp.1 kp.2 (HX so kp.2.2.2)
def JE:List Key→List Key
 | [_,k,s,e,_]=>[e,k,s]
 | _=>[]
theorem BJ.grow {ex:List Addr}{H:Hp}{x p d l:Addr}{k:Kd}{nm so:Str}{g:Str→List Pc}{kvs:List (Key×V)}(h:BJ ad ex H x p d k nm so g kvs) (hl:H l=none):BJ ad (l::ex) H x p d k nm so g kvs :=
 ⟨h.obj,h.step,h.rows.dict,h.rows.nd,fun q hq=>by
  obtain ⟨key,r,xs,e,n,er,w,ne⟩:=h.rows.row q hq
  refine ⟨key,r,xs,e,fun hm=>?_,er,w,ne⟩
  rcases List.mem_cons.mp hm with rfl|hm
  ·rw [hl] at er;cases er
  ·exact n hm,h.rows.all⟩
theorem BJ.weak {ex:List Addr}{H:Hp}{x p d l:Addr}{k:Kd}{nm so:Str}{g:Str→List Pc}{kvs:List (Key×V)}(h:BJ ad (l::ex) H x p d k nm so g kvs):BJ ad ex H x p d k nm so g kvs :=
 ⟨h.obj,h.step,h.rows.dict,h.rows.nd,fun q hq=>by
  obtain ⟨key,r,xs,e,n,er,w,ne⟩:=h.rows.row q hq
  exact ⟨key,r,xs,e,fun hm=>n (List.mem_cons_of_mem _ hm),er,w,ne⟩,h.rows.all⟩
theorem BJ.lists {ex:List Addr}{H:Hp}{x p d c:Addr}{k:Kd}{nm so:Str}{g:Str→List Pc}{kvs:List (Key×V)}{o:HO}{ys:List V}(h:BJ ad ex H x p d k nm so g kvs) (e:H c=some (.lst ys)) (hc:c∈ex):BJ ad ex (upd H c o) x p d k nm so g kvs:=by
 obtain ⟨⟨dx,eo⟩,st,r⟩:=h
 have st':H p=_:=st
 have k1:∀{b:Addr} {o':HO},H b=some o'→(∀zs,o'≠.lst zs)→(upd H c o) b=some o':=fun {b o'} eb n=>by
  rw [AF fun z=>by rw [z,e] at eb;exact n _ (Option.some.inj eb).symm];exact eb
 refine ⟨⟨dx,k1 eo (by intro zs z;cases z)⟩,k1 st' (by intro zs z;cases z),r.keep (k1 r.dict (by intro zs z;cases z)) (fun b zs nb eb=>?_) fun b zs eb=>k1 eb (by intro zs z;cases z)⟩
 rw [AF fun z=>nb (by rw [z];exact hc)]
 exact eb
theorem RG {H:Hp}{ys:List V}{R:List (List Key)}(h:Rws H ys R) {f:List Key→List Key}{qs:List (V×List Key)}(p:qs.Perm (ys.zip (R.map f))):∃R',R'.Perm R/\Rws H (qs.map (·.1)) R'/\R'.map f=qs.map (·.2):=by
 have hl:=h.len
 have pr:Paired (fun (row:List Key) (q:V×List Key)=>(∃a,q.1=.ref a/\H a=some (.tup (row.map kV)))/\f row=q.2) R (ys.zip (R.map f)):=by
  refine Aa (by rw [List.length_zip,List.length_map];omega) fun i row q e1 e2=>?_
  obtain ⟨e3,e4⟩:=List.getElem?_zip_eq_some.mp e2
  rw [List.getElem?_map,e1] at e4
  exact ⟨(AQ h).2 i q.1 row e3 e1,Option.some.inj e4⟩
 obtain ⟨R',q1,q2⟩:=De p pr
 obtain ⟨l2,g2⟩:=AQ q2
 refine ⟨R',q1,Aa (by rw [List.length_map,l2]) fun i v row e1 e2=>?_,?_⟩
 ·rw [List.getElem?_map] at e1
  obtain ⟨q,e3,rfl⟩:=Option.map_eq_some_iff.mp e1
  exact (g2 i row q e2 e3).1
 ·refine List.ext_getElem? fun i=>?_
  rw [List.getElem?_map,List.getElem?_map]
  cases e1:R'[i]? with
  | none=>rw [List.getElem?_eq_none (by rw [←l2];exact List.getElem?_eq_none_iff.mp e1)];rfl
  | some row =>
   have hi:=(List.getElem?_eq_some_iff.mp e1).1
   have e2:=List.getElem?_eq_getElem (show i<qs.length by omega)
   rw [e2]
   exact congrArg some (g2 i row _ e1 e2).2
theorem IV {g:Str→List Pc}{ks:List Str}{i:Nat}{z:Str}(e:ks[i]?=some z):AZ g (ks.take (i+1))=AZ g (ks.take i)++(g z).map fun p=>(z,p):=by
 unfold AZ
 rw [List.take_add_one,e,List.flatMap_append]
 simp
def Kg (ad:Ad):Sp:=fun vs H Q _=>∃(ex:List Addr) (x p d:Addr) (k:Kd) (nm so:Str) (g:Str→List Pc) (kvs:List (Key×V)) (now:Option Int),vs=[.ref x,Ln now]/\BJ ad ex H x p d k nm so g kvs/\(∀c∈ex,∃o,H c=some o)/\so∈SRT/\kvs.length≤100/\(∀k,(g k).length≤10000) /\
 ∀H' r xs kss kvs' ks,BW d H H'→BJ ad (r::ex) H' x p d k nm so (fun key=>Az now (g key)) kvs'→H r=none→H' r=some (.lst xs)→Rws H' xs kss→kss.Perm ((AZ (fun key=>B7 now (g key)) ks).map (Dy nm so))→(kss.map JE).Pairwise (fun a b=>BG b a=false)→ks.Nodup→(∀k,k∈ks↔g k≠[])→kvs'.length≤kvs.length→Q (.ref r) H'
theorem P2 (T:Tx K mg ad):A9 P w K mg base CX0 4 ad.BS ad.Bf ["self", "now"] (Kg ad):=by
 have G_Group_take:=RY (P:=P) (w:=w) (base:=base) T
 have G_row_of:=OI (P:=P) (w:=w) (base:=base) T
 have G_order_of:=Pw (P:=P) (w:=w) (base:=base) T
 refine T.BV.ok E3 (fun vs H Q E h=>?_) (fun cdv A outer s H vs Q E hr h=>?_)
 ·obtain ⟨ex,x,p,d,k,nm,so,g,kvs,now,rfl,_⟩:=h
  rfl
 ·obtain ⟨ex,x,p,d,kd,nm,so,g,kvs,now,rfl,gr,hex,hso,lk,lg,k⟩:=h
  have nd:=E3.nd
  refine ⟨_,(AV (AX (i:=2) nd rfl (Or.inl rfl) (Ax AE))
    (AV (Dq PassesOwn.never rfl (Ai (K:=K) (D3 (M8 (K:=K) rfl) (by rfl) T.DE PyProof.Rows.boot_list (AA (Dr (pv 0) rfl) AE))) (BM (i:=3) nd rfl (Or.inr rfl))
    (AJ (Ko (Bu (Cb (K:=K) F.plainAttrs_list F.slot_list_extend F.type_list_extend KC (pv 2) (AA (BN (osc:=AM C0) [("key", 3),("self", 0)] rfl (Ai (K:=K) (II (pv 0) T.A1 T.Jm G_Group_take (hr.mono (by decide)) T.K9 .nil As (AA (pv 3) (AA (pv 1) AE)))) rfl rfl (by decide +kernel) (by decide +kernel) (by decide +kernel) ⟨rfl,rfl,rfl,rfl,trivial⟩ rfl (by decide +kernel) (fun _ _ _ _=>B9) (fun _ _ _ _=>(Af G_row_of (hr.mono (by decide)) (by rfl) T.QH T.DS.kp T.Qk .nil As (AA (RS (K:=K) (pv 2) rfl) (AA (pv 1) (AA (pv 0) AE)))))) AE))))))
    (AJ (Ae (Pg G_order_of (hr.mono (by decide)) (by rfl) T.Mx T.NI (by rfl) T.B0 PyProof.Rows.boot_sorted (pv 2)))))),?_⟩
  have sz:sizeLine=16777216:=sizeLine_eq
  refine fun _ _ _ _ z1=>⟨Nat.zero_le _,fun l hl=>z1 _ _ ?_⟩
  have s1:=AH.AW (o:=.lst []) hl
  have el:(upd H l (.lst [])) l=some (.lst []):=AB
  generalize upd H l (.lst [])=H1 at s1 el ⊢
  have gr1:=(gr.grow hl).same s1
  obtain ⟨dx1,eo1⟩:=gr1.obj
  refine fun _ _ _ _ z2=>⟨_,rfl,x,_,dx1,_,_,rfl,eo1,T.A1,T.An,rfl,d,kvs,rfl,gr1.rows.dict,fun ls hls=>?_⟩
  obtain ⟨ks,eks⟩:∃ks:List Str,(kvs.map fun p=>kV p.1)=ks.map V.str:=by
   refine ⟨kvs.map fun q=>match q.1 with|.inr i=>i|.inl _ => "", ?_⟩
   rw [List.map_map]
   refine List.map_congr_left fun q hq=>?_
   obtain ⟨z,r,xs,rfl,_⟩:=gr.rows.row q hq
   rfl
  have ekk:kvs.map (·.1)=ks.map (Sum.inr:Str→Key):=by
   have h1:∀q∈kvs,∃z,q.1=.inr z:=fun q hq=>by
    obtain ⟨z,r,xs,rfl,_⟩:=gr.rows.row q hq
    exact ⟨z,rfl⟩
   have h2:(kvs.map fun p=>kV p.1).map (fun v=>match v with|.str z=>(Sum.inr z:Key)|_=>.inl 0)=kvs.map (·.1):=by
    rw [List.map_map]
    refine List.map_congr_left fun q hq=>?_
    obtain ⟨z,e⟩:=h1 q hq
    show (match kV q.1 with|.str z=>(Sum.inr z:Key)|_=>.inl 0)=q.1
    rw [e]
    rfl
   rw [←h2,eks,List.map_map]
   rfl
  have kn:ks.Nodup:=by
   have h:=gr.rows.nd
   rw [ekk,List.Nodup,List.pairwise_map] at h
   exact h.imp fun h e=>h (by rw [e])
  have km:∀z,z∈ks↔g z≠[]:=fun z=>by
   constructor
   ·intro hz
    have:(Sum.inr z:Key)∈kvs.map (·.1):=by rw [ekk];exact List.mem_map.mpr ⟨z,hz,rfl⟩
    obtain ⟨q,hq,e⟩:=List.mem_map.mp this
    obtain ⟨z',r,xs,rfl,_,_,_,ne⟩:=gr.rows.row q hq
    rw [←Sum.inr.inj e]
    exact ne
   ·intro ne
    have h:=gr.rows.all z ne
    rw [ekk] at h
    obtain ⟨y,hy,e⟩:=List.mem_map.mp h
    rw [←Sum.inr.inj e]
    exact hy
  have lks:ks.length≤100:=by
   have:=congrArg List.length eks
   rw [List.length_map,List.length_map] at this
   omega
  rw [eks]
  have s2:=AH.AW (o:=.lst (ks.map V.str)) hls
  have els:(upd H1 ls (.lst (ks.map V.str))) ls=some (.lst (ks.map V.str)):=AB
  generalize upd H1 ls (.lst (ks.map V.str))=H2 at s2 els ⊢
  have nll:ls≠l:=fun z=>by rw [z,el] at hls;cases hls
  have gr2:=gr1.same s2
  have nld:ls≠d:=fun z=>by rw [z,gr2.rows.dict] at els;cases els
  have exs:∀{H':Hp},BW d H H'→(∀{kv g':_},BJ ad (l::ex) H' x p d kd nm so g' kv→(∃acc,H' l=some (.lst acc))→∀c∈l::ex,∃o,H' c=some o):=fun {H'} sx {kv g'} gr' el' c hc=>by
   rcases List.mem_cons.mp hc with rfl|hc
   ·obtain ⟨acc,e⟩:=el'
    exact ⟨_,e⟩
   ·obtain ⟨o,eo⟩:=hex c hc
    by_cases q:c=d
    ·rw [q];exact ⟨_,gr'.rows.dict⟩
    ·exact ⟨_,sx c o q eo⟩
  refine ⟨ls,rfl,⟨_,SqL.of els⟩,B8 (K:=K) (xs:=ks.map V.str) (fun i σ H'=>∃(o3:Option V) (acc:List V) (kvs':List (Key×V)),σ=[some (.ref x),some (Ln now),some (.ref l),o3]/\BW d H H'/\H' ls=some (.lst (ks.map V.str)) /\
    BJ ad (l::ex) H' x p d kd nm so (fun key=>if key∈ks.take i then Az now (g key) else g key) kvs'/\H' l=some (.lst acc)/\Rws H' acc ((AZ (fun key=>B7 now (g key)) (ks.take i)).map (Dy nm so))/\kvs'.length≤kvs.length/\acc.length≤10000 * i)
   ⟨none,[],kvs,rfl,(s1.trans s2).x d,els,?_,s2 _ _ el,EM _,Nat.le_refl _,Nat.zero_le _⟩ (fun i σ H' _ ⟨_,_,_,_,_,e,_⟩=>SqL.of e) ?_ ?_⟩
  ·have e:(fun key=>if key∈ks.take 0 then Az now (g key) else g key)=g:=by
    funext key
    exact if_neg (by simp)
   rw [e]
   exact gr2
  ·rintro i y σ H3 hy ⟨o3,acc,kvs',rfl,sx3,els3,gr3,el3,hw3,lk3,la3⟩
   rw [List.getElem?_map] at hy
   obtain ⟨z,hz,rfl⟩:=Option.map_eq_some_iff.mp hy
   have hi:i<ks.length:=(List.getElem?_eq_some_iff.mp hz).1
   have zn:z∉ks.take i:=fun hm=>by
    obtain ⟨j,hj,e⟩:=List.mem_iff_getElem.mp hm
    rw [List.length_take] at hj
    rw [List.getElem_take] at e
    obtain ⟨h2,g2⟩:=List.getElem?_eq_some_iff.mp hz
    exact (List.pairwise_iff_getElem.mp kn) j i (by omega) h2 (by omega) (e.trans g2.symm)
   have ne:=(km z).mp (List.mem_of_getElem? hz)
   have gz:(if z∈ks.take i then Az now (g z) else g z)=g z:=if_neg zn
   obtain ⟨dx3,eo3⟩:=gr3.obj
   have lgz:=lg z
   refine fun _ _ _ _ z3=>⟨_,rfl,.inl ⟨rfl,_,SqL.of el3⟩,_,rfl,x,dx3,_,rfl,eo3,by rfl,_,rfl,_,rfl,l::ex,x,p,d,kd,nm,so,z,_,kvs',now,rfl,gr3,exs sx3 gr3 ⟨_,el3⟩,by rw [gz];exact ne,by rw [gz];exact lgz,by omega,fun H4 r xs kvs4 sx4 gr4 er4 hw4 l4=>⟨r,rfl,⟨_,SqL.of er4⟩,?_⟩⟩
   simp only [gz] at gr4 hw4
   have eg:E6 (fun key=>if key∈ks.take i then Az now (g key) else g key) z (Az now (g z))=fun key=>if key∈ks.take (i+1) then Az now (g key) else g key:=by
    funext key
    have tm:key∈ks.take (i+1)↔key∈ks.take i\/key=z:=by rw [List.take_add_one,hz];simp
    by_cases e:key=z
    ·rw [e,CY,if_pos (by rw [←e,tm];exact .inr e)]
    ·rw [Bi e]
     by_cases q:key∈ks.take i
     ·rw [if_pos q,if_pos (tm.mpr (.inl q))]
     ·rw [if_neg q,if_neg (fun h=>(tm.mp h).elim q e)]
   rw [eg] at gr4
   have nl3:l≠d:=fun q=>by rw [q,gr3.rows.dict] at el3;cases el3
   have el4:=sx4 _ _ nl3 el3
   have els4:=sx4 _ _ nld els3
   have hw34:=hw3.keep (sx4.tp gr3.rows.dict (by intro xs z;cases z))
   have lo:(B7 now (g z)).length≤10000:=by
    cases now with
    | none=>exact lgz
    | some n=>exact Nat.le_trans (List.length_filter_le _ _) lgz
   have lx4:=hw4.len
   refine BR (K:=K) (xs:=xs) (fun j τ acc' H'=>(∃o,τ=[o,some (.str z),some (.ref x)])/\AH H4 H'/\Rws H' acc' (((B7 now (g z)).take j).map fun p=>Dy nm so (z,p))) (by omega) ⟨⟨none,rfl⟩,AH.refl _,EM _⟩ (fun j τ acc' H' ⟨_,s',_⟩=>SqL.of (s' _ _ er4)) ?_ ?_
   ·rintro j y τ acc' H5 R1 hy _ ⟨⟨o,rfl⟩,s5,hw5⟩ k1
    obtain ⟨pc,a,q,ts,ep,rfl,ea,eq,tal⟩:=hw4.ix hy
    have gr5:=gr4.same s5
    obtain ⟨dx5,eo5⟩:=gr5.obj
    refine ⟨_,rfl,x,_,dx5,_,_,rfl,eo5,T.A1,T.Bb,rfl,_,rfl,_,rfl,p,a,q,kd,nm,so,z,pc,ts,rfl,gr5.step,hso,s5 _ _ ea,s5 _ _ eq,tal,fun v hv r' hr'=>k1 _ _ _ ⟨⟨_,rfl⟩,s5.upd hr',?_⟩⟩
    rw [List.take_add_one,ep,List.map_append]
    have e2:N7 nm z pc v=Dy nm so (z,pc):=by
     show _=N7 nm z pc (HX so pc.2.2)
     rw [LB hv]
    rw [e2]
    exact (hw5.keep (AH.AW hr').tp).snoc AB
   ·rintro τ acc' H5 la5 ⟨_,s5,hw5⟩ D hD
    rw [List.take_of_length_le (by omega)] at hw5
    have s6:=AH.AW (o:=.lst acc') hD
    have eD:(upd H5 D (.lst acc')) D=some (.lst acc'):=AB
    generalize upd H5 D (.lst acc')=H6 at s6 eD ⊢
    have s46:=s5.trans s6
    have el6:=s46 _ _ el4
    refine ⟨l,D,_,_,rfl,rfl,el6,eD,by omega,?_⟩
    have tp6:Tp H6 (upd H6 l (.lst (acc++acc'))):=(Tp.refl H6).upd el6 fun xs=>by intro z;cases z
    refine z3 _ _ ⟨_,acc++acc',kvs4,rfl,fun b o nb e=>?_,by rw [AF nll];exact s46 _ _ els4,(gr4.same s46).lists el6 (.head _),AB,?_,by omega,by rw [List.length_append];omega⟩
    ·rw [AF (fun q=>by rw [q,hl] at e;cases e)]
     exact s46 _ _ (sx4 b o nb (sx3 b o nb e))
    ·rw [IV hz,List.map_append,List.map_map]
     exact Rws.keep (Ag (hw34.keep s46.tp) (hw5.keep s6.tp)) tp6
  ·rintro σ H3 ⟨o3,acc,kvs',rfl,sx3,els3,gr3,el3,hw3,lk3,la3⟩
   rw [List.length_map,List.take_of_length_le (Nat.le_refl _)] at gr3 hw3
   have eg:(fun key=>if key∈ks then Az now (g key) else g key)=fun key=>Az now (g key):=by
    funext key
    by_cases q:key∈ks
    ·exact if_pos q
    ·rw [if_neg q]
     have:g key=[]:=by
      cases e:g key with
      | nil=>rfl
      | cons a b=>exact absurd ((km key).mpr (by rw [e];simp)) q
     rw [this]
     cases now <;> rfl
   rw [eg] at gr3
   have shape:∀row∈(AZ (fun key=>B7 now (g key)) ks).map (Dy nm so),∃kp,row=Dy nm so kp:=fun row hr=>by
    obtain ⟨kp,_,rfl⟩:=List.mem_map.mp hr
    exact ⟨kp,rfl⟩
   refine z2 _ _ ⟨_,rfl,l,acc,((AZ (fun key=>B7 now (g key)) ks).map (Dy nm so)).map JE,rfl,SqL.of el3,⟨by simp [hw3.len],⟨[true,false,true],by simp,fun kk hk=>?_⟩,fun i y kk H4 hy hk s4=>?_⟩,fun r qs H4 s4 hr pq sq=>?_⟩
   ·obtain ⟨row,hr,rfl⟩:=List.mem_map.mp hk
    obtain ⟨kp,rfl⟩:=shape row hr
    rfl
   ·obtain ⟨a,row,rfl,er,ea⟩:=hw3.at hy
    rw [List.getElem?_map,er] at hk
    have hk:=Option.some.inj hk
    obtain ⟨kp,rfl⟩:=shape row (List.mem_of_getElem? er)
    subst hk
    exact ⟨a,nm,kp.1,kp.2,HX so kp.2.2.2,rfl,s4 _ _ ea,fun r hr=>⟨AH.AW hr,r,rfl,AB⟩⟩
   ·obtain ⟨R',p1,w1,e1⟩:=RG hw3 pq
    have hr0:H3 r=none:=s4.free hr
    have nrd:r≠d:=fun q=>by rw [q,gr3.rows.dict] at hr0;cases hr0
    have hrH:H r=none:=by
     cases q:H r with
     | none=>rfl
     | some o=>rw [sx3 r o nrd q] at hr0;cases hr0
    have s5:=AH.AW (o:=.lst (qs.map (·.1))) hr
    exact k _ r _ R' kvs' ks (fun b o nb e=>s5 _ _ (s4 _ _ (sx3 b o nb e))) (((gr3.weak.same s4).grow hr).same s5) hrH AB ((w1.keep s4.tp).keep s5.tp) p1 (by rw [e1];exact sq) kn km lk3
def Ow (f:Int→List Int) (s a:Int):Int→List Int:=fun x=>if x=s then f s++[a] else f x
theorem Gq (f:Int→List Int) (s a:Int):Ow f s a s=f s++[a]:=if_pos rfl
theorem Ed {f:Int→List Int}{s a x:Int}(h:x≠s):Ow f s a x=f x:=if_neg h
def kz (z s:Int):List Key:=[.inl s,.inl (s+z)]
theorem TL {z s s':Int}(h:kz z s=kz z s'):s=s':=Sum.inl.inj (List.cons.inj h).1
def Ff (z:Int) (H0 H:Hp) (w:Addr) (f:Int→List Int) (N:Nat):Prop:=∃kvs:List (List Key×V),H w=some (.dT kvs)/\(kvs.map (·.1)).Nodup/\kvs.length≤N/\(∀q∈kvs,∃(s:Int) (r:Addr),q=(kz z s,.ref r)/\H0 r=none/\H r=some (.lst ((f s).map V.int))/\f s≠[])/\(∀s,f s≠[]→kz z s∈kvs.map (·.1))/\∀q∈kvs,∀q'∈kvs,q.2=q'.2→q.1=q'.1
theorem Ff.there {z:Int}{H0 H:Hp}{w:Addr}{f:Int→List Int}{N:Nat}{kvs:List (List Key×V)}{s:Int}{v:V}(h:Ff z H0 H w f N) (e:H w=some (.dT kvs)) (hv:A0 kvs (kz z s)=some v) (a:Int) :
  ∃r,v=.ref r/\H r=some (.lst ((f s).map V.int))/\H0 r=none/\Ff z H0 (upd H r (.lst ((f s).map V.int++[.int a]))) w (Ow f s a) N:=by
 obtain ⟨kvs',e',nd,ln,q1,q2,q3⟩:=h
 rw [e] at e'
 cases e'
 have hm:=B6 hv
 obtain ⟨s',r,eq,h0,er,ne⟩:=q1 _ hm
 cases eq
 have nrw:w≠r:=fun zz=>by rw [zz,er] at e;cases e
 refine ⟨r,rfl,er,h0,kvs,by rw [AF nrw];exact e,nd,ln,fun q hq=>?_,fun x hx=>?_,q3⟩
 ·obtain ⟨x,r',rfl,h0',er',ne'⟩:=q1 q hq
  by_cases ex:x=s
  ·subst ex
   have hrr:r'=r:=by
    have hv':A0 kvs (kz z x)=some (.ref r'):=by
     obtain ⟨v2,hv2⟩:=Cz (List.mem_map.mpr ⟨_,hq,rfl⟩:kz z x∈kvs.map (·.1))
     have hm2:=B6 hv2
     obtain ⟨i,hi,ei⟩:=List.mem_iff_getElem.mp hq
     obtain ⟨j,hj,ej⟩:=List.mem_iff_getElem.mp hm2
     have:=(List.getElem_inj (xs:=kvs.map (·.1)) (i:=i) (j:=j) (h₀:=by simpa using hi) (h₁:=by simpa using hj) nd).mp (by simp [ei,ej])
     subst this
     rw [ei] at ej
     rw [hv2]
     exact congrArg some (congrArg Prod.snd ej).symm
    rw [hv] at hv'
    cases hv'
    rfl
   subst hrr
   refine ⟨x,r',rfl,h0',?_,by rw [Gq];simp⟩
   rw [AB,Gq,List.map_append]
   rfl
  ·have nrr:r'≠r:=fun zz=>ex (by
    have:=q3 _ hq _ hm (by show V.ref r'=V.ref r;rw [zz])
    exact TL this)
   refine ⟨x,r',rfl,h0',?_,by rw [Ed ex];exact ne'⟩
   rw [AF nrr,Ed ex]
   exact er'
 ·by_cases ex:x=s
  ·rw [ex];exact List.mem_map.mpr ⟨_,hm,rfl⟩
  ·rw [Ed ex] at hx
   exact q2 x hx
theorem Ff.new {z:Int}{H0 H:Hp}{w l:Addr}{f:Int→List Int}{N:Nat}{kvs:List (List Key×V)}{s:Int}(h:Ff z H0 H w f N) (e:H w=some (.dT kvs)) (hv:A0 kvs (kz z s)=none) (hl:H l=none) (hl0:H0 l=none) (a:Int) :
  Ff z H0 (upd (upd (upd H l (.lst [])) w (.dT (putK kvs (kz z s) (.ref l)))) l (.lst [.int a])) w (Ow f s a) (N+1):=by
 obtain ⟨kvs',e',nd,ln,q1,q2,q3⟩:=h
 rw [e] at e'
 cases e'
 have nlw:w≠l:=AK e hl
 have fs:f s=[]:=by
  cases hf:f s with
  | nil=>rfl
  | cons x r =>
   obtain ⟨v,hv'⟩:=Cz (q2 s (by rw [hf];simp))
   rw [hv] at hv'
   cases hv'
 have nk:kz z s∉kvs.map (·.1):=fun hm=>by
  obtain ⟨v,hv'⟩:=Cz hm
  rw [hv] at hv'
  cases hv'
 have refs:∀q∈kvs,q.2≠.ref l:=fun q hq zz=>by
  obtain ⟨x,r,rfl,_,er,_⟩:=q1 q hq
  cases zz
  rw [hl] at er
  cases er
 refine ⟨_,by rw [AF nlw];exact AB,F3 nd,by have:=GZ kvs (kz z s) (.ref l);omega,fun q hq=>?_,fun x hx=>?_,fun q hq q' hq' e2=>?_⟩
 ·rcases Cc hq with rfl|⟨hm,hne⟩
  ·refine ⟨s,l,rfl,hl0,?_,by rw [Gq];simp⟩
   rw [AB,Gq,fs]
   rfl
  ·obtain ⟨x,r,rfl,h0',er',ne'⟩:=q1 q hm
   have ex:x≠s:=fun zz=>hne (by show kz z x=kz z s;rw [zz])
   have nrl:r≠l:=fun zz=>by rw [zz,hl] at er';cases er'
   have nrw:r≠w:=fun zz=>by rw [zz,e] at er';cases er'
   refine ⟨x,r,rfl,h0',?_,by rw [Ed ex];exact ne'⟩
   rw [AF nrl,AF nrw,AF nrl,Ed ex]
   exact er'
 ·rw [FV,if_neg nk]
  by_cases ex:x=s
  ·rw [ex];exact List.mem_append_right _ (List.mem_singleton.mpr rfl)
  ·rw [Ed ex] at hx
   exact List.mem_append_left _ (q2 x hx)
 ·rcases Cc hq with rfl|⟨hm,hne⟩
  ·rcases Cc hq' with rfl|⟨hm',hne'⟩
   ·rfl
   ·exact absurd e2.symm (refs q' hm')
  ·rcases Cc hq' with rfl|⟨hm',hne'⟩
   ·exact absurd e2 (refs q hm)
   ·exact q3 q hm q' hm' e2
theorem Ff.same {z:Int}{H0 H H':Hp}{w:Addr}{f:Int→List Int}{N:Nat}(h:Ff z H0 H w f N) (s:AH H H'):Ff z H0 H' w f N:=by
 obtain ⟨kvs,e,nd,ln,q1,q2,q3⟩:=h
 refine ⟨kvs,s _ _ e,nd,ln,fun q hq=>?_,q2,q3⟩
 obtain ⟨x,r,e1,h0,er,ne⟩:=q1 q hq
 exact ⟨x,r,e1,h0,s _ _ er,ne⟩
theorem Ff.Tg {z:Int}{H0 H:Hp}{w:Addr}{f g:Int→List Int}{N:Nat}(h:Ff z H0 H w f N) (e:∀x,f x=g x):Ff z H0 H w g N:=by
 have:f=g:=funext e
 rw [←this]
 exact h
theorem IK {d s c:Int}(hd:1≤d) (h1:s % d=0) (h2:c % d=0) (h:c-d<s):c≤s:=by
 have h3:(s-c) % d=0:=by
  rw [Int.sub_emod,h1,h2]
  simp
 obtain ⟨q,hq⟩:=Int.dvd_of_emod_eq_zero h3
 have:-1<q:=by
  apply Int.lt_of_not_ge
  intro hq1
  have:d * q≤d * (-1):=Int.mul_le_mul_of_nonneg_left hq1 (by omega)
  omega
 have:0≤d * q:=Int.mul_nonneg (by omega) (by omega)
 omega
def unS:List Key→Int
 | .inl s::_=>s
 | _=>0
def tmK (i:Int×Int):List Key:=[.inl i.1,.inl i.2]
theorem Ba {α β:Type}{f:α→β}{l:List α}{i:Nat}{x:β}(h:(l.map f)[i]?=some x):∃y,l[i]?=some y/\f y=x:=by
 rw [List.getElem?_map] at h
 exact Option.map_eq_some_iff.mp h
def Jb (z d:Int) (its:Bq) (t a c:Int):Int→List Int:=fun x=>Du z d its x++(if x % d=0/\x≤t/\c<x then [a] else [])
theorem Oq {z d:Int}{its:Bq}{t a c:Int}(hd:1≤d) (hc:c % d=0) (ht:c≤t) (x:Int):Ow (Jb z d its t a c) c a x=Jb z d its t a (c-d) x:=by
 by_cases e:x=c
 ·rw [e,Gq]
  unfold Jb
  rw [if_neg (by omega),if_pos ⟨hc,ht,by omega⟩,List.append_nil]
 ·rw [Ed e]
  unfold Jb
  congr 1
  by_cases h:x % d=0/\x≤t/\c<x
  ·rw [if_pos h,if_pos ⟨h.1,h.2.1,by omega⟩]
  ·rw [if_neg h,if_neg (fun q=>h ⟨q.1,q.2.1,by have:=IK hd q.1 hc q.2.2;omega⟩)]
def DPc (H0 H:Hp) (r:Addr) (kvs:List (List Key×V)) (ps:List Pc):Prop:=H r=some (.dT kvs)/\(kvs.map (·.1)).Nodup/\Paired (fun q p=>∃l:Addr,q=([Sum.inl p.1,Sum.inl p.2.1],V.ref l)/\H0 l=none/\H l=some (.lst (p.2.2.map V.int))/\p.2.2≠[]) kvs ps
def Sk:Sp:=fun vs H Q _=>∃(l:Addr) (xs:List V) (its:Bq) (z d:Int),vs=[.ref l,.int z,.int d]/\H l=some (.lst xs)/\Rws H xs (its.map tmK)/\(∀i∈its,Wn.Win i.1 z d)/\1≤d/\d≤z/\z≤20 * d/\its.length≤100 /\
 ∀(H':Hp) (r:Addr) (kvs:List (List Key×V)) (ss:List Int),AH H H'→H r=none→DPc H H' r kvs (ss.map fun s=>(s,s+z,Du z d its s))→ss.Nodup→(∀s:Int,s∈ss↔Du z d its s≠[])→ss.length≤21 * its.length→Q (.ref r) H'
theorem RZ (T:Tx K mg ad):A9 P w K mg base CX0 1 ad.CC ad.Cm ["_law_items", "_law_size", "_law_step"] Sk:=by
 refine T.CM.ok Hk (fun vs H Q E h=>?_) (fun cdv A outer s H vs Q E hr h=>?_)
 ·obtain ⟨l,xs,its,z,d,rfl,_⟩:=h
  rfl
 ·obtain ⟨l,xs,its,z,d,rfl,el,hw,hWin,hd1,hdz,hz,hlen,k⟩:=h
  have nd:=Hk.nd
  refine ⟨_,(AO (AX (i:=3) nd rfl (Or.inl rfl) Pm)
    (AO (Dq PassesOwn.never rfl (Ai (K:=K) (pv 0)) (Mg rfl (C4 (BM (i:=4) nd rfl (Or.inl rfl)) (C4 (BM (i:=5) nd rfl (Or.inl rfl)) Kp)))
    (AO (AX (i:=6) nd rfl (Or.inl rfl) (AL C8 (pv 4) (AL Ap (pv 4) (pv 2))))
    (AJ (Le PassesOwn.never (Ah Lm (pv 6) (AL C8 (pv 4) (pv 1)) (Ak _))
    (AO (Bu (Cb (K:=K) F.plainAttrs_list F.slot_list_append F.type_list_append BX (OF hr.u1 (pv 3) (A8 (AA (pv 6) (AA (AL BF (pv 6) (pv 1)) AE))) (Ax AE) ⟨rfl,rfl,rfl,rfl⟩) (AA (pv 5) AE)))
    (AJ (AX (i:=6) nd rfl (Or.inl rfl) (AL C8 (pv 6) (pv 2)))))))))
    (AJ (Ae (pv 3))))),?_⟩
  have sz:sizeLine=16777216:=sizeLine_eq
  have lx:xs.length=its.length:=by rw [hw.len,List.length_map]
  refine fun w hw0=>?_
  have s0:=AH.AW (o:=.dT []) hw0
  have ew0:(upd H w (.dT [])) w=some (.dT []):=AB
  generalize upd H w (.dT [])=H0 at s0 ew0 ⊢
  refine ⟨_,rfl,l,rfl,⟨_,SqL.of (s0 _ _ el)⟩,B8 (K:=K) (xs:=xs) (fun n σ H'=>∃(o4 o5 o6:Option V),σ=[some (.ref l),some (.int z),some (.int d),some (.ref w),o4,o5,o6]/\AH H H'/\Ff z H H' w (Du z d (its.take n)) (21 * n))
   ⟨none,none,none,rfl,s0,[],ew0,.nil,Nat.le_refl _,(fun q hq=>by cases hq),(fun s hs=>absurd (by rw [List.take_zero];rfl) hs),fun q hq=>by cases hq⟩ (fun n σ H' _ ⟨_,_,_,_,s',_⟩=>SqL.of (s' _ _ el)) ?_ ?_⟩
  ·rintro n x σ H1 hx ⟨o4,o5,o6,rfl,s1,wr⟩
   obtain ⟨b,ks,rfl,ek,eb⟩:=hw.at hx
   obtain ⟨⟨t,a⟩,ei,rfl⟩:=Ba ek
   have hn:n<its.length:=(List.getElem?_eq_some_iff.mp ei).1
   have eb1:H1 b=some (.tup [.int t,.int a]):=s1 _ _ eb
   have hW:Wn.Win t z d:=hWin _ (List.mem_of_getElem? ei)
   have tk:its.take (n+1)=its.take n++[(t,a)]:=by rw [List.take_add_one,ei];rfl
   refine ⟨b,_,rfl,SqT.of eb1,rfl,_,_,rfl,_,_,rfl,rfl,?_⟩
   refine ⟨_,rfl,_,rfl,_,rfl,_,_,rfl,rfl,(by show (0:Int)<d;omega),_,_,rfl,rfl,?_⟩
   have m1:=Int.emod_nonneg t (show d≠0 by omega)
   have m2:=Int.emod_lt_of_pos t (show 0<d by omega)
   have ml:(its.take n).length≤100:=by rw [List.length_take];omega
   refine LF (fun σ H'=>∃(c:Int) (j:Nat),σ=[some (.ref l),some (.int z),some (.int d),some (.ref w),some (.int t),some (.int a),some (.int c)]/\AH H H'/\c=t-t % d-(j:Int) * d/\c % d=0/\j≤20/\(∀s,s % d=0→s≤t→c<s→t-z<s)/\Ff z H H' w (Jb z d (its.take n) t a c) (21 * n+j))
    (fun σ _=>match σ with|[_,_,_,_,_,_,some (.int c)]=>(c-(t-z)).toNat|_=>0) ⟨t-t % d,0,rfl,s1,by simp,by rw [Int.sub_emod,Int.emod_emod];simp,by omega,fun s h1 h2 h3=>?_,wr.Tg fun x=>?_⟩ ?_ ?_
   ·exfalso
    have:=IK (d:=d) (s:=t-t % d) (c:=s) hd1 (by rw [Int.sub_emod,Int.emod_emod];simp) h1 (by omega)
    omega
   ·unfold Jb
    rw [if_neg,List.append_nil]
    rintro ⟨h1,h2,h3⟩
    have:=IK (d:=d) (s:=t-t % d) (c:=x) hd1 (by rw [Int.sub_emod,Int.emod_emod];simp) h1 (by omega)
    omega
   ·rintro σ H2 ⟨c,j,rfl,s2,ec,hc,hj,vis,wr2⟩
    have hjd:0≤(j:Int) * d:=Int.mul_nonneg (by omega) (by omega)
    have hct:c≤t:=by omega
    refine ⟨_,rfl,_,rfl,_,rfl,_,_,rfl,rfl,_,_,rfl,rfl,_,rfl,JS (fun e=>?_) fun e=>?_⟩
    ·have hj2:j<20:=by
      have:(j:Int) * d<20 * d:=by omega
      have:=Int.lt_of_mul_lt_mul_right this (by omega)
      omega
     have inv:∀{H':Hp} {N:Nat},AH H H'→N≤21 * n+(j+1)→Ff z H H' w (Ow (Jb z d (its.take n) t a c) c a) N→(∃(c':Int) (j:Nat),[some (V.ref l),some (.int z),some (.int d),some (.ref w),some (.int t),some (.int a),some (.int (c-d))]=[some (.ref l),some (.int z),some (.int d),some (.ref w),some (.int t),some (.int a),some (.int c')]/\AH H H'/\c'=t-t % d-(j:Int) * d/\c' % d=0/\j≤20/\(∀s,s % d=0→s≤t→c'<s→t-z<s)/\Ff z H H' w (Jb z d (its.take n) t a c') (21 * n+j))/\(c-d-(t-z)).toNat<(c-(t-z)).toNat:=fun {H' N} s' hN wr'=>by
      refine ⟨⟨c-d,j+1,rfl,s',?_,by rw [Int.sub_emod,hc];simp,by omega,fun s h1 h2 h3=>?_,?_⟩,by omega⟩
      ·have:(((j+1:Nat)):Int) * d=(j:Int) * d+d:=by rw [Int.natCast_add,Int.add_mul];simp
       omega
      ·by_cases es:s=c
       ·rw [es];omega
       ·have:=IK hd1 h1 hc h3
        exact vis s h1 h2 (by omega)
      ·obtain ⟨kvs,q1,q2,q3,q4⟩:=wr'.Tg fun x=>Oq hd1 hc hct x
       exact ⟨kvs,q1,q2,by omega,q4⟩
     obtain ⟨kvs,ed,nd2,lk,_⟩:=id wr2
     have isd:IsD H2 w:=.inr ⟨kvs,.inl ed⟩
     refine ⟨_,rfl,w,rfl,isd,_,rfl,_,rfl,_,rfl,_,_,rfl,rfl,Nat.le_of_ble_eq_true rfl,fun kb hkb=>?_⟩
     have tkb:=AH.AW (o:=.tup [.int c,.int (c+z)]) hkb
     have ekb:(upd H2 kb (.tup [.int c,.int (c+z)])) kb=some (.tup [.int c,.int (c+z)]):=AB
     have nwk:w≠kb:=AK ed hkb
     have edk:(upd H2 kb (.tup [.int c,.int (c+z)])) w=some (.dT kvs):=by rw [AF nwk];exact ed
     have s2:=s2.trans tkb
     have wr2:=wr2.same tkb
     generalize upd H2 kb (.tup [.int c,.int (c+z)])=H2 at tkb ekb edk s2 wr2 ⊢
     have ed:=edk
     refine ⟨Nat.zero_le _,fun l0 hl0=>?_⟩
     have t3:=AH.AW (o:=.lst []) hl0
     have el0:(upd H2 l0 (.lst [])) l0=some (.lst []):=AB
     have nw0:w≠l0:=AK ed hl0
     have ed3:(upd H2 l0 (.lst [])) w=some (.dT kvs):=by rw [AF nw0];exact ed
     refine ⟨kvs,kz z c,kb,ed3,rfl,t3 _ _ ekb,by omega,fun v hv=>?_,fun hv=>?_⟩
     ·obtain ⟨r,rfl,er,h0r,_⟩:=wr2.there ed hv a
      have lf:(Jb z d (its.take n) t a c c).length≤200:=by
       unfold Jb
       rw [if_neg (by omega),List.append_nil]
       exact Nat.le_trans (Qq ..) (by omega)
      generalize upd H2 l0 (.lst [])=H3 at t3 ed3 ⊢
      obtain ⟨r',e',er3,_,wr4⟩:=(wr2.same t3).there ed3 hv a
      cases e'
      exact ⟨.inl ⟨rfl,_,SqL.of er3⟩,_,rfl,r,_,_,rfl,rfl,er3,by rw [List.length_map];omega,_,rfl,_,rfl,_,_,rfl,rfl,inv ((s2.trans t3).Fo h0r) (by omega) wr4⟩
     ·have hl00:H l0=none:=s2.free hl0
      have wr4:=wr2.new ed hv hl0 hl00 a
      have nwl:l0≠w:=nw0.symm
      have el2:(upd (upd H2 l0 (.lst [])) w (.dT (putK kvs (kz z c) (.ref l0)))) l0=some (.lst []):=by rw [AF nwl];exact AB
      refine ⟨.inl ⟨rfl,_,SqL.of el2⟩,_,rfl,l0,_,_,rfl,rfl,el2,by simp;omega,_,rfl,_,rfl,_,_,rfl,rfl,inv (((s2.trans t3).Fo hw0).Fo hl00) (by omega) wr4⟩
    ·refine ⟨_,_,_,rfl,s2,?_⟩
     rw [tk]
     have e:¬ c > t-z:=e
     obtain ⟨kvs,q1,q2,q3,q4⟩:=wr2.Tg (g:=Du z d (its.take n++[(t,a)])) fun x=>by
      rw [KZ]
      unfold Jb
      congr 1
      by_cases h:FH z d x t
      ·rw [if_pos (show FH z d x (t,a).1 from h),if_pos ⟨h.1,h.2.1,by have:=h.2.2;omega⟩]
      ·rw [if_neg (show ¬ FH z d x (t,a).1 from h),if_neg (fun q=>h ⟨q.1,q.2.1,vis x q.1 q.2.1 q.2.2⟩)]
     exact ⟨kvs,q1,q2,by omega,q4⟩
   ·rintro σ H2 R R' hR ⟨v,e1,u,e2,u2,e3,i,j,e4,e5,i',j',e6,e7,b,e8,q⟩
    exact ⟨v,e1,u,e2,u2,e3,i,j,e4,e5,i',j',e6,e7,b,e8,hR _ _ q⟩
  ·rintro σ H1 ⟨o4,o5,o6,rfl,s1,wr⟩
   rw [lx,List.take_of_length_le (Nat.le_refl _)] at wr
   obtain ⟨kvs,ed,nd1,lk,q1,q2,q3⟩:=wr
   have un:∀q∈kvs,q.1=kz z (unS q.1):=fun q hq=>by
    obtain ⟨s,r,rfl,_⟩:=q1 q hq
    rfl
   refine ⟨_,rfl,k _ w kvs (kvs.map fun q=>unS q.1) s1 hw0 ⟨ed,nd1,?_⟩ ?_ (fun s=>⟨fun h=>?_,fun h=>?_⟩) (by rw [List.length_map];omega)⟩
   ·rw [List.map_map]
    refine Aa (by rw [List.length_map]) fun i q p e1 e2=>?_
    rw [List.getElem?_map,e1] at e2
    cases e2
    obtain ⟨s,r,rfl,h0,er,ne⟩:=q1 q (List.mem_of_getElem? e1)
    exact ⟨r,rfl,h0,er,ne⟩
   ·have:(kvs.map (·.1))=(kvs.map fun q=>unS q.1).map (kz z):=by
     rw [List.map_map]
     exact List.map_congr_left fun q hq=>un q hq
    rw [this] at nd1
    exact (List.pairwise_map.mp nd1).imp fun h e=>h (by rw [e])
   ·obtain ⟨q,hq,rfl⟩:=List.mem_map.mp h
    obtain ⟨s,r,rfl,_,_,ne⟩:=q1 q hq
    exact ne
   ·obtain ⟨q,hq,e⟩:=List.mem_map.mp (q2 s h)
    exact List.mem_map.mpr ⟨q,hq,by rw [e];rfl⟩
namespace Gp
open Wn (Tal GJ GK CQ D6 D1)
def unT:List Key→Int×Int
 | [.inl t,.inl a]=>(t,a)
 | _=>(0,0)
theorem Kh {kss:List (List Key)}{L:Bq}(p:kss.Perm (L.map tmK)):∃L':Bq,kss=L'.map tmK/\L'.Perm L:=by
 refine ⟨kss.map unT,?_,?_⟩
 ·rw [List.map_map]
  refine ((List.map_congr_left (g:=id) fun ks hk=>?_).trans (List.map_id _)).symm
  obtain ⟨i,_,rfl⟩:=List.mem_map.mp (p.mem_iff.mp hk)
  rfl
 ·have:=p.map unT
  rw [List.map_map] at this
  refine this.trans (List.Perm.of_eq ?_)
  exact (List.map_congr_left (g:=id) fun i _=>rfl).trans (List.map_id _)
theorem PK {L:Bq}(h:Sd (L.map tmK)):L.Pairwise fun a b=>a.1≤b.1:=by
 unfold Sd at h
 rw [List.pairwise_map] at h
 refine h.imp fun {a b} q=>?_
 have q:(if (Sum.inl b.1:Key)=Sum.inl a.1 then BG [.inl b.2] [.inl a.2] else decide (b.1<a.1))=false:=q
 by_cases e:b.1=a.1
 ·omega
 ·rw [if_neg (fun z=>e (Sum.inl.inj z))] at q
  have:=of_decide_eq_false q
  omega
theorem IP {m:Int}{its jts:Bq}{bs:List Bk}(g:Gd m its bs) (p:its.Perm jts):Gd m jts bs :=
 ⟨g.ap,fun b hb=>(g.am b hb).trans ((p.filter _).map _),fun i hi=>g.cov i (p.mem_iff.mpr hi),fun b hb=>let ⟨i,hi,e⟩:=g.lo b hb;⟨i,p.mem_iff.mp hi,e⟩,fun b hb=>let ⟨i,hi,e⟩:=g.hi b hb;⟨i,p.mem_iff.mp hi,e⟩,g.le,fun b hb i hi h1 h2=>let ⟨j,hj,r⟩:=g.ch b hb i (p.mem_iff.mpr hi) h1 h2;⟨j,p.mem_iff.mp hj,r⟩⟩
def Ji (H0 H:Hp) (c:Addr×Addr) (b:Bk):Prop:=H0 c.1=none/\H0 c.2=none/\H c.1=some (.lst [.int b.1,.int b.2.1,.ref c.2])/\H c.2=some (.lst (b.2.2.map V.int))
def adr (cs:List (Addr×Addr)):List Addr:=cs.flatMap fun c=>[c.1,c.2]
theorem IS {H0 H:Hp}{x:Addr}{o:HO}:∀{cs:List (Addr×Addr)}{bs:List Bk},Paired (Ji H0 H) cs bs→x∉adr cs→Paired (Ji H0 (upd H x o)) cs bs
 | _,_,.nil,_=>.nil
 | _,_,.cons (a:=c) ⟨h1,h2,h3,h4⟩ t,hx=>by
  rename_i b l1 l2
  have hx':x≠c.1/\x≠c.2/\x∉adr l1:=by
   unfold adr at hx
   rw [List.flatMap_cons] at hx
   simp only [List.cons_append,List.nil_append,List.mem_cons,not_or] at hx
   exact hx
  exact .cons ⟨h1,h2,by rw [AF hx'.1.symm];exact h3,by rw [AF hx'.2.1.symm];exact h4⟩ (IS t hx'.2.2)
theorem Nr {H0 H H':Hp}(s:AH H H') {cs:List (Addr×Addr)}{bs:List Bk}(h:Paired (Ji H0 H) cs bs):Paired (Ji H0 H') cs bs:=Au (fun c b ⟨h1,h2,h3,h4⟩=>⟨h1,h2,s _ _ h3,s _ _ h4⟩) h
theorem MN (cs:List (Addr×Addr)) (c:Addr×Addr):adr (cs++[c])=adr cs++[c.1,c.2]:=by
 unfold adr
 rw [List.flatMap_append]
 simp
theorem HW (cs:List (Addr×Addr)) (c:Addr×Addr):atI ((cs++[c]).map fun c=>V.ref c.1) (-1)=some (.ref c.1):=by
 rw [List.map_append]
 exact EH _ _
theorem GS {α β:Type}{F:α→β→Prop}:∀{l:List α}{x:α}{m:List β},Paired F (l++[x]) m→∃m0 y,m=m0++[y]/\Paired F l m0/\F x y
 | [],x,_,.cons h .nil=>⟨[],_,rfl,.nil,h⟩
 | a::l,x,_,.cons h t=>by
  obtain ⟨m0,y,rfl,h1,h2⟩:=GS t
  exact ⟨_::m0,y,rfl,.cons h h1,h2⟩
theorem Ka {H0 H:Hp}{x:Addr}:∀{cs:List (Addr×Addr)}{bs:List Bk},Paired (Ji H0 H) cs bs→x∈adr cs→∃o,H x=some o
 | _,_,.nil,h=>by cases h
 | _,_,.cons (a:=c) ⟨_,_,h3,h4⟩ t,hx=>by
  unfold adr at hx
  rw [List.flatMap_cons] at hx
  rcases List.mem_append.mp hx with h|h
  ·simp only [List.mem_cons,List.not_mem_nil,or_false] at h
   rcases h with rfl|rfl
   ·exact ⟨_,h3⟩
   ·exact ⟨_,h4⟩
  ·exact Ka t h
def kvL (m:Int) (cs:List (Addr×Addr)) (bs:List Bk):List (List Key×V):=(cs.zip bs).map fun cb=>([Sum.inl cb.2.1,Sum.inl (cb.2.2.1+m+1)],V.ref cb.1.2)
def PD:Sp:=fun vs H Q _=>∃(l:Addr) (xs:List V) (its:Bq) (m:Int),vs=[.ref l,.int m]/\0≤m/\H l=some (.lst xs)/\Rws H xs (its.map tmK)/\its.length≤100 /\
 ∀(H':Hp) (r:Addr) (kvs:List (List Key×V)) (bs:List Bk),AH H H'→H r=none→DPc H H' r kvs (bs.map (pcG m))→Gd m its bs→bs.length≤100→Q (.ref r) H'
theorem ON (T:Tx K mg ad):A9 P w K mg base CX0 1 ad.DJ ad.EB ["_law_items", "_law_most"] PD:=by
 refine T.DP.ok Jx (fun vs H Q E h=>?_) (fun cdv A outer s H vs Q E hr h=>?_)
 ·obtain ⟨l,xs,its,m,rfl,_⟩:=h
  rfl
 ·obtain ⟨l,xs,its,m,rfl,hm,el,hw,hlen,k⟩:=h
  have nd:=Jx.nd
  refine ⟨_,(AV (AX (i:=2) nd rfl (Or.inl rfl) (Ax AE))
    (AV (Dq PassesOwn.never rfl (Ai (K:=K) (Ab (Gj (K:=K)) (by rfl) T.B0 PyProof.Rows.boot_sorted (AA (pv 0) AE))) (Mg rfl (C4 (BM (i:=3) nd rfl (Or.inl rfl)) (C4 (BM (i:=4) nd rfl (Or.inl rfl)) Kp)))
    (AV (E7 (Be (PW.pt (Iz (Ah (JG (K:=K) hr.Gs) (pv 2) (Ax AE) (Ak _)) (G4 (Ah Lm (AL C8 (pv 3) (AN (Al (K:=K)) (AN (Al (K:=K)) (pv 2) (JD Fp AD) (fun _ _=>rfl)) AD (fun _ _=>rfl))) (pv 1) (Ak _)))))
    (AJ (Bu (Cb (K:=K) F.plainAttrs_list F.slot_list_append F.type_list_append BX (pv 2) (AA (Ax (AA (pv 3) (AA (pv 3) (AA (Ax AE) AE)))) AE))))
    A4))
    (AV (RN (AN (Al (K:=K)) (pv 2) (JD Fp AD) (fun _ _=>rfl)) AD (pv 3) rfl)
    (AJ (Ko (Bu (Cb (K:=K) F.plainAttrs_list F.slot_list_append F.type_list_append BX (AN (Al (K:=K)) (AN (Al (K:=K)) (pv 2) (JD Fp AD) (fun _ _=>rfl)) AD (fun _ _=>rfl)) (AA (pv 4) AE))))))))
    (AJ (Ae (D3 (M9 hr) (by rfl) T.IT (by decide +kernel) (AA (BN (osc:=AM GQ) [("_law_most", 1)] rfl (Ai (K:=K) (pv 2)) rfl rfl (by decide +kernel) (by decide +kernel) (by decide +kernel) ⟨rfl,rfl,trivial⟩ rfl (by decide +kernel) (fun _ _ _ _=>B9) (fun _ _ _ _=>(A8 (AA (A8 (AA (AN (Al (K:=K)) (pv 0) AD (fun _ _=>rfl)) (AA (AL BF (AL BF (AN (Al (K:=K)) (pv 0) AD (fun _ _=>rfl)) (pv 1)) AD) AE))) (AA (AN (Al (K:=K)) (pv 0) AD (fun _ _=>rfl)) AE))))) AE)))))),?_⟩
  have sz:sizeLine=16777216:=sizeLine_eq
  have i0:∀{a b c:V},atI [a,b,c] 0=some a:=AG (j:=0) rfl
  have i1:∀{a b c:V},atI [a,b,c] 1=some b:=AG (j:=1) rfl
  have i2:∀{a b c:V},atI [a,b,c] 2=some c:=AG (j:=2) rfl
  refine fun _ _ _ _ z1=>⟨Nat.zero_le _,fun fl hfl=>z1 _ _ ?_⟩
  have s0:=AH.AW (o:=.lst []) hfl
  have efl:(upd H fl (.lst [])) fl=some (.lst []):=AB
  generalize upd H fl (.lst [])=H0 at s0 efl ⊢
  have hw0:=hw.keep s0.tp
  refine fun _ _ _ _ z2=>⟨_,rfl,l,xs,_,rfl,SqL.of (s0 _ _ el),hw0.sorts (sh:=[true,true]) (by simp) (fun ks hk=>?_),fun sl qs hsl pq sq=>?_⟩
  ·obtain ⟨i',_,rfl⟩:=List.mem_map.mp hk
   rfl
  obtain ⟨g1,g2⟩:=hw0.sorted pq
  obtain ⟨its',eL,pm⟩:=Kh g2
  have ups:=PK (L:=its') (by rw [←eL];exact sq)
  have s1:=AH.AW (o:=.lst (qs.map (·.1))) hsl
  have esl:(upd H0 sl (.lst (qs.map (·.1)))) sl=some (.lst (qs.map (·.1))):=AB
  have hws:Rws (upd H0 sl (.lst (qs.map (·.1)))) (qs.map (·.1)) (its'.map tmK):=by rw [←eL];exact g1.keep s1.tp
  generalize upd H0 sl (.lst (qs.map (·.1)))=H1 at s1 esl hws ⊢
  generalize qs.map (·.1)=rs at esl hws
  have lrs:rs.length=its'.length:=by rw [hws.len,List.length_map]
  have lits:its'.length≤100:=by rw [pm.length_eq];exact hlen
  have nsf:sl≠fl:=(AK efl hsl).symm
  have hsl0:H sl=none:=s0.free hsl
  have s01:=s0.trans s1
  refine ⟨sl,rfl,⟨_,SqL.of esl⟩,B8 (K:=K) (xs:=rs) (fun n σ H'=>∃(o3 o4:Option V) (cs:List (Addr×Addr)) (bs:List Bk),σ=[some (.ref l),some (.int m),some (.ref fl),o3,o4]/\AH H H'/\H' sl=some (.lst rs)/\Tp H1 H'/\H' fl=some (.lst (cs.map fun c=>.ref c.1))/\Paired (Ji H H') cs bs/\(sl::fl::adr cs).Nodup/\Gd m (its'.take n) bs/\bs.length≤n)
   ⟨none,none,[],[],rfl,s01,esl,Tp.refl _,s1 _ _ efl,.nil,by simp [adr];exact nsf,⟨.nil,(fun b hb=>by cases hb),(fun i hi=>by simp at hi),(fun b hb=>by cases hb),(fun b hb=>by cases hb),(fun b hb=>by cases hb),fun b hb=>by cases hb⟩,Nat.le_refl _⟩ (fun n σ H' _ ⟨_,_,_,_,_,_,e,_⟩=>SqL.of e) ?_ ?_⟩
  ·rintro n y σ H2 hy ⟨o3,o4,cs,bs,rfl,s2,esl2,tp2,efl2,hbl,nd2,gd,lb⟩
   obtain ⟨b,ks,rfl,ek,eb⟩:=hws.at hy
   obtain ⟨⟨t,a⟩,ei,rfl⟩:=Ba ek
   have eb2:H2 b=some (.tup [.int t,.int a]):=tp2 _ _ eb
   have hn:n<its'.length:=(List.getElem?_eq_some_iff.mp ei).1
   have tk:its'.take (n+1)=its'.take n++[(t,a)]:=by rw [List.take_add_one,ei];rfl
   have hall:∀i∈its'.take n,i.1≤t:=fun i hi=>by
    obtain ⟨j,hj,e⟩:=List.mem_iff_getElem.mp hi
    rw [List.length_take] at hj
    have e2:=(List.getElem?_eq_some_iff.mp ei).2
    have:=List.pairwise_iff_getElem.mp ups j n (by omega) hn (by omega)
    rw [List.getElem_take] at e
    rw [e,e2] at this
    exact this
   refine ⟨b,_,rfl,SqT.of eb2,rfl,_,_,rfl,_,_,rfl,rfl,?_⟩
   refine fun _ _ _ _ z3=>IB (fun σ' H'=>∃(cs0:List (Addr×Addr)) (c:Addr×Addr) (bs0:List Bk) (f l0:Int) (ns:List Int),σ'=[some (.ref l),some (.int m),some (.ref fl),some (.int t),some (.int a)]/\AH H H'/\H' sl=some (.lst rs)/\Tp H1 H'/\H' fl=some (.lst ((cs0++[c]).map fun c=>.ref c.1))/\Paired (Ji H H') cs0 bs0/\Ji H H' c (f,l0,ns)/\(sl::fl::adr (cs0++[c])).Nodup/\Gd m (its'.take (n+1)) (bs0++[(f,t,ns++[a])])/\bs0.length≤n/\ns.length≤n) ?_ ?_
   ·have nb:∀{H':Hp} {s0' c0':Addr},AH H2 H'→H' s0'=none→(upd H' s0' (.lst [])) c0'=none→(∀b∈bs,b.2.1+m<t)→∃(cs0:List (Addr×Addr)) (c:Addr×Addr) (bs0:List Bk) (f l0:Int) (ns:List Int),[some (V.ref l),some (.int m),some (.ref fl),some (.int t),some (.int a)]=[some (.ref l),some (.int m),some (.ref fl),some (.int t),some (.int a)]/\AH H (upd (upd (upd H' s0' (.lst [])) c0' (.lst [.int t,.int t,.ref s0'])) fl (.lst ((cs.map fun c=>.ref c.1)++[.ref c0'])))/\(upd (upd (upd H' s0' (.lst [])) c0' (.lst [.int t,.int t,.ref s0'])) fl (.lst ((cs.map fun c=>.ref c.1)++[.ref c0']))) sl=some (.lst rs)/\Tp H1 (upd (upd (upd H' s0' (.lst [])) c0' (.lst [.int t,.int t,.ref s0'])) fl (.lst ((cs.map fun c=>.ref c.1)++[.ref c0'])))/\(upd (upd (upd H' s0' (.lst [])) c0' (.lst [.int t,.int t,.ref s0'])) fl (.lst ((cs.map fun c=>.ref c.1)++[.ref c0']))) fl=some (.lst ((cs0++[c]).map fun c=>.ref c.1))/\Paired (Ji H (upd (upd (upd H' s0' (.lst [])) c0' (.lst [.int t,.int t,.ref s0'])) fl (.lst ((cs.map fun c=>.ref c.1)++[.ref c0'])))) cs0 bs0/\Ji H (upd (upd (upd H' s0' (.lst [])) c0' (.lst [.int t,.int t,.ref s0'])) fl (.lst ((cs.map fun c=>.ref c.1)++[.ref c0']))) c (f,l0,ns)/\(sl::fl::adr (cs0++[c])).Nodup/\Gd m (its'.take (n+1)) (bs0++[(f,t,ns++[a])])/\bs0.length≤n/\ns.length≤n:=fun {H' s0' c0'} sh hs0 hc0 far=>by
     have t1:=AH.AW (o:=.lst []) hs0
     have t2:=AH.AW (o:=.lst [.int t,.int t,.ref s0']) hc0
     have S2:=sh.trans (t1.trans t2)
     have hs0H:H s0'=none:=(s2.trans sh).free hs0
     have hc0H:H c0'=none:=(s2.trans (sh.trans t1)).free hc0
     have nsc:s0'≠c0':=AK AB hc0
     have nx:∀{x:Addr} {o:HO},H2 x=some o→x≠s0'/\x≠c0':=fun e=>⟨AK (sh _ _ e) hs0,AK ((sh.trans t1) _ _ e) hc0⟩
     have eflS:=S2 _ _ efl2
     have tpl:=(Tp.refl _).upd (o:=.lst ((cs.map fun c=>.ref c.1)++[.ref c0'])) eflS (fun xs=>by intro z;cases z)
     simp only [List.nodup_cons,List.mem_cons,not_or] at nd2
     obtain ⟨⟨q1,q2⟩,q3,q4⟩:=nd2
     refine ⟨cs,(c0',s0'),bs,t,t,[],rfl,(s2.trans S2).Fo hfl,by rw [AF q1];exact S2 _ _ esl2,(tp2.trans S2.tp).trans tpl,by rw [AB,List.map_append];rfl,IS (Nr S2 hbl) q3,⟨hc0H,hs0H,by rw [AF (nx efl2).2.symm];exact AB,by rw [AF (nx efl2).1.symm,AF nsc];exact AB⟩,?_,by rw [tk];exact TZ hm gd far,lb,Nat.zero_le _⟩
     rw [MN]
     simp only [List.nodup_cons,List.mem_cons,List.mem_append,List.nodup_append,List.not_mem_nil,or_false,not_or,not_false_eq_true,List.nodup_nil,and_true]
     refine ⟨⟨q1,q2,(nx esl2).2,(nx esl2).1⟩,⟨q3,(nx efl2).2,(nx efl2).1⟩,q4,nsc.symm,fun x hx y hy e=>?_⟩
     obtain ⟨o,ho⟩:=Ka hbl hx
     rcases hy with rfl|rfl
     ·exact (nx ho).2 e
     ·exact (nx ho).1 e
    refine ⟨_,rfl,Nat.zero_le _,fun e0 he0=>?_⟩
    have t0:=AH.AW (o:=.lst []) he0
    have ee0:(upd H2 e0 (.lst [])) e0=some (.lst []):=AB
    generalize upd H2 e0 (.lst [])=H3 at t0 ee0 ⊢
    refine ⟨fl,e0,_,rfl,rfl,SqL.of (t0 _ _ efl2),SqL.of ee0,_,rfl,?_⟩
    have lcs:(cs.map fun c=>V.ref c.1).length≤1000:=by rw [List.length_map,Paired.length hbl];omega
    rcases List.eq_nil_or_concat cs with rfl|⟨cs0,c,rfl⟩
    ·have:bs=[]:=by cases hbl;rfl
     subst this
     exact QP ⟨_,rfl,.inl ⟨rfl,_,SqL.of (t0 _ _ efl2)⟩,_,rfl,_,rfl,Nat.zero_le _,fun s0' hs0'=>⟨Nat.le_of_ble_eq_true rfl,fun c0' hc0'=>⟨fl,_,_,rfl,rfl,((AH.AW hs0').trans (AH.AW hc0')) _ _ (t0 _ _ efl2),by omega,nb t0 hs0' hc0' (fun b hb=>by cases hb)⟩⟩⟩
    ·rw [List.concat_eq_append] at *
     obtain ⟨bs0,⟨f,l0,ns⟩,rfl,hb0,hcb⟩:=GS hbl
     have hc1:=t0 _ _ hcb.2.2.1
     have emp:((cs0++[c]).map fun c=>V.ref c.1).isEmpty=false:=by simp
     rw [emp]
     refine D7 ⟨_,rfl,_,rfl,_,rfl,fl,_,_,_,rfl,rfl,SqL.of (t0 _ _ efl2),HW cs0 c,c.1,_,_,_,rfl,rfl,SqL.of hc1,i1,_,_,rfl,rfl,_,rfl,_,_,rfl,rfl,_,rfl,JS (fun e=>?_) fun e=>?_⟩
     ·have e:t-l0 > m:=e
      refine ⟨_,rfl,.inl ⟨rfl,_,SqL.of (t0 _ _ efl2)⟩,_,rfl,_,rfl,Nat.zero_le _,fun s0' hs0'=>⟨Nat.le_of_ble_eq_true rfl,fun c0' hc0'=>⟨fl,_,_,rfl,rfl,((AH.AW hs0').trans (AH.AW hc0')) _ _ (t0 _ _ efl2),by omega,nb t0 hs0' hc0' (fun b hb=>?_)⟩⟩⟩
      obtain ⟨_,_,p3⟩:=List.pairwise_append.mp gd.ap
      have hle:=gd.le _ (List.mem_append_right _ (List.mem_singleton.mpr rfl):(f,l0,ns)∈bs0++[(f,l0,ns)])
      have hle:f≤l0:=hle
      rcases List.mem_append.mp hb with hb|hb
      ·have:b.2.1+m<f:=p3 b hb _ (List.mem_singleton.mpr rfl)
       omega
      ·rw [List.mem_singleton.mp hb]
       show l0+m<t
       omega
     ·have e:¬ t-l0 > m:=e
      have lns:ns.length≤n:=by
       have:=(gd.am _ (List.mem_append_right _ (List.mem_singleton.mpr rfl):(f,l0,ns)∈bs0++[(f,l0,ns)])).length_eq
       have this:ns.length=_:=this
       rw [this,List.length_map]
       refine Nat.le_trans (List.length_filter_le _ _) ?_
       rw [List.length_take]
       omega
      rw [List.length_append] at lb
      refine ⟨cs0,c,bs0,f,l0,ns,rfl,s2.trans t0,t0 _ _ esl2,tp2.trans t0.tp,t0 _ _ efl2,Nr t0 hb0,⟨hcb.1,hcb.2.1,hc1,t0 _ _ hcb.2.2.2⟩,nd2,by rw [tk];exact Tb hm gd hall (by omega),by omega,lns⟩
   ·rintro σ' H3 ⟨cs0,c,bs0,f,l0,ns,rfl,s3,esl3,tp3,efl3,hbl3,hc,nd3,gd3,lb3,lns⟩
    obtain ⟨h01,h02,hc1,hc2⟩:=hc
    have ndc:c.1∉adr cs0/\c.2∉adr cs0/\c.1≠c.2/\fl≠c.1/\fl≠c.2/\sl≠c.1/\sl≠c.2:=by
     rw [MN] at nd3
     simp only [List.nodup_cons,List.mem_cons,List.mem_append,List.nodup_append,List.not_mem_nil,or_false,not_or] at nd3
     obtain ⟨⟨_,_,q1,q2⟩,⟨_,q3,q4⟩,_,⟨q5,_⟩,q6⟩:=nd3
     exact ⟨fun h=>q6 _ h _ (.inl rfl) rfl,fun h=>q6 _ h _ (.inr rfl) rfl,q5,q3,q4,q1,q2⟩
    refine z3 _ _ fun _ _ _ _ z5=>⟨_,rfl,_,rfl,_,rfl,fl,_,_,_,rfl,rfl,SqL.of efl3,HW cs0 c,c.1,_,1,rfl,rfl,hc1,(by show 1<3;decide),z5 _ _ ?_⟩
    have hH4:(upd H3 c.1 (.lst [.int f,.int t,.ref c.2])) c.1=some (.lst [.int f,.int t,.ref c.2]):=AB
    have tp4:Tp H3 (upd H3 c.1 (.lst [.int f,.int t,.ref c.2])):=(Tp.refl H3).upd hc1 fun xs=>by intro z;cases z
    have efl4:(upd H3 c.1 (.lst [.int f,.int t,.ref c.2])) fl=some (.lst ((cs0++[c]).map fun c=>.ref c.1)):=by rw [AF ndc.2.2.2.1];exact efl3
    have esl4:(upd H3 c.1 (.lst [.int f,.int t,.ref c.2])) sl=some (.lst rs):=by rw [AF ndc.2.2.2.2.2.1];exact esl3
    have hc4:(upd H3 c.1 (.lst [.int f,.int t,.ref c.2])) c.2=some (.lst (ns.map V.int)):=by rw [AF ndc.2.2.1.symm];exact hc2
    have hbl4:Paired (Ji H (upd H3 c.1 (.lst [.int f,.int t,.ref c.2]))) cs0 bs0:=IS hbl3 ndc.1
    have s4:AH H (upd H3 c.1 (.lst [.int f,.int t,.ref c.2])):=s3.Fo h01
    show _
    refine fun _ _ _ _ z6=>⟨_,rfl,_,rfl,fl,_,_,_,rfl,rfl,SqL.of efl4,HW cs0 c,c.1,_,_,_,rfl,rfl,SqL.of hH4,i2,.inl ⟨rfl,_,SqL.of hc4⟩,_,rfl,c.2,_,_,rfl,rfl,hc4,by rw [List.length_map];omega,?_⟩
    have tp5:Tp (upd H3 c.1 (.lst [.int f,.int t,.ref c.2])) (upd (upd H3 c.1 (.lst [.int f,.int t,.ref c.2])) c.2 (.lst (ns.map V.int++[.int a]))):=(Tp.refl _).upd hc4 fun xs=>by intro z;cases z
    refine z6 _ _ ⟨_,_,cs0++[c],bs0++[(f,t,ns++[a])],rfl,s4.Fo h02,by rw [AF ndc.2.2.2.2.2.2];exact esl4,(tp3.trans tp4).trans tp5,by rw [AF ndc.2.2.2.2.1];exact efl4,Ag (IS hbl4 ndc.2.1) (.cons ⟨h01,h02,by rw [AF ndc.2.2.1];exact hH4,by rw [AB,List.map_append];rfl⟩ .nil),nd3,gd3,by rw [List.length_append,List.length_singleton];omega⟩
  ·rintro σ H2 ⟨o3,o4,cs,bs,rfl,s2,esl2,tp2,efl2,hbl,nd2,gd,lb⟩
   rw [lrs,List.take_of_length_le (Nat.le_refl _)] at gd
   have gd':=IP gd pm
   have lcb:=Paired.length hbl
   have hposb:∀b∈bs,b.2.2≠[]:=fun b hb=>List.length_pos_iff.mp (by
    rw [(gd.am b hb).length_eq,List.length_map]
    obtain ⟨i,hi,e⟩:=gd.lo b hb
    exact List.length_pos_of_mem (List.mem_filter.mpr ⟨hi,decide_eq_true ⟨by omega,by have:=gd.le b hb;omega⟩⟩))
   have lkv:(kvL m cs bs).length=bs.length:=by unfold kvL;rw [List.length_map,List.length_zip];omega
   refine z2 _ _ ⟨_,rfl,fl,rfl,⟨_,SqL.of efl2⟩,?_⟩
   refine BR (K:=K) (xs:=cs.map fun c=>.ref c.1) (fun n τ acc H'=>(∃o,τ=[o,some (.int m)])/\AH H2 H'/\UZ H' acc ((kvL m cs bs).take n)) (by rw [List.length_map];omega) ⟨⟨none,rfl⟩,AH.refl _,.nil⟩ (fun n τ acc H' ⟨_,s',_⟩=>SqL.of (s' _ _ efl2)) ?_ ?_
   ·rintro n y τ acc H3 R1 hy _ ⟨⟨o,rfl⟩,s3,hp3⟩ k1
    obtain ⟨c,hc,rfl⟩:=Ba hy
    obtain ⟨lp,f⟩:=AQ hbl
    have hnb:n<bs.length:=by have:=(List.getElem?_eq_some_iff.mp hc).1;omega
    have ebn:bs[n]?=some bs[n]:=List.getElem?_eq_getElem hnb
    obtain ⟨_,_,hc1,hc2⟩:=f n c _ hc ebn
    generalize bs[n]=b at ebn hc1 hc2
    have ekv:(kvL m cs bs)[n]?=some ([Sum.inl b.1,Sum.inl (b.2.1+m+1)],V.ref c.2):=by
     unfold kvL
     rw [List.getElem?_map,(List.getElem?_zip_eq_some (z:=(c,b))).mpr ⟨hc,ebn⟩]
     rfl
    have hc1':=s3 _ _ hc1
    refine ⟨_,rfl,c.1,_,_,_,rfl,rfl,SqL.of hc1',i0,_,rfl,c.1,_,_,_,rfl,rfl,SqL.of hc1',i1,_,rfl,_,_,rfl,rfl,_,_,rfl,rfl,Nat.le_of_ble_eq_true rfl,fun kb hkb=>?_⟩
    have t1:=AH.AW (o:=.tup [.int b.1,.int (b.2.1+m+1)]) hkb
    have ekb:(upd H3 kb (.tup [.int b.1,.int (b.2.1+m+1)])) kb=some (.tup [.int b.1,.int (b.2.1+m+1)]):=AB
    generalize upd H3 kb (.tup [.int b.1,.int (b.2.1+m+1)])=H4 at t1 ekb ⊢
    refine ⟨_,rfl,c.1,_,_,_,rfl,rfl,SqL.of (t1 _ _ hc1'),i2,Nat.le_of_ble_eq_true rfl,fun pb hpb=>k1 _ _ _ ⟨⟨_,rfl⟩,s3.trans (t1.upd hpb),?_⟩⟩
    have t2:=AH.AW (o:=.tup [.ref kb,.ref c.2]) hpb
    rw [List.take_add_one,ekv]
    exact Ag (Au (fun y p ⟨b,kb,e,e1,e2⟩=>⟨b,kb,e,(t1.trans t2) _ _ e1,(t1.trans t2) _ _ e2⟩) hp3) (.cons ⟨pb,kb,rfl,AB,t2 _ _ ekb⟩ .nil)
   ·rintro τ acc H3 la ⟨_,s3,hp3⟩ D hD
    rw [List.length_map,List.take_of_length_le (by omega)] at hp3
    have s4:=AH.AW (o:=.lst acc) hD
    have eD:(upd H3 D (.lst acc)) D=some (.lst acc):=AB
    generalize upd H3 D (.lst acc)=H4 at s4 eD ⊢
    have keys:(kvL m cs bs).map (·.1)=bs.map fun b=>[Sum.inl b.1,Sum.inl (b.2.1+m+1)]:=by
     unfold kvL
     rw [List.map_map,←List.map_snd_zip (l₁:=cs) (l₂:=bs) (by omega),List.map_map,List.map_snd_zip (by omega)]
     rfl
    have ndk:((kvL m cs bs).map (·.1)).Nodup:=by
     rw [keys]
     refine List.pairwise_map.mpr (gd.ap.imp_of_mem fun {a b} ha hb h e=>?_)
     have e1:a.1=b.1:=Sum.inl.inj (List.cons.inj e).1
     have:=gd.le a ha
     omega
    refine ⟨D,acc,kvL m cs bs,rfl,eD,Au (fun y p ⟨b,kb,e,e1,e2⟩=>⟨b,kb,e,s4 _ _ e1,s4 _ _ e2⟩) hp3,ndk,fun r hr0=>?_⟩
    have s24:=s3.trans s4
    have s5:=AH.AW (o:=.dT (kvL m cs bs)) hr0
    refine k _ r _ bs (s2.trans (s24.trans s5)) ((s2.trans s24).free hr0) ⟨AB,ndk,?_⟩ gd' (by omega)
    refine DI (Aa lkv fun i q b e1 e2=>?_)
    unfold kvL at e1
    rw [List.getElem?_map] at e1
    obtain ⟨cb,e3,rfl⟩:=Option.map_eq_some_iff.mp e1
    obtain ⟨e4,e5⟩:=List.getElem?_zip_eq_some.mp e3
    rw [e2] at e5
    cases e5
    obtain ⟨_,f⟩:=AQ hbl
    obtain ⟨_,h2,_,hc2⟩:=f i _ _ e4 e2
    exact ⟨cb.1.2,rfl,h2,(s24.trans s5) _ _ hc2,hposb cb.2 (List.mem_of_getElem? e2)⟩
end Gp
def JR (p:Pc):List Key:=[.inl p.1,.inl p.2.1]
theorem Dc {α β:Type}{f:α→β}{ks:List β}{ps:List α}(p:ks.Perm (ps.map f)):∃ps':List α,ps'.Perm ps/\ks=ps'.map f:=by
 have pr:Paired (fun (a:α) (b:β)=>b=f a) ps (ps.map f):=DI (F:=fun (a:α) (b:β)=>b=f a) (f:=f) (Dd (R:=fun a b=>f b=f a) (fun a=>rfl) ps)
 obtain ⟨ps',q1,q2⟩:=De p pr
 refine ⟨ps',q1,?_⟩
 obtain ⟨l,g⟩:=AQ q2
 refine List.ext_getElem? fun i=>?_
 rw [List.getElem?_map]
 cases e:ps'[i]? with
 | none=>rw [List.getElem?_eq_none (by rw [←l];exact List.getElem?_eq_none_iff.mp e)];rfl
 | some a =>
  have hi:=(List.getElem?_eq_some_iff.mp e).1
  have e2:=List.getElem?_eq_getElem (show i<ks.length by omega)
  rw [e2]
  exact congrArg some (g i a _ e e2)
def Ti (k:Kd) (its:Bq) (ps:List Pc):Prop:=∀ps':List Pc,ps'.Perm ps→Sd (ps'.map JR)→OpenK k its (-1) ps'
theorem L4 {f:Int→List Int}:∀{ks:List Int}{x:Int},x∈ks→Wn.look (ks.map fun s=>(s,f s)) x=f x
 | k::ks,x,h=>by
  show (if k=x then f k else Wn.look (ks.map fun s=>(s,f s)) x)=f x
  by_cases e:k=x
  ·rw [if_pos e,e]
  ·rw [if_neg e]
   rcases List.mem_cons.mp h with h|h
   ·exact absurd h.symm e
   ·exact L4 h
theorem Ni {f:Int→List Int}:∀{ks:List Int}{x:Int},x∉ks→Wn.look (ks.map fun s=>(s,f s)) x=[]
 | [],_,_=>rfl
 | k::ks,x,h=>by
  show (if k=x then f k else Wn.look (ks.map fun s=>(s,f s)) x)=[]
  rw [if_neg (fun e=>h (by rw [e];exact List.mem_cons_self))]
  exact Ni fun hm=>h (List.mem_cons_of_mem _ hm)
theorem N5 {ps:List Pc}(h:Sd (ps.map JR)):ps.Pairwise fun a b=>a.1≤b.1:=by
 unfold Sd at h
 rw [List.pairwise_map] at h
 refine h.imp fun {a b} q=>?_
 have q:(if (Sum.inl b.1:Key)=Sum.inl a.1 then BG [.inl b.2.1] [.inl a.2.1] else decide (b.1<a.1))=false:=q
 by_cases e:b.1=a.1
 ·omega
 ·rw [if_neg (fun z=>e (Sum.inl.inj z))] at q
  have:=of_decide_eq_false q
  omega
theorem Qp {z d:Int}{its:Bq}{s:Int}(h:Du z d its s≠[]):∃i∈its,FH z d s i.1:=by
 unfold Du at h
 obtain ⟨x,hx⟩:=List.exists_mem_of_ne_nil _ h
 obtain ⟨i,hi,_⟩:=List.mem_map.mp hx
 obtain ⟨h1,h2⟩:=List.mem_filter.mp hi
 exact ⟨i,h1,of_decide_eq_true h2⟩
theorem RO {z d:Int}{its:Bq}{ss:List Int}(ht:∀i∈its,0≤i.1) (nd:ss.Nodup) (hs:∀s,s∈ss↔Du z d its s≠[]):Ti (.each z d) its (ss.map fun s=>(s,s+z,Du z d its s)):=by
 intro ps' p sd
 obtain ⟨ss',q,rfl⟩:=Dc p
 have nd':ss'.Nodup:=q.nodup_iff.mpr nd
 have up:ss'.Pairwise (· < ·):=by
  have h1:=N5 sd
  rw [List.pairwise_map] at h1
  refine (h1.and nd').imp fun {a b} ⟨h2,h3⟩=>?_
  have h2:a≤b:=h2
  omega
 have ms:∀s,s∈ss'↔Du z d its s≠[]:=fun s=>q.mem_iff.trans (hs s)
 refine ⟨ss'.map fun s=>(s,Du z d its s),List.pairwise_map.mpr up,fun p hp=>?_,fun s=>?_,?_⟩
 ·obtain ⟨s,h1,rfl⟩:=List.mem_map.mp hp
  exact (ms s).mp h1
 ·by_cases h:s∈ss'
  ·rw [L4 h]
   obtain ⟨i,hi,w⟩:=Qp ((ms s).mp h)
   have:=ht i hi
   have:=w.2.2
   rw [if_pos (by omega)]
  ·rw [Ni h]
   have:Du z d its s=[]:=by
    cases hq:Du z d its s with
    | nil=>rfl
    | cons a b=>exact absurd ((ms s).mpr (by rw [hq];simp)) h
   rw [this]
   split <;> rfl
 ·rw [List.map_map]
  rfl
theorem Su {m:Int}{its:Bq}{bs:List Gp.Bk}(hm:0≤m) (ht:∀i∈its,0≤i.1) (g:Gp.Gd m its bs):Ti (.gap m) its (bs.map (pcG m)):=by
 intro ps' p sd
 obtain ⟨bs',q,rfl⟩:=Dc p
 have up:bs.Pairwise fun a b=>a.1<b.1:=g.ap.imp_of_mem fun {a b} ha hb h=>by
  have:=g.le a ha
  omega
 have sd2:Sd ((bs.map (pcG m)).map JR):=by
  unfold Sd
  rw [List.map_map,List.pairwise_map]
  refine up.imp fun {a b} h=>?_
  show (if (Sum.inl b.1:Key)=Sum.inl a.1 then BG [.inl (b.2.1+m+1)] [.inl (a.2.1+m+1)] else decide (b.1<a.1))=false
  rw [if_neg (fun z=>by have:=Sum.inl.inj z;omega)]
  exact decide_eq_false (by omega)
 have e:=FO (p.map JR) sd sd2
 have eb:bs'=bs:=by
  refine List.ext_getElem q.length_eq fun i h1 h2=>?_
  have e1:=congrArg (fun l=>l[i]?) e
  simp only [List.getElem?_map,List.getElem?_eq_getElem h1,List.getElem?_eq_getElem h2] at e1
  have e2:JR (pcG m bs'[i])=JR (pcG m bs[i]):=Option.some.inj e1
  have e3:bs'[i].1=bs[i].1:=Sum.inl.inj (List.cons.inj e2).1
  have m1:bs'[i]∈bs:=q.mem_iff.mp (List.getElem_mem h1)
  have m2:bs[i]∈bs:=List.getElem_mem h2
  rcases Gp.Bg g.ap m1 m2 with h|h|h
  ·exact h
  ·have:=g.le _ m1;omega
  ·have:=g.le _ m2;omega
 subst eb
 refine ⟨[],its,[],bs',by simp,⟨.nil,fun b hb=>(by cases hb),fun i hi=>(by cases hi),fun b hb=>(by cases hb),fun b hb=>(by cases hb),fun b hb=>(by cases hb),fun b hb=>(by cases hb)⟩,g,fun b hb=>(by cases hb),fun b hb=>?_,fun b hb=>(by cases hb),rfl⟩
 obtain ⟨i,hi,e⟩:=g.hi b hb
 have:=ht i hi
 omega
theorem O1 {kvs:List (List Key×V)}{k:List Key}{v:V}(nd:(kvs.map (·.1)).Nodup) (h:(k,v)∈kvs):A0 kvs k=some v:=by
 obtain ⟨v2,hv2⟩:=Cz (List.mem_map.mpr ⟨_,h,rfl⟩:k∈kvs.map (·.1))
 have hm2:=B6 hv2
 obtain ⟨i,hi,ei⟩:=List.mem_iff_getElem.mp h
 obtain ⟨j,hj,ej⟩:=List.mem_iff_getElem.mp hm2
 have:=(List.getElem_inj (xs:=kvs.map (·.1)) (i:=i) (j:=j) (h₀:=by simpa using hi) (h₁:=by simpa using hj) nd).mp (by simp [ei,ej])
 subst this
 rw [ei] at ej
 rw [hv2]
 exact congrArg some (congrArg Prod.snd ej).symm
abbrev It3:=Int×Str×Int
def itV (i:It3):List Key:=[.inl i.1,.inr i.2.1,.inl i.2.2]
def Cd (L:List It3) (z:Str):Bq:=(L.filter fun i=>decide (i.2.1=z)).map fun i=>(i.1,i.2.2)
theorem HJ (L:List It3) (i:It3) (z:Str):Cd (L++[i]) z=Cd L z++(if i.2.1=z then [(i.1,i.2.2)] else []):=by
 unfold Cd
 rw [List.filter_append,List.map_append]
 congr 1
 rw [List.filter_cons]
 by_cases h:i.2.1=z
 ·rw [if_pos (decide_eq_true h),if_pos h];rfl
 ·rw [if_neg (fun q=>h (of_decide_eq_true q)),if_neg h];rfl
theorem Ga {L:List It3}{z:Str}{p:Int×Int}(h:p∈Cd L z):∃i∈L,p=(i.1,i.2.2)/\i.2.1=z:=by
 obtain ⟨i,hi,rfl⟩:=List.mem_map.mp h
 obtain ⟨h1,h2⟩:=List.mem_filter.mp hi
 exact ⟨i,h1,rfl,of_decide_eq_true h2⟩
theorem QN (L:List It3) (z:Str):(Cd L z).length≤L.length:=by
 unfold Cd
 rw [List.length_map]
 exact List.length_filter_le _ _
def DuA (H0 H:Hp) (x:V) (kp:Str×Pc):Prop:=∃a l:Addr,x=.ref a/\H a=some (.tup [.str kp.1,.int kp.2.1,.int kp.2.2.1,.ref l])/\H0 l=none/\H l=some (.lst (kp.2.2.2.map V.int))/\kp.2.2.2≠[]
def DuS (H0 H:Hp) (xs:List V) (ps:List (Str×Pc)):Prop:=Paired (DuA H0 H) xs ps
theorem DuS.same {H0 H H':Hp}{xs:List V}{ps:List (Str×Pc)}(h:DuS H0 H xs ps) (s:AH H H'):DuS H0 H' xs ps:=Au (fun x p ⟨a,l,e,e1,e0,e2,e3⟩=>⟨a,l,e,s _ _ e1,e0,s _ _ e2,e3⟩) h
theorem DuS.len {H0 H:Hp}{xs:List V}{ps:List (Str×Pc)}(h:DuS H0 H xs ps):xs.length=ps.length:=(AQ h).1
def MW:Sp:=fun vs H Q _=>∃(p l:Addr) (k:Kd) (nm so:Str) (xs:List V) (L:List It3) (now:Int),vs=[.ref p,.ref l,.int now]/\Dl H p k nm so/\k.ok/\H l=some (.lst xs)/\Rws H xs (L.map itV)/\L.length≤40/\(∀i∈L,0≤i.1/\i.1≤1000000000)/\0≤now /\
 ∀(H':Hp) (r:Addr) (ys:List V) (g:Str→List Pc) (ks:List Str),AH H H'→H r=none→H' r=some (.lst ys)→DuS H H' ys (AZ g ks)→CA ks→ks.Nodup→(∀z,z∈ks↔Cd L z≠[])→(∀z,OpenK k (Cd L z) now (g z))→(∀z,(g z).length≤840)→Q (.ref r) H'
theorem IW {g:Str→List Pc}{z:Str}{ps:List Pc}:∀{ks:List Str},z∉ks→AZ (E6 g z ps) ks=AZ g ks
 | [],_=>rfl
 | k::ks,h=>by
  unfold AZ
  rw [List.flatMap_cons,List.flatMap_cons]
  have h1:k≠z:=fun e=>h (by rw [e];exact List.mem_cons_self)
  rw [Bi h1]
  congr 1
  exact IW fun hm=>h (List.mem_cons_of_mem _ hm)
theorem Ra (T:Tx K mg ad):A9 P w K mg base CX0 2 ad.GB ad.HN ["_law_step", "_law_items", "_law_now"] MW:=by
 have G_uwindows:=RZ (P:=P) (w:=w) (base:=base) T
 have G_uparts:=Gp.ON (P:=P) (w:=w) (base:=base) T
 refine T.Eo.ok NQ (fun vs H Q E h=>?_) (fun cdv A outer s H vs Q E hr h=>?_)
 ·obtain ⟨p,l,k,nm,so,xs,L,now,rfl,_⟩:=h
  rfl
 ·obtain ⟨p,l,kd,nm,so,xs,L,now,rfl,st,kok,el,hw,hlen,hti,hn0,k⟩:=h
  have nd:=NQ.nd
  refine ⟨_,(AV (AX (i:=3) nd rfl (Or.inl rfl) (Ax AE))
    (AV (Dq PassesOwn.never rfl (Ai (K:=K) (OE (K:=K) rfl (by rfl) T.B0 (by rfl) T.LD (BN (osc:=AM G0) [] rfl (Ai (K:=K) (pv 1)) rfl rfl (by decide +kernel) (by decide +kernel) (by decide +kernel) trivial rfl (by decide +kernel) (fun _ _ _ _=>B9) (fun _ _ _ _=>(AN (AI (K:=K)) (pv 0) AD (fun _ _=>rfl)))))) (BM (i:=4) nd rfl (Or.inr rfl))
    (AV (FQ (i:=5) (osc:=AM G0) [("_law_key", 4)] nd rfl (Or.inl rfl) rfl (Ai (K:=K) (pv 1)) rfl rfl (by decide +kernel) (by decide +kernel) (by decide +kernel) ⟨rfl,rfl,trivial⟩ rfl (by decide +kernel) (fun _ _ _ _=>DY (Ah C5 (AN (AI (K:=K)) (pv 0) AD (fun _ _=>rfl)) (pv 1) (Ak _))) (fun _ _ _ _=>(A8 (AA (AN (AI (K:=K)) (pv 0) AD (fun _ _=>rfl)) (AA (AN (AI (K:=K)) (pv 0) AD (fun _ _=>rfl)) AE)))))
    (AV (E7 (Be (Ah C5 (AN (AI (K:=K)) (pv 0) AD (fun _ _=>rfl)) Bh (Ak _))
    (AJ (AX (i:=6) nd rfl (Or.inr rfl) (Af G_uwindows (hr.mono (by decide)) (by rfl) T.Ms T.CM.kp T.NC .nil As (AA (pv 5) (AA (AN (AI (K:=K)) (pv 0) AD (fun _ _=>rfl)) (AA (AN (AI (K:=K)) (pv 0) AD (fun _ _=>rfl)) AE))))))
    (AJ (AX (i:=6) nd rfl (Or.inr rfl) (Af G_uparts (hr.mono (by decide)) (by rfl) T.QE T.DP.kp T.Qh .nil As (AA (pv 5) (AA (AN (AI (K:=K)) (pv 0) AD (fun _ _=>rfl)) AE)))))))
    (AJ (Ko (AX (i:=3) nd rfl (Or.inl rfl) (AL FD (pv 3) (BN (osc:=AM G0) [("_law_now", 2),("_law_key", 4),("_law_pieces", 6)] rfl (Ai (K:=K) (Ab (K5 (K:=K) rfl) (by rfl) T.B0 PyProof.Rows.boot_sorted (AA (pv 6) AE))) rfl rfl (by decide +kernel) (by decide +kernel) (by decide +kernel) ⟨rfl,rfl,rfl,rfl,rfl,rfl,trivial⟩ rfl (by decide +kernel) (fun _ _ _ _=>DY (Ah Lm (AN (AI (K:=K)) (pv 0) AD (fun _ _=>rfl)) (pv 1) (Ak _))) (fun _ _ _ _=>(A8 (AA (pv 2) (AA (AN (AI (K:=K)) (pv 0) AD (fun _ _=>rfl)) (AA (AN (AI (K:=K)) (pv 0) AD (fun _ _=>rfl)) (AA (NW hr.u1 (pv 3) (pv 0) (fun _ _=>rfl)) AE))))))))))))))
    (AJ (Ae (pv 3))))),?_⟩
  have sz:sizeLine=16777216:=sizeLine_eq
  have lx:xs.length=L.length:=by rw [hw.len,List.length_map]
  refine fun _ _ _ _ z1=>⟨Nat.zero_le _,fun d0 hd0=>z1 _ _ ?_⟩
  have s0:=AH.AW (o:=.lst []) hd0
  have ed0:(upd H d0 (.lst [])) d0=some (.lst []):=AB
  generalize upd H d0 (.lst [])=H0 at s0 ed0 ⊢
  refine fun _ _ _ _ z2=>⟨_,rfl,l,rfl,⟨_,SqL.of (s0 _ _ el)⟩,?_⟩
  refine BR (K:=K) (xs:=xs) (fun n τ acc H'=>(∃o,τ=[o])/\H'=H0/\acc=((L.take n).map fun i=>(Sum.inr i.2.1:Key)).map kV) (by omega) ⟨⟨none,rfl⟩,rfl,rfl⟩ (fun n τ acc H' ⟨_,e,_⟩=>by rw [e];exact SqL.of (s0 _ _ el)) ?_ ?_
  ·rintro n x τ acc H1 R1 hx _ ⟨⟨o,rfl⟩,rfl,rfl⟩ k1
   obtain ⟨b,ks,rfl,ek,eb⟩:=hw.at hx
   obtain ⟨i,ei,rfl⟩:=Ba ek
   have eb1:=s0 _ _ eb
   refine ⟨_,rfl,b,_,_,_,rfl,rfl,SqT.of eb1,AG (j:=1) rfl,k1 _ _ _ ⟨⟨_,rfl⟩,rfl,?_⟩⟩
   rw [List.take_add_one,ei,List.map_append,List.map_append]
   rfl
  ·rintro τ acc H1 la ⟨_,rfl,rfl⟩ D hD
   rw [lx,List.take_of_length_le (Nat.le_refl _)]
   have s1:=AH.AW (o:=.lst ((L.map fun i=>(Sum.inr i.2.1:Key)).map kV)) hD
   have eD:(upd H1 D (.lst ((L.map fun i=>(Sum.inr i.2.1:Key)).map kV))) D=some (.lst ((L.map fun i=>(Sum.inr i.2.1:Key)).map kV)):=AB
   generalize upd H1 D (.lst ((L.map fun i=>(Sum.inr i.2.1:Key)).map kV))=H2 at s1 eD ⊢
   have sb:scanBound=4096:=rfl
   refine ⟨D,_,rfl,SqL.of eD,.inr (fun q hq=>?_),by rw [List.length_map];omega,fun sl rs hsl prs srs=>?_⟩
   ·obtain ⟨i,_,rfl⟩:=List.mem_map.mp hq
    exact ⟨_,rfl⟩
   have mrs:∀q,q∈rs↔∃i∈L,q=Sum.inr i.2.1:=fun q=>by
    rw [prs.mem_iff,Stk.JO]
    constructor
    ·rintro (h|h)
     ·cases h
     ·obtain ⟨i,hi,rfl⟩:=List.mem_map.mp h
      exact ⟨i,hi,rfl⟩
    ·rintro ⟨i,hi,rfl⟩
     exact .inr (List.mem_map.mpr ⟨i,hi,rfl⟩)
   have nrs:rs.Nodup:=prs.nodup_iff.mpr (Stk.JK _ _ (by simp))
   obtain ⟨ks,rfl⟩:∃ks:List Str,rs=ks.map Sum.inr:=by
    refine ⟨rs.map fun q=>match q with|.inr x=>x|.inl _ => "", ?_⟩
    rw [List.map_map]
    refine ((List.map_congr_left (g:=id) fun q hq=>?_).trans (List.map_id _)).symm
    obtain ⟨i,_,rfl⟩:=(mrs q).mp hq
    rfl
   have ndk:ks.Nodup:=(List.pairwise_map.mp nrs).imp fun h e=>h (by rw [e])
   have mks:∀z,z∈ks↔Cd L z≠[]:=fun z=>by
    have h1:z∈ks↔(Sum.inr z:Key)∈ks.map Sum.inr:=⟨fun h=>List.mem_map.mpr ⟨z,h,rfl⟩,fun h=>by obtain ⟨y,hy,e⟩:=List.mem_map.mp h;rw [←Sum.inr.inj e];exact hy⟩
    rw [h1,mrs]
    constructor
    ·rintro ⟨i,hi,e⟩ hn
     have:(i.1,i.2.2)∈Cd L z:=List.mem_map.mpr ⟨i,List.mem_filter.mpr ⟨hi,decide_eq_true (Sum.inr.inj e).symm⟩,rfl⟩
     rw [hn] at this
     cases this
    ·intro hn
     obtain ⟨q,hq⟩:=List.exists_mem_of_ne_nil _ hn
     obtain ⟨i,hi,_,e⟩:=Ga hq
     exact ⟨i,hi,by rw [e]⟩
   have lks:ks.length≤40:=by
    have:=prs.length_eq
    have h2:=Stk.JI (L.map fun i=>(Sum.inr i.2.1:Key)) []
    rw [List.length_map] at this h2
    simp at h2
    omega
   have s2:=AH.AW (o:=.lst ((ks.map (Sum.inr:Str→Key)).map kV)) hsl
   have esl:(upd H2 sl (.lst ((ks.map (Sum.inr:Str→Key)).map kV))) sl=some (.lst ((ks.map (Sum.inr:Str→Key)).map kV)):=AB
   generalize upd H2 sl (.lst ((ks.map (Sum.inr:Str→Key)).map kV))=H3 at s2 esl ⊢
   have s03:=s0.trans (s1.trans s2)
   refine ⟨sl,rfl,⟨_,SqL.of esl⟩,B8 (K:=K) (xs:=(ks.map (Sum.inr:Str→Key)).map kV) (fun n σ H'=>∃(o4 o5 o6:Option V) (d:Addr) (acc:List V) (g:Str→List Pc),σ=[some (.ref p),some (.ref l),some (.int now),some (.ref d),o4,o5,o6]/\AH H3 H'/\H d=none/\H' d=some (.lst acc)/\DuS H H' acc (AZ g (ks.take n))/\(∀z,if z∈ks.take n then OpenK kd (Cd L z) now (g z) else g z=[])/\(∀z,(g z).length≤840)/\acc.length≤840 * n)
    ⟨none,none,none,d0,[],(fun _=>[]),rfl,AH.refl _,hd0,(s1.trans s2) _ _ ed0,.nil,(fun z=>by rw [if_neg (by simp)]),(fun z=>Nat.zero_le _),Nat.zero_le _⟩ (fun n σ H' _ ⟨_,_,_,_,_,_,_,s',_⟩=>SqL.of (s' _ _ esl)) ?_ ?_⟩
   ·rintro n x σ H4 hx ⟨o4,o5,o6,d,acc,g,rfl,s4,hd,ed,du,hop,hgl,la⟩
    rw [List.map_map,List.getElem?_map] at hx
    obtain ⟨z,hz,rfl⟩:=Option.map_eq_some_iff.mp hx
    have hn:n<ks.length:=(List.getElem?_eq_some_iff.mp hz).1
    have S4:=s03.trans s4
    have el4:=S4 _ _ el
    have hw4:=hw.keep S4.tp
    refine fun _ _ _ _ z3=>⟨_,rfl,l,rfl,⟨_,SqL.of el4⟩,?_⟩
    refine Bw (K:=K) (xs:=xs) (fun j τ acc' H'=>(∃o,τ=[o,some (.str z)])/\AH H4 H'/\Rws H' acc' ((Cd (L.take j) z).map tmK)) (by omega) ⟨⟨none,rfl⟩,AH.refl _,EM _⟩ (fun j τ acc' H' ⟨_,s',_⟩=>SqL.of (s' _ _ el4)) ?_ ?_
    ·rintro j y τ acc' H5 R1 R0 hy _ ⟨⟨o,rfl⟩,s5,hw5⟩ k1 k0
     obtain ⟨b,q,rfl,ek,eb⟩:=hw4.at hy
     obtain ⟨i,ei,rfl⟩:=Ba ek
     have eb5:=s5 _ _ eb
     have tk:L.take (j+1)=L.take j++[i]:=by rw [List.take_add_one,ei];rfl
     refine ⟨_,rfl,b,_,_,_,rfl,rfl,SqT.of eb5,AG (j:=1) rfl,_,rfl,rfl,_,rfl,Hz (fun e=>?_) fun e=>?_⟩
     ·refine ⟨_,rfl,b,_,_,_,rfl,rfl,SqT.of eb5,AG (j:=0) rfl,_,rfl,b,_,_,_,rfl,rfl,SqT.of eb5,AG (j:=2) rfl,Nat.le_of_ble_eq_true rfl,fun r hr'=>k1 _ _ _ ⟨⟨_,rfl⟩,s5.upd hr',?_⟩⟩
      rw [tk,HJ,if_pos e,List.map_append]
      exact (hw5.keep (AH.AW hr').tp).snoc AB
     ·refine k0 _ _ ⟨⟨_,rfl⟩,s5,?_⟩
      rw [tk,HJ,if_neg e,List.append_nil]
      exact hw5
    rintro τ acc5 H5 _ ⟨_,s5,hw5⟩ so5 hso5
    rw [lx,List.take_of_length_le (Nat.le_refl _)] at hw5
    have s6:=AH.AW (o:=.lst acc5) hso5
    have e5:(upd H5 so5 (.lst acc5)) so5=some (.lst acc5):=AB
    have hw6:=hw5.keep s6.tp
    generalize upd H5 so5 (.lst acc5)=H6 at s6 e5 hw6 ⊢
    have s46:=s5.trans s6
    have S6:=S4.trans s46
    have st6:=S6 _ _ st
    have lit:=QN L z
    have hti2:∀i∈Cd L z,0≤i.1/\i.1≤1000000000:=fun i hi=>by
     obtain ⟨j,hj,rfl,_⟩:=Ga hi
     exact hti j hj
    refine z3 _ _ fun _ _ _ _ z4=>IB (fun σ' H'=>∃(r:Addr) (kvs:List (List Key×V)) (ps:List Pc),σ'=[some (.ref p),some (.ref l),some (.int now),some (.ref d),some (.str z),some (.ref so5),some (.ref r)]/\AH H6 H'/\DPc H6 H' r kvs ps/\Ti kd (Cd L z) ps/\ps.length≤840) ?_ ?_
    ·cases kd with
     | each zz dd =>
      obtain ⟨ok1,ok2,ok3,ok4⟩:=kok
      refine ⟨_,rfl,p,_,_,_,rfl,rfl,SqT.of st6,AG (j:=0) rfl,rfl,_,rfl,Hz (fun _=>?_) fun h=>absurd rfl h⟩
      refine ⟨_,rfl,_,rfl,p,_,_,_,rfl,rfl,SqT.of st6,AG (j:=4) rfl,_,rfl,p,_,_,_,rfl,rfl,SqT.of st6,AG (j:=5) rfl,so5,acc5,_,zz,dd,rfl,e5,hw6,fun i hi=>⟨ok1,by omega,ok2,ok3,(hti2 i hi).1,by have:=(hti2 i hi).2;omega⟩,ok1,ok2,ok4,by omega,fun H' r kvs ss s' hr' dp nds hss lss=>?_⟩
      exact ⟨r,kvs,_,rfl,s',dp,RO (fun i hi=>(hti2 i hi).1) nds hss,by rw [List.length_map];omega⟩
     | gap m =>
      refine ⟨_,rfl,p,_,_,_,rfl,rfl,SqT.of st6,AG (j:=0) rfl,rfl,_,rfl,Hz (fun h=>absurd h (by decide)) fun _=>?_⟩
      refine ⟨_,rfl,_,rfl,p,_,_,_,rfl,rfl,SqT.of st6,AG (j:=4) rfl,so5,acc5,_,m,rfl,kok.1,e5,hw6,by omega,fun H' r kvs bs s' hr' dp gd lbs=>?_⟩
      exact ⟨r,kvs,_,rfl,s',dp,Su kok.1 (fun i hi=>(hti2 i hi).1) gd,by rw [List.length_map];omega⟩
    ·rintro σ' H7 ⟨r,kvs,ps,rfl,s7,⟨er,ndv,pr⟩,pok,lps⟩
     have S7:=S6.trans s7
     have kps:kvs.map (·.1)=ps.map JR:=by
      obtain ⟨lp,f⟩:=AQ pr
      refine List.ext_getElem (by rw [List.length_map,List.length_map];exact lp) fun i h1 h2=>?_
      rw [List.length_map] at h1 h2
      obtain ⟨l',e,_⟩:=f i _ _ (List.getElem?_eq_getElem h1) (List.getElem?_eq_getElem h2)
      rw [List.getElem_map,List.getElem_map,e]
      rfl
     have ed7:=(s46.trans s7) _ _ ed
     refine z4 _ _ fun _ _ _ _ z8=>⟨_,rfl,_,rfl,r,kvs,[true,true],rfl,er,by simp,fun q hq=>?_,fun sk ys ks7 hsk rw7 pk7 sd7=>?_⟩
     ·have:q.1∈ps.map JR:=by rw [←kps];exact List.mem_map.mpr ⟨q,hq,rfl⟩
      obtain ⟨pp,_,e⟩:=List.mem_map.mp this
      rw [←e]
      rfl
     rw [kps] at pk7
     obtain ⟨ps',pp',rfl⟩:=Dc pk7
     have op0:=pok ps' pp' sd7
     have op1:=JF kok (show (-1:Int)≤now by omega) op0
     have lps':ps'.length≤840:=by rw [pp'.length_eq];exact lps
     have s8:=AH.AW (o:=.lst ys) hsk
     have esk:(upd H7 sk (.lst ys)) sk=some (.lst ys):=AB
     have rw8:=rw7.keep s8.tp
     generalize upd H7 sk (.lst ys)=H8 at s8 esk rw8 ⊢
     have lys:ys.length=ps'.length:=by rw [rw8.len,List.length_map]
     refine ⟨sk,rfl,⟨_,SqL.of esk⟩,?_⟩
     refine Bw (K:=K) (xs:=ys) (fun j τ acc' H'=>(∃o,τ=[o,some (.int now),some (.str z),some (.ref r)])/\AH H8 H'/\DuS H H' acc' (((ps'.take j).filter fun p=>decide (now<p.2.1)).map fun p=>(z,p))) (by omega) ⟨⟨none,rfl⟩,AH.refl _,.nil⟩ (fun j τ acc' H' ⟨_,s',_⟩=>SqL.of (s' _ _ esk)) ?_ ?_
     ·rintro j y τ acc' H9 R1 R0 hy _ ⟨⟨o,rfl⟩,s9,du9⟩ k1 k0
      obtain ⟨b,q,rfl,ek,eb⟩:=rw8.at hy
      obtain ⟨pc,ei,rfl⟩:=Ba ek
      have eb9:H9 b=some (.tup [.int pc.1,.int pc.2.1]):=s9 _ _ eb
      have fs:=Bn (p:=fun p:Pc=>decide (now<p.2.1)) ei
      obtain ⟨i,hi⟩:=List.mem_iff_getElem?.mp (pp'.mem_iff.mp (List.mem_of_getElem? ei))
      obtain ⟨lp,f⟩:=AQ pr
      have hik:i<kvs.length:=by have:=(List.getElem?_eq_some_iff.mp hi).1;omega
      obtain ⟨l',e,h0l,hl',ne⟩:=f i _ _ (List.getElem?_eq_getElem hik) hi
      have hv:A0 kvs (JR pc)=some (.ref l'):=O1 ndv (e ▸ List.getElem_mem hik:(JR pc,V.ref l')∈kvs)
      have er9:=(s8.trans s9) _ _ er
      have dg:Jp H9 r (.ref b) (some (.ref l')):=.inr ⟨kvs,JR pc,b,.inl er9,rfl,eb9,hv.symm⟩
      refine ⟨_,rfl,b,_,_,_,rfl,rfl,SqT.of eb9,AG (j:=1) rfl,_,rfl,_,_,rfl,rfl,_,rfl,JS (fun e=>?_) fun e=>?_⟩
      ·have e:pc.2.1 > now:=e
       refine ⟨_,rfl,_,rfl,b,_,_,_,rfl,rfl,SqT.of eb9,AG (j:=0) rfl,_,rfl,b,_,_,_,rfl,rfl,SqT.of eb9,AG (j:=1) rfl,_,rfl,_,rfl,r,_,rfl,dg,Nat.le_of_ble_eq_true rfl,fun t ht=>k1 _ _ _ ⟨⟨_,rfl⟩,s9.upd ht,?_⟩⟩
       rw [if_pos (decide_eq_true (show now<pc.2.1 from e))] at fs
       rw [fs,List.map_append]
       have t9:=AH.AW (o:=.tup [.str z,.int pc.1,.int pc.2.1,.ref l']) ht
       exact Ag (DuS.same du9 t9) (.cons ⟨t,l',rfl,AB,S6.free h0l,t9 _ _ ((s8.trans s9) _ _ hl'),ne⟩ .nil)
      ·have e:¬ pc.2.1 > now:=e
       refine k0 _ _ ⟨⟨_,rfl⟩,s9,?_⟩
       rw [if_neg (fun q=>e (of_decide_eq_true q)),List.append_nil] at fs
       rw [fs]
       exact du9
     rintro τ acc9 H9 _ ⟨_,s9,du9⟩ D9 hD9
     rw [lys,List.take_of_length_le (Nat.le_refl _)] at du9
     have s10:=AH.AW (o:=.lst acc9) hD9
     have eD9:(upd H9 D9 (.lst acc9)) D9=some (.lst acc9):=AB
     have du10:=DuS.same du9 s10
     generalize upd H9 D9 (.lst acc9)=H10 at s10 eD9 du10 ⊢
     have s7t:=s8.trans (s9.trans s10)
     have ed10:=s7t _ _ ed7
     have l9:acc9.length≤840:=by
      rw [du9.len,List.length_map]
      exact Nat.le_trans (List.length_filter_le _ _) lps'
     refine ⟨d,D9,_,_,rfl,rfl,ed10,eD9,by omega,fun c hc=>?_⟩
     have s11:=AH.AW (o:=.lst (acc++acc9)) hc
     have S10:=S7.trans s7t
     have s4t:=(s46.trans s7).trans s7t
     have hzn:z∉ks.take n:=fun hm=>by
      obtain ⟨i,hi,e⟩:=List.mem_iff_getElem.mp hm
      rw [List.length_take] at hi
      rw [List.getElem_take] at e
      have e2:=(List.getElem?_eq_some_iff.mp hz).2
      have:=(List.getElem_inj (h₀:=by omega) (h₁:=hn) ndk).mp (e.trans e2.symm)
      omega
     have tkz:ks.take (n+1)=ks.take n++[z]:=by rw [List.take_add_one,hz];rfl
     refine z8 _ _ ⟨_,_,_,c,acc++acc9,E6 g z (ps'.filter fun p=>decide (now<p.2.1)),rfl,s4.trans (s4t.trans s11),S10.free hc,AB,?_,fun y=>?_,fun y=>?_,by rw [List.length_append];omega⟩
     ·rw [IV hz,IW hzn,CY]
      exact Ag (DuS.same du (s4t.trans s11)) (DuS.same du10 s11)
     ·rw [tkz]
      by_cases ey:y=z
      ·subst ey
       rw [if_pos (by simp),CY]
       exact op1
      ·rw [Bi ey]
       have:=hop y
       by_cases hm:y∈ks.take n
       ·rw [if_pos hm] at this
        rw [if_pos (by simp [hm])]
        exact this
       ·rw [if_neg hm] at this
        rw [if_neg (by simp [hm,ey])]
        exact this
     ·by_cases ey:y=z
      ·subst ey
       rw [CY]
       exact Nat.le_trans (List.length_filter_le _ _) lps'
      ·rw [Bi ey]
       exact hgl y
   ·rintro σ H4 ⟨o4,o5,o6,d,acc,g,rfl,s4,hd,ed,du,hop,hgl,la⟩
    rw [List.length_map,List.length_map,List.take_of_length_le (Nat.le_refl _)] at du hop
    refine z2 _ _ ⟨_,rfl,k H4 d acc g ks (s03.trans s4) hd ed du srs ndk mks (fun z=>?_) hgl⟩
    have:=hop z
    by_cases hm:z∈ks
    ·rw [if_pos hm] at this
     exact this
    ·rw [if_neg hm] at this
     have e0:Cd L z=[]:=by
      cases hq:Cd L z with
      | nil=>rfl
      | cons a b=>exact absurd ((mks z).mpr (by rw [hq];simp)) hm
     rw [this,e0]
     exact GU kd now
def PF:Sp:=fun vs H Q _=>∃(so:Str) (l:Addr) (ns:List Int),vs=[.str so,.ref l]/\so∈SRT/\H l=some (.lst (ns.map V.int))/\ns≠[]/\∀v:Int,FN so ns v→Q (.int v) H
theorem OO (T:Tx K mg ad):A9 P w K mg base CX0 1 ad.DK ad.EC ["_law_sort", "_law_amounts"] PF:=by
 refine T.DQ.ok Jy (fun vs H Q E h=>?_) (fun cdv A outer s H vs Q E hr h=>?_)
 ·obtain ⟨so,l,ns,rfl,_⟩:=h
  rfl
 ·obtain ⟨so,l,ns,rfl,hso,el,hne,k⟩:=h
  have nd:=Jy.nd
  refine ⟨_,(AO (Be (Ah C5 (pv 0) Bh (Ak _))
    (AJ (Ae (Ab (BB (K:=K)) (by rfl) T.Er PySem.boot_len (AA (pv 1) AE))))
    A4)
    (AO (Be (Ah C5 (pv 0) Bh (Ak _))
    (AJ (Ae (Ab (KP (K:=K) rfl) (by rfl) T.Jq PyProof.Rows.boot_sum (AA (pv 1) AE))))
    A4)
    (AJ (Ae (Pj (Ah C5 (pv 0) Bh (Ak _)) (Ab (HQ (K:=K) rfl) (by rfl) T.Ew PyProof.Rows.boot_min (AA (pv 1) AE)) (Ab (HR (K:=K) rfl) (by rfl) T.Fg PyProof.Rows.boot_max (AA (pv 1) AE))))))),?_⟩
  have hpos:0<ns.length:=List.length_pos_iff.mpr hne
  refine ⟨_,rfl,rfl,_,rfl,Hz (fun e=>⟨_,rfl,l,_,rfl,.inl (SqL.of el),?_⟩) fun e1=>⟨_,rfl,rfl,_,rfl,Hz (fun e=>⟨_,rfl,l,ns,rfl,SqL.of el,k _ (.inr (.inl ⟨e,rfl⟩))⟩) fun e2=>⟨_,rfl,rfl,_,rfl,Hz (fun e=>⟨_,rfl,l,ns,rfl,SqL.of el,hpos,fun M h1 h2=>k _ (.inr (.inr (.inl ⟨e,h1,h2⟩)))⟩) fun e3=>⟨_,rfl,l,ns,rfl,SqL.of el,hpos,fun M h1 h2=>k _ (.inr (.inr (.inr ⟨?_,h1,h2⟩)))⟩⟩⟩⟩
  ·have:=k _ (.inl ⟨e,rfl⟩)
   rw [List.length_map]
   exact this
  ·simp only [SRT,List.mem_cons,List.not_mem_nil,or_false] at hso
   rcases hso with h|h|h|h
   ·exact absurd h e1
   ·exact absurd h e2
   ·exact absurd h e3
   ·exact h
noncomputable def T8 (so:Str) (kp:Str×Pc):List Key:=[.inl kp.2.2.1,.inr kp.1,.inl kp.2.1,.inl (HX so kp.2.2.2)]
theorem OV {a b c a' b' c' v v':Key}(h:BG [a,b,c,v] [a',b',c',v']=false):BG [a,b,c] [a',b',c']=false:=by
 have h:(if a=a' then (if b=b' then (if c=c' then (if v=v' then BG [] [] else kLt v v') else kLt c c') else kLt b b') else kLt a a')=false:=h
 show (if a=a' then (if b=b' then (if c=c' then BG [] [] else kLt c c') else kLt b b') else kLt a a')=false
 split
 ·next e1 =>
  rw [if_pos e1] at h
  split
  ·next e2 =>
   rw [if_pos e2] at h
   split
   ·rfl
   ·next e3=>rw [if_neg e3] at h;exact h
  ·next e2=>rw [if_neg e2] at h;exact h
 ·next e1=>rw [if_neg e1] at h;exact h
def Q7:Sp:=fun vs H Q _=>∃(H0:Hp) (p l:Addr) (k:Kd) (nm so:Str) (ys:List V) (ps:List (Str×Pc)),vs=[.ref p,.ref l]/\Dl H p k nm so/\so∈SRT/\H l=some (.lst ys)/\DuS H0 H ys ps/\ps.length≤100000 /\
 ∀(H':Hp) (r:Addr) (xs:List V) (kss:List (List Key)),AH H H'→H r=none→H' r=some (.lst xs)→Rws H' xs kss→kss.Perm (ps.map (Dy nm so))→(kss.map JE).Pairwise (fun a b=>BG b a=false)→Q (.ref r) H'
theorem Pz (T:Tx K mg ad):A9 P w K mg base CX0 2 ad.Ef ad.FY ["_law_step", "_law_due_here"] Q7:=by
 have G_uasked:=OO (P:=P) (w:=w) (base:=base) T
 refine T.Em.ok LV (fun vs H Q E h=>?_) (fun cdv A outer s H vs Q E hr h=>?_)
 ·obtain ⟨H0,p,l,k,nm,so,ys,ps,rfl,_⟩:=h
  rfl
 ·obtain ⟨H0,p,l,kd,nm,so,ys,ps,rfl,st,hso,el,du,lps,k⟩:=h
  have nd:=LV.nd
  refine ⟨_,(AO (AX (i:=2) nd rfl (Or.inl rfl) (Ab (Gj (K:=K)) (by rfl) T.B0 PyProof.Rows.boot_sorted (AA (BN (osc:=AM GP) [("_law_step", 0)] rfl (Ai (K:=K) (pv 1)) rfl rfl (by decide +kernel) (by decide +kernel) (by decide +kernel) ⟨rfl,rfl,trivial⟩ rfl (by decide +kernel) (fun _ _ _ _=>B9) (fun _ _ _ _=>(A8 (AA (AN (AI (K:=K)) (pv 0) AD (fun _ _=>rfl)) (AA (AN (AI (K:=K)) (pv 0) AD (fun _ _=>rfl)) (AA (AN (AI (K:=K)) (pv 0) AD (fun _ _=>rfl)) (AA (Af G_uasked (hr.mono (by decide)) (by rfl) T.QF T.DQ.kp T.Qi .nil As (AA (AN (AI (K:=K)) (pv 1) AD (fun _ _=>rfl)) (AA (AN (AI (K:=K)) (pv 0) AD (fun _ _=>rfl)) AE))) AE))))))) AE)))
    (AJ (Ae (BN (osc:=AM GP) [("_law_step", 0)] rfl (Ai (K:=K) (pv 2)) rfl rfl (by decide +kernel) (by decide +kernel) (by decide +kernel) ⟨rfl,rfl,trivial⟩ rfl (by decide +kernel) (fun _ _ _ _=>B9) (fun _ _ _ _=>(A8 (AA (AN (AI (K:=K)) (pv 1) AD (fun _ _=>rfl)) (AA (AN (AI (K:=K)) (pv 0) AD (fun _ _=>rfl)) (AA (AN (AI (K:=K)) (pv 0) AD (fun _ _=>rfl)) (AA (AN (AI (K:=K)) (pv 0) AD (fun _ _=>rfl)) (AA (AN (AI (K:=K)) (pv 0) AD (fun _ _=>rfl)) AE))))))))))),?_⟩
  have sz:sizeLine=16777216:=sizeLine_eq
  have ly:=du.len
  refine ⟨_,rfl,l,rfl,⟨_,SqL.of el⟩,?_⟩
  refine BR (K:=K) (xs:=ys) (fun n τ acc H'=>(∃o,τ=[o,some (.ref p)])/\AH H H'/\Rws H' acc ((ps.take n).map (T8 so))) (by omega) ⟨⟨none,rfl⟩,AH.refl _,EM _⟩ (fun n τ acc H' ⟨_,s',_⟩=>SqL.of (s' _ _ el)) ?_ ?_
  ·rintro n y τ acc H1 R1 hy _ ⟨⟨o,rfl⟩,s1,hw1⟩ k1
   obtain ⟨lp,f⟩:=AQ du
   have hn:n<ps.length:=by have:=(List.getElem?_eq_some_iff.mp hy).1;omega
   have ep:=List.getElem?_eq_getElem hn
   obtain ⟨a,l',rfl,ea,_,el',ne⟩:=f n _ _ hy ep
   generalize ps[n]=kp at ep ea el' ne
   have ea1:=s1 _ _ ea
   obtain ⟨q1,q2,q3,q4⟩:=Dl.parts (K:=K) (show Dl H1 p kd nm so from s1 _ _ st)
   refine ⟨_,rfl,a,_,_,_,rfl,rfl,SqT.of ea1,AG (j:=2) rfl,_,rfl,a,_,_,_,rfl,rfl,SqT.of ea1,AG (j:=0) rfl,_,rfl,a,_,_,_,rfl,rfl,SqT.of ea1,AG (j:=1) rfl,_,rfl,p,_,_,_,rfl,rfl,q1,q3,_,rfl,a,_,_,_,rfl,rfl,SqT.of ea1,AG (j:=3) rfl,so,l',kp.2.2.2,rfl,hso,s1 _ _ el',ne,fun v hv=>⟨Nat.le_of_ble_eq_true rfl,fun r hr'=>k1 _ _ _ ⟨⟨_,rfl⟩,s1.upd hr',?_⟩⟩⟩
   rw [List.take_add_one,ep,List.map_append]
   rw [LB hv]
   exact (hw1.keep (AH.AW hr').tp).snoc (ks:=T8 so kp) AB
  rintro τ acc H1 _ ⟨_,s1,hw1⟩ D hD
  rw [ly,List.take_of_length_le (Nat.le_refl _)] at hw1
  have s2:=AH.AW (o:=.lst acc) hD
  have eD:(upd H1 D (.lst acc)) D=some (.lst acc):=AB
  have hw2:=hw1.keep s2.tp
  generalize upd H1 D (.lst acc)=H2 at s2 eD hw2 ⊢
  refine ⟨D,acc,_,rfl,SqL.of eD,hw2.sorts (sh:=[true,false,true,true]) (by simp) (fun ks hk=>?_),fun sl qs hsl pq sq=>?_⟩
  ·obtain ⟨i',_,rfl⟩:=List.mem_map.mp hk
   rfl
  obtain ⟨g1,g2⟩:=hw2.sorted pq
  obtain ⟨ps',pp,eps⟩:=Dc g2
  rw [eps] at g1 sq
  have s3:=AH.AW (o:=.lst (qs.map (·.1))) hsl
  have esl:(upd H2 sl (.lst (qs.map (·.1)))) sl=some (.lst (qs.map (·.1))):=AB
  have g3:=g1.keep s3.tp
  generalize upd H2 sl (.lst (qs.map (·.1)))=H3 at s3 esl g3 ⊢
  generalize qs.map (·.1)=rs at esl g3 g1
  have lrs:rs.length=ps'.length:=by rw [g3.len,List.length_map]
  have lp':=pp.length_eq
  have S3:=s1.trans (s2.trans s3)
  refine ⟨_,rfl,sl,rfl,⟨_,SqL.of esl⟩,?_⟩
  refine BR (K:=K) (xs:=rs) (fun n τ acc H'=>(∃o,τ=[o,some (.ref p)])/\AH H3 H'/\Rws H' acc ((ps'.take n).map (Dy nm so))) (by omega) ⟨⟨none,rfl⟩,AH.refl _,EM _⟩ (fun n τ acc H' ⟨_,s',_⟩=>SqL.of (s' _ _ esl)) ?_ ?_
  ·rintro n y τ acc H4 R1 hy _ ⟨⟨o,rfl⟩,s4,hw4⟩ k1
   obtain ⟨b,q,rfl,ek,eb⟩:=g3.at hy
   obtain ⟨kp,ei,rfl⟩:=Ba ek
   have eb4:H4 b=some (.tup [.int kp.2.2.1,.str kp.1,.int kp.2.1,.int (HX so kp.2.2.2)]):=s4 _ _ eb
   obtain ⟨q1,q2,q3,q4⟩:=Dl.parts (K:=K) (show Dl H4 p kd nm so from (S3.trans s4) _ _ st)
   refine ⟨_,rfl,p,_,_,_,rfl,rfl,q1,q2,_,rfl,b,_,_,_,rfl,rfl,SqT.of eb4,AG (j:=1) rfl,_,rfl,b,_,_,_,rfl,rfl,SqT.of eb4,AG (j:=2) rfl,_,rfl,b,_,_,_,rfl,rfl,SqT.of eb4,AG (j:=0) rfl,_,rfl,b,_,_,_,rfl,rfl,SqT.of eb4,AG (j:=3) rfl,Nat.le_of_ble_eq_true rfl,fun r hr'=>k1 _ _ _ ⟨⟨_,rfl⟩,s4.upd hr',?_⟩⟩
   rw [List.take_add_one,ei,List.map_append]
   exact (hw4.keep (AH.AW hr').tp).snoc (ks:=Dy nm so kp) AB
  ·rintro τ acc4 H4 _ ⟨_,s4,hw4⟩ D4 hD4
   rw [lrs,List.take_of_length_le (Nat.le_refl _)] at hw4
   refine k _ D4 acc4 _ ((S3.trans s4).upd hD4) ((S3.trans s4).free hD4) AB (hw4.keep (AH.AW hD4).tp) (pp.map _) ?_
   rw [List.map_map,List.pairwise_map]
   rw [List.pairwise_map] at sq
   exact sq.imp fun {a b} h=>OV h
def NL (a b:Str×Pc):Prop:=a.1=b.1/\ID a.2 b.2
theorem Mc (p:Pc):ID p p:=⟨rfl,rfl,.refl _⟩
theorem LN {ns ms:List Int}{xs ys:List V}(h:Tal ns xs) (h':Tal ms ys) (p:ns.Perm ms):xs=ys:=Wn.Tal.same h h' p
theorem GI {ns:List Int}{ts:List V}{H:Hp}{q:Addr}(h:Tal ns ts) (e:H q=some (.tup ts)):∃n s l g:Int,ts=[.int n,.int s,.int l,.int g]/\Dv K H (.ref q) (.tuple [.int n,.int s,.int l,.int g]):=by
 obtain ⟨l,g,rfl,_⟩:=h
 exact ⟨_,_,l,g,rfl,.tup (SqT.of e) (.cons (.int _) (.cons (.int _) (.cons (.int _) (.cons (.int _) .nil))))⟩
theorem Po {H:Hp}{xs ys:List V}{ps qs:List Pc}(h:C7 H xs ps):C7 H ys qs→Paired ID ps qs→∃D,Dvs K H xs D/\Dvs K H ys D/\PyData.canLayAll0 D=true/\PyData.depthAll D≤2:=by
 unfold C7 at h ⊢
 induction h generalizing ys qs with
 | nil =>
  intro h2 h3
  cases h3
  cases h2
  exact ⟨[],.nil,.nil,rfl,by decide⟩
 | cons h1 _ ih =>
  intro h2 h3
  cases h3 with|cons h3 t3 =>
  cases h2 with|cons h2 t2 =>
  obtain ⟨D,a1,a2,a3,a4⟩:=ih t2 t3
  obtain ⟨a,q,ts,rfl,ea,eq,ta⟩:=h1
  obtain ⟨b,r,us,rfl,eb,er,tb⟩:=h2
  obtain ⟨f1,f2,f3⟩:=h3
  have e:=LN ta tb f3
  subst e
  rw [←f1,←f2] at eb
  obtain ⟨n,s,l,g,e1,d1⟩:=GI (K:=K) ta eq
  obtain ⟨n',s',l',g',e2,d2⟩:=GI (K:=K) ta er
  rw [e1] at e2
  cases e2
  refine ⟨_::D,.cons (.tup (SqT.of ea) (.cons (.int _) (.cons (.int _) (.cons d1 .nil)))) a1,.cons (.tup (SqT.of eb) (.cons (.int _) (.cons (.int _) (.cons d2 .nil)))) a2,?_,?_⟩
  ·simp [PyData.canLayAll0,PyData.canLay0,a3]
  ·simp [PyData.depthAll,PyData.depth]
   omega
theorem JB {H:Hp}{xs ys:List V}{ps qs:List (Str×Pc)}(h:PkS H xs ps):PkS H ys qs→Paired NL ps qs→(∀kp∈ps,PyData.strOk kp.1=true)→∃D,Dvs K H xs D/\Dvs K H ys D/\PyData.canLayAll0 D=true/\PyData.depthAll D≤2:=by
 unfold PkS at h ⊢
 induction h generalizing ys qs with
 | nil =>
  intro h2 h3 _
  cases h3
  cases h2
  exact ⟨[],.nil,.nil,rfl,by decide⟩
 | cons h1 _ ih =>
  intro h2 h3 hk
  cases h3 with|cons h3 t3 =>
  cases h2 with|cons h2 t2 =>
  obtain ⟨D,a1,a2,a3,a4⟩:=ih t2 t3 fun kp h=>hk kp (List.mem_cons_of_mem _ h)
  have hk1:=hk _ List.mem_cons_self
  obtain ⟨a,q,ts,rfl,ea,eq,ta⟩:=h1
  obtain ⟨b,r,us,rfl,eb,er,tb⟩:=h2
  obtain ⟨f0,f1,f2,f3⟩:=h3
  have e:=LN ta tb f3
  subst e
  rw [←f0,←f1,←f2] at eb
  obtain ⟨n,s,l,g,e1,d1⟩:=GI (K:=K) ta eq
  obtain ⟨n',s',l',g',e2,d2⟩:=GI (K:=K) ta er
  rw [e1] at e2
  cases e2
  refine ⟨_::D,.cons (.tup (SqT.of ea) (.cons (.str _) (.cons (.int _) (.cons (.int _) (.cons d1 .nil))))) a1,.cons (.tup (SqT.of eb) (.cons (.str _) (.cons (.int _) (.cons (.int _) (.cons d2 .nil))))) a2,?_,?_⟩
  ·simp [PyData.canLayAll0,PyData.canLay0,a3,hk1]
  ·simp [PyData.depthAll,PyData.depth]
   omega
theorem CB {D:List PyData}(a3:PyData.canLayAll0 D=true) (a4:PyData.depthAll D≤2):SeqAt.shaped (.list D)=true:=by
 simp [SeqAt.shaped,PyData.canLay0,PyData.depth,a3]
 omega
theorem DA {g:Str→List Pc}:∀(ks:List Str),AZ g (ks.filter fun z=>!(g z).isEmpty)=AZ g ks
 | []=>rfl
 | k::ks=>by
  rw [List.filter_cons]
  have ih:=DA (g:=g) ks
  unfold AZ at ih ⊢
  cases h:g k with
  | nil =>
   rw [if_neg (by simp),List.flatMap_cons,h]
   simpa using ih
  | cons a b =>
   rw [if_pos (by simp),List.flatMap_cons,List.flatMap_cons,ih]
theorem Ij {ks:List Str}(h:CA ks):Sd (ks.map fun k=>[(Sum.inr k:Key)]):=by
 unfold CA at h
 unfold Sd
 rw [List.pairwise_map] at h ⊢
 refine h.imp fun {a b} q=>?_
 show (if (Sum.inr b:Key)=Sum.inr a then BG [] [] else kLt (Sum.inr b) (Sum.inr a))=false
 split
 ·rfl
 ·exact q
theorem MY {ks js:List Str}(h1:CA ks) (h2:CA js) (n1:ks.Nodup) (n2:js.Nodup) (m:∀z,z∈ks↔z∈js):ks=js:=by
 have p:ks.Perm js:=(List.perm_ext_iff_of_nodup n1 n2).mpr m
 have e:=FO (p.map fun k=>[(Sum.inr k:Key)]) (Ij h1) (Ij h2)
 have:=congrArg (List.map fun l:List Key=>match l with|[.inr x]=>x|_ => "") e
 rw [List.map_map,List.map_map] at this
 simpa [Function.comp_def] using this
structure Gr (gL gG:Str→List Pc) (ks:List Str):Prop where
 same:∀z,Paired ID (gL z) (gG z)
 srt:CA ks
 nd:ks.Nodup
 all:∀z,gL z≠[]→z∈ks
theorem Gr.ne {gL gG:Str→List Pc}{ks:List Str}(t:Gr gL gG ks) (z:Str):gL z≠[]↔gG z≠[]:=by
 have:=(AQ (t.same z)).1
 rw [←List.length_pos_iff,←List.length_pos_iff,this]
theorem Ex {gL gG:Str→List Pc}(h:∀z,Paired ID (gL z) (gG z)):∀ks:List Str,Paired NL (AZ gL ks) (AZ gG ks)
 | []=>.nil
 | k::ks=>by
  unfold AZ
  rw [List.flatMap_cons,List.flatMap_cons]
  exact Ag (FA (fun a b q=>⟨rfl,q⟩) (h k)) (Ex h ks)
theorem Gr.pieces {gL gG:Str→List Pc}{ks js:List Str}(t:Gr gL gG ks) (s:CA js) (n:js.Nodup) (m:∀z,z∈js↔gG z≠[]):Paired NL (AZ gL ks) (AZ gG js):=by
 have e:(ks.filter fun z=>!(gL z).isEmpty)=js:=by
  refine MY ?_ s (t.nd.sublist List.filter_sublist) n fun z=>?_
  ·exact t.srt.sublist (List.filter_sublist.map _)
  ·rw [List.mem_filter,m z,←t.ne z]
   constructor
   ·rintro ⟨_,h⟩ e
    rw [e] at h
    simp at h
   ·intro h
    refine ⟨t.all z h,?_⟩
    cases hg:gL z with
    | nil=>exact absurd hg h
    | cons a b=>rfl
 rw [←DA ks,e]
 exact Ex t.same js
def Qr (f:Str→List Pc) (z:Str) (p:Pc):Str→List Pc:=fun x=>if x=z then f z++[p] else f x
theorem Gn {f:Str→List Pc}{z:Str}{p:Pc}:Qr f z p z=f z++[p]:=if_pos rfl
theorem Ec {f:Str→List Pc}{z x:Str}{p:Pc}(h:x≠z):Qr f z p x=f x:=if_neg h
def Jg (H0 H:Hp) (d:Addr) (f:Str→List Pc) (N:Nat):Prop:=∃kvs:List (Key×V),H d=some (.dK kvs)/\(kvs.map (·.1)).Nodup/\kvs.length≤N/\(∀q∈kvs,∃(z:Str) (r:Addr) (xs:List V),q=(.inr z,.ref r)/\H0 r=none/\H r=some (.lst xs)/\C7 H xs (f z)/\f z≠[])/\(∀z,f z≠[]→(Sum.inr z:Key)∈kvs.map (·.1))/\∀q∈kvs,∀q'∈kvs,q.2=q'.2→q.1=q'.1
theorem Ny {kvs:List (Key×V)}{k:Key}{v:V}(nd:(kvs.map (·.1)).Nodup) (h:(k,v)∈kvs):A0 kvs k=some v:=by
 obtain ⟨v2,hv2⟩:=Cz (List.mem_map.mpr ⟨_,h,rfl⟩:k∈kvs.map (·.1))
 have hm2:=B6 hv2
 obtain ⟨i,hi,ei⟩:=List.mem_iff_getElem.mp h
 obtain ⟨j,hj,ej⟩:=List.mem_iff_getElem.mp hm2
 have:=(List.getElem_inj (xs:=kvs.map (·.1)) (i:=i) (j:=j) (h₀:=by simpa using hi) (h₁:=by simpa using hj) nd).mp (by simp [ei,ej])
 subst this
 rw [ei] at ej
 rw [hv2]
 exact congrArg some (congrArg Prod.snd ej).symm
theorem Jg.there {H0 H:Hp}{d:Addr}{f:Str→List Pc}{N:Nat}{kvs:List (Key×V)}{z:Str}{v:V}(h:Jg H0 H d f N) (e:H d=some (.dK kvs)) (hv:A0 kvs (.inr z)=some v) :
  ∃r xs,v=.ref r/\H0 r=none/\H r=some (.lst xs)/\C7 H xs (f z)/\∀(H':Hp) (t:Addr) (p:Pc),H' d=some (.dK kvs)→H' r=some (.lst (xs++[.ref t]))→(∀b ys,b≠r→H b=some (.lst ys)→H' b=some (.lst ys))→Tp H H'→PcA H' (.ref t) p→Jg H0 H' d (Qr f z p) N:=by
 obtain ⟨kvs',e',nd,ln,q1,q2,q3⟩:=h
 rw [e] at e'
 cases e'
 have hm:=B6 hv
 obtain ⟨z',r,xs,eq,h0,er,hw,ne⟩:=q1 _ hm
 cases eq
 refine ⟨r,xs,rfl,h0,er,hw,fun H' t p e1 e2 e3 tp pa=>⟨kvs,e1,nd,ln,fun q hq=>?_,fun x hx=>?_,q3⟩⟩
 ·obtain ⟨x,r',xs',rfl,h0',er',hw',ne'⟩:=q1 q hq
  by_cases ex:x=z
  ·subst ex
   have hv':=Ny nd hq
   rw [hv] at hv'
   cases hv'
   rw [er] at er'
   cases er'
   exact ⟨x,r,_,rfl,h0,e2,by rw [Gn];exact Ag (hw.keep tp) (.cons pa .nil),by rw [Gn];simp⟩
  ·have nrr:r'≠r:=fun zz=>ex (by
    have:=q3 _ hq _ hm (by show V.ref r'=V.ref r;rw [zz])
    exact Sum.inr.inj this)
   exact ⟨x,r',xs',rfl,h0',e3 _ _ nrr er',by rw [Ec ex];exact hw'.keep tp,by rw [Ec ex];exact ne'⟩
 ·by_cases ex:x=z
  ·rw [ex];exact List.mem_map.mpr ⟨_,hm,rfl⟩
  ·rw [Ec ex] at hx
   exact q2 x hx
theorem Jg.new {H0 H:Hp}{d l:Addr}{f:Str→List Pc}{N:Nat}{kvs:List (Key×V)}{z:Str}(h:Jg H0 H d f N) (e:H d=some (.dK kvs)) (hv:A0 kvs (.inr z)=none) (hl:H l=none) (hl0:H0 l=none)
  {H':Hp} {t:Addr} {p:Pc} (e1:H' d=some (.dK (putK kvs (.inr z) (.ref l)))) (e2:H' l=some (.lst [.ref t])) (e3:∀b ys,b≠l→H b=some (.lst ys)→H' b=some (.lst ys)) (tp:Tp H H') (pa:PcA H' (.ref t) p):Jg H0 H' d (Qr f z p) (N+1):=by
 obtain ⟨kvs',e',nd,ln,q1,q2,q3⟩:=h
 rw [e] at e'
 cases e'
 have fs:f z=[]:=by
  cases hf:f z with
  | nil=>rfl
  | cons x r =>
   obtain ⟨v,hv'⟩:=Cz (q2 z (by rw [hf];simp))
   rw [hv] at hv'
   cases hv'
 have nk:(Sum.inr z:Key)∉kvs.map (·.1):=fun hm=>by
  obtain ⟨v,hv'⟩:=Cz hm
  rw [hv] at hv'
  cases hv'
 have refs:∀q∈kvs,q.2≠.ref l:=fun q hq zz=>by
  obtain ⟨x,r,xs,rfl,_,er,_⟩:=q1 q hq
  cases zz
  rw [hl] at er
  cases er
 refine ⟨_,e1,F3 nd,by have:=GZ kvs (Sum.inr z) (.ref l);omega,fun q hq=>?_,fun x hx=>?_,fun q hq q' hq' e4=>?_⟩
 ·rcases Cc hq with rfl|⟨hm,hne⟩
  ·exact ⟨z,l,_,rfl,hl0,e2,by rw [Gn,fs];exact .cons pa .nil,by rw [Gn];simp⟩
  ·obtain ⟨x,r,xs,rfl,h0',er',hw',ne'⟩:=q1 q hm
   have ex:x≠z:=fun zz=>hne (by show (Sum.inr x:Key)=Sum.inr z;rw [zz])
   have nrl:r≠l:=fun zz=>by rw [zz,hl] at er';cases er'
   exact ⟨x,r,xs,rfl,h0',e3 _ _ nrl er',by rw [Ec ex];exact hw'.keep tp,by rw [Ec ex];exact ne'⟩
 ·rw [FV,if_neg nk]
  by_cases ex:x=z
  ·rw [ex];exact List.mem_append_right _ (List.mem_singleton.mpr rfl)
  ·rw [Ec ex] at hx
   exact List.mem_append_left _ (q2 x hx)
 ·rcases Cc hq with rfl|⟨hm,hne⟩
  ·rcases Cc hq' with rfl|⟨hm',hne'⟩
   ·rfl
   ·exact absurd e4.symm (refs q' hm')
  ·rcases Cc hq' with rfl|⟨hm',hne'⟩
   ·exact absurd e4 (refs q hm)
   ·exact q3 q hm q' hm' e4
theorem Jg.same {H0 H H':Hp}{d:Addr}{f:Str→List Pc}{N:Nat}(h:Jg H0 H d f N) (s:AH H H'):Jg H0 H' d f N:=by
 obtain ⟨kvs,e,nd,ln,q1,q2,q3⟩:=h
 refine ⟨kvs,s _ _ e,nd,ln,fun q hq=>?_,q2,q3⟩
 obtain ⟨x,r,xs,e1,h0,er,hw,ne⟩:=q1 q hq
 exact ⟨x,r,xs,e1,h0,s _ _ er,hw.keep s.tp,ne⟩
def Fj (ps:List (Str×Pc)) (z:Str):List Pc:=(ps.filter fun kp=>decide (kp.1=z)).map (·.2)
theorem JJ (ps:List (Str×Pc)) (kp:Str×Pc):Fj (ps++[kp])=Qr (Fj ps) kp.1 kp.2:=by
 funext z
 unfold Fj
 rw [List.filter_append,List.map_append]
 by_cases h:z=kp.1
 ·subst h
  rw [Gn,List.filter_cons,if_pos (decide_eq_true rfl)]
  rfl
 ·rw [Ec h,List.filter_cons,if_neg (fun q=>h (of_decide_eq_true q).symm)]
  simp
theorem Mn {g:Str→List Pc}:∀{ks:List Str},ks.Nodup→(∀z,g z≠[]→z∈ks)→∀z,Fj (AZ g ks) z=g z:=fun {ks} nd h z=>by
 have key:∀ks:List Str,ks.Nodup→Fj (AZ g ks) z=if z∈ks then g z else []:=by
  intro ks
  induction ks with
  | nil=>intro _;rfl
  | cons k ks ih =>
   intro nd
   obtain ⟨n1,n2⟩:=List.nodup_cons.mp nd
   have ih:=ih n2
   unfold Fj AZ at ih ⊢
   rw [List.flatMap_cons,List.filter_append,List.map_append,ih]
   by_cases e:z=k
   ·subst e
    rw [if_neg n1,if_pos List.mem_cons_self,List.append_nil,List.filter_eq_self.mpr (fun a ha=>by obtain ⟨p,_,rfl⟩:=List.mem_map.mp ha;exact decide_eq_true rfl),List.map_map]
    exact List.map_id _
   ·rw [List.filter_eq_nil_iff.mpr (fun a ha=>by obtain ⟨p,_,rfl⟩:=List.mem_map.mp ha;simp;exact fun q=>e q.symm)]
    by_cases hm:z∈ks
    ·rw [if_pos hm,if_pos (List.mem_cons_of_mem _ hm)];rfl
    ·rw [if_neg hm,if_neg (fun q=>by rcases List.mem_cons.mp q with q|q;exact e q;exact hm q)];rfl
 rw [key ks nd]
 split
 ·rfl
 ·next hn =>
  cases hg:g z with
  | nil=>rfl
  | cons a b=>exact absurd (h z (by rw [hg];simp)) hn
theorem RF {ex:List Addr}{H0 H:Hp}{d e:Addr}{gG f:Str→List Pc}{kvs:List (Key×V)}{N:Nat}(r:Cf ex H d gG kvs) (h:Jg H0 H e f N) (s:∀z,Paired ID (f z) (gG z)) {Q:VK}(q:Q (.bl false) H):Sq K (.ref d) (.ref e) H Q:=by
 obtain ⟨kf,e1,nd,ln,q1,q2,q3⟩:=h
 have ne:∀z,f z≠[]↔gG z≠[]:=fun z=>by rw [←List.length_pos_iff,←List.length_pos_iff,(AQ (s z)).1]
 have pm:(kvs.map (·.1)).Perm (kf.map (·.1)):=by
  refine (List.perm_ext_iff_of_nodup r.nd nd).mpr fun k=>⟨fun hk=>?_,fun hk=>?_⟩
  ·obtain ⟨q,hq,rfl⟩:=List.mem_map.mp hk
   obtain ⟨z,r',xs,rfl,_,_,_,n⟩:=r.row q hq
   exact q2 z ((ne z).mpr n)
  ·obtain ⟨q,hq,rfl⟩:=List.mem_map.mp hk
   obtain ⟨z,r',xs,rfl,_,_,_,n⟩:=q1 q hq
   exact r.all z ((ne z).mp n)
 refine ⟨d,e,kvs,kf,rfl,rfl,r.dict,e1,by have:=pm.length_eq;simpa using this,fun p hp=>?_,q⟩
 obtain ⟨z,r',xs,rfl,_,er,hw,n⟩:=r.row p hp
 obtain ⟨v,hv⟩:=Cz (q2 z ((ne z).mpr n))
 obtain ⟨z2,r2,xs2,eq,_,er2,hw2,_⟩:=q1 _ (B6 hv)
 cases eq
 obtain ⟨D,a1,a2,a3,a4⟩:=Po (K:=K) hw2 hw (s z)
 exact ⟨.ref r2,.list D,hv,.lst (SqL.of er) a2,.lst (SqL.of er2) a1,CB a3 a4⟩
def Ar (K:W.Frag) (ex:List Addr) (H:Hp) (hs:List V):Prop:=∀v∈hs,∃(q r r':Addr) (xs:List V),v=.ref q/\H q=some (.tup [.ref r,.ref r'])/\r∉ex/\r'∉ex/\H r=some (.lst xs)/\H r'=some (.lst xs)/\∀H',Tp H H'→∃D,Dvs K H' xs D/\SeqAt.shaped (.list D)=true
theorem Ar.keep {ex:List Addr}{H H':Hp}{hs:List V}(h:Ar K ex H hs) (kl:∀b xs,b∉ex→H b=some (.lst xs)→H' b=some (.lst xs)) (t:Tp H H'):Ar K ex H' hs:=fun v hv=>by
 obtain ⟨q,r,r',xs,e,e1,n1,n2,e2,e3,dd⟩:=h v hv
 exact ⟨q,r,r',xs,e,t _ _ e1,n1,n2,kl _ _ n1 e2,kl _ _ n2 e3,fun H2 t2=>dd H2 (t.trans t2)⟩
theorem Ar.same {ex:List Addr}{H H':Hp}{hs:List V}(h:Ar K ex H hs) (s:AH H H'):Ar K ex H' hs:=h.keep (fun _ _ _ e=>s _ _ e) s.tp
theorem Ar.push {ex:List Addr}{H:Hp}{hs:List V}{q r r':Addr}{xs:List V}(h:Ar K ex H hs) (e1:H q=some (.tup [.ref r,.ref r'])) (n1:r∉ex) (n2:r'∉ex) (e2:H r=some (.lst xs)) (e3:H r'=some (.lst xs)) (dd:∀H',Tp H H'→∃D,Dvs K H' xs D/\SeqAt.shaped (.list D)=true):Ar K ex H (hs++[.ref q]):=fun v hv=>by
 rcases List.mem_append.mp hv with hv|hv
 ·exact h v hv
 ·rw [List.mem_singleton.mp hv]
  exact ⟨q,r,r',xs,rfl,e1,n1,n2,e2,e3,dd⟩
theorem K4 {K:W.Frag}{H:Hp}:∀{xs ys:List V}{D E:List PyData},Dvs K H xs D→Dvs K H ys E→Dvs K H (xs++ys) (D++E)
 | _,_,_,_,.nil,h=>h
 | _,_,_,_,.cons a b,h=>.cons a (K4 b h)
theorem Kv:∀{D E:List PyData},PyData.canLayAll0 D=true→PyData.canLayAll0 E=true→PyData.canLayAll0 (D++E)=true
 | [],E,_,h=>h
 | d::D,E,h1,h2=>by
  simp only [PyData.canLayAll0,List.cons_append,Bool.and_eq_true] at h1 ⊢
  exact ⟨h1.1,Kv h1.2 h2⟩
theorem HM:∀{D E:List PyData}{n:Nat},PyData.depthAll D≤n→PyData.depthAll E≤n→PyData.depthAll (D++E)≤n
 | [],E,n,_,h=>h
 | d::D,E,n,h1,h2=>by
  simp only [PyData.depthAll,List.cons_append] at h1 ⊢
  have:=HM (D:=D) (E:=E) (n:=n) (by omega) h2
  omega
theorem Rt {H:Hp}{xs:List V}{ps:List (Str×Pc)}(h:PkS H xs ps) (hk:∀kp∈ps,PyData.strOk kp.1=true):(∀H',Tp H H'→∃D,Dvs K H' xs D/\SeqAt.shaped (.list D)=true)/\∀H',Tp H H'→∃D,Dvs K H' (xs++[.non]) D/\SeqAt.shaped (.list D)=true:=by
 have key:∀H',Tp H H'→∃D,Dvs K H' xs D/\PyData.canLayAll0 D=true/\PyData.depthAll D≤2:=fun H' t=>by
  have h':PkS H' xs ps:=Au (fun x p ⟨a,q,ts,e,e1,e2,e3⟩=>⟨a,q,ts,e,t _ _ e1,t _ _ e2,e3⟩) h
  obtain ⟨D,a1,_,a3,a4⟩:=JB (K:=K) h' h' (Dd (fun a=>⟨rfl,Mc _⟩) ps) hk
  exact ⟨D,a1,a3,a4⟩
 refine ⟨fun H' t=>?_,fun H' t=>?_⟩
 ·obtain ⟨D,a1,a3,a4⟩:=key H' t
  exact ⟨D,a1,CB a3 a4⟩
 ·obtain ⟨D,a1,a3,a4⟩:=key H' t
  exact ⟨D++[.none],K4 a1 (.cons .non .nil),CB (Kv a3 rfl) (HM a4 (by decide))⟩
def Gx (ad:Ad) (K:W.Frag):Sp:=fun vs H Q _=>∃(H0:Hp) (ex:List Addr) (x p d l h:Addr) (k:Kd) (nm so:Str) (gG gL:Str→List Pc) (kvs:List (Key×V)) (ys hs:List V) (ks:List Str) (way:Int),vs=[.ref x,.ref l,.ref h,.int way]/\BJ ad ex H x p d k nm so gG kvs/\(∀c∈ex,∃o,H c=some o)/\h∈ex/\kvs.length≤100/\(∀z,(gG z).length≤10000) /\
 H l=some (.lst ys)/\DuS H0 H ys (AZ gL ks)/\(AZ gL ks).length≤100000/\Gr gL gG ks/\(∀z∈ks,PyData.strOk z=true)/\H h=some (.lst hs)/\hs.length≤1000/\Ar K ex H hs /\
 ∀H' hs',BW h H H'→H' h=some (.lst hs')→hs'.length≤hs.length+1→Ar K ex H' hs'→Q (.bl true) H'
theorem Lu {H:Hp}{Q:VK}{E:XK}{ex:List Addr}{x p d:Addr}{k:Kd}{nm so:Str}{g:Str→List Pc}{kvs:List (Key×V)}(h0:BJ ad ex H x p d k nm so g kvs) (h1:kvs.length≤100) (h2:(∀k,(g k).length≤10000)) (hk:∀H' r xs ks,AH H H'→H r=none→H' r=some (.lst xs)→PkS H' xs (AZ g ks)→CA ks→ks.Nodup→(∀k,k∈ks↔g k≠[])→Q (.ref r) H'):Ii ad [.ref x] H Q E:=⟨ex,x,p,d,k,nm,so,g,kvs,rfl,h0,h1,h2,hk⟩
seal Ii
theorem Ml (T:Tx K mg ad):A9 P w K mg base CX0 3 ad.Ct ad.DB ["_law_group", "_law_due_here", "_law_held", "_law_way"] (Gx ad K):=by
 have G_Group_pieces:=OL (P:=P) (w:=w) (base:=base) T
 refine T.CW.ok Ik (fun vs H Q E h=>?_) (fun cdv A outer s H vs Q E hr h=>?_)
 ·obtain ⟨H0,ex,x,p,d,l,h,k,nm,so,gG,gL,kvs,ys,hs,ks,way,rfl,_⟩:=h
  rfl
 ·obtain ⟨H0,ex,x,p,d,l,h,kd,nm,so,gG,gL,kvs,ys,hs,ks,way,rfl,gr,hexo,hex,lkv,lgg,el,du,lps,tell,hstr,eh,lhs,held,k⟩:=h
  have nd:=Ik.nd
  refine ⟨_,(AV (FQ (i:=4) (osc:=AM FP) [] nd rfl (Or.inl rfl) rfl (Ai (K:=K) (pv 1)) rfl rfl (by decide +kernel) (by decide +kernel) (by decide +kernel) trivial rfl (by decide +kernel) (fun _ _ _ _=>B9) (fun _ _ _ _=>(A8 (AA (AN (AI (K:=K)) (pv 0) AD (fun _ _=>rfl)) (AA (AN (AI (K:=K)) (pv 0) AD (fun _ _=>rfl)) (AA (AN (AI (K:=K)) (pv 0) AD (fun _ _=>rfl)) (AA (A8 (AA (Ab (BB (K:=K)) (by rfl) T.Er PySem.boot_len (AA (AN (AI (K:=K)) (pv 0) AD (fun _ _=>rfl)) AE)) (AA (Ab (KP (K:=K) rfl) (by rfl) T.Jq PyProof.Rows.boot_sum (AA (AN (AI (K:=K)) (pv 0) AD (fun _ _=>rfl)) AE)) (AA (Ab (HQ (K:=K) rfl) (by rfl) T.Ew PyProof.Rows.boot_min (AA (AN (AI (K:=K)) (pv 0) AD (fun _ _=>rfl)) AE)) (AA (Ab (HR (K:=K) rfl) (by rfl) T.Fg PyProof.Rows.boot_max (AA (AN (AI (K:=K)) (pv 0) AD (fun _ _=>rfl)) AE)) AE))))) AE)))))))
    (AV (AX (i:=5) nd rfl (Or.inl rfl) Lh)
    (AV (Dq PassesOwn.never rfl (Ai (K:=K) (pv 4)) (Mg rfl (C4 (BM (i:=6) nd rfl (Or.inl rfl)) (C4 (BM (i:=7) nd rfl (Or.inl rfl)) (C4 (BM (i:=8) nd rfl (Or.inl rfl)) (C4 (BM (i:=9) nd rfl (Or.inl rfl)) Kp)))))
    (AJ (Bu (Cb (K:=K) F.plainAttrs_list F.slot_list_append F.type_list_append BX (Pk (pv 5) (pv 6) (Ax AE) ⟨rfl,rfl,rfl,rfl⟩) (AA (A8 (AA (pv 7) (AA (pv 8) (AA (pv 9) AE)))) AE)))))
    (Pd (E7 (Be (PW.pt (Iz (Ah C5 (pv 3) AD (Ak _)) (G4 (PW.pt (Pb (Ah C5 (pv 3) AD (Ak _)) (NT (Ah (Pp (K:=K) (BZ.MR hr) hr.Gs) (Dr (pv 0) rfl) (pv 5) (Ak _))))))))
    (AJ (Ae (EU C5 (pv 3) AD (Ak _))))
    A4))
    (AV (AX (i:=10) nd rfl (Or.inl rfl) (Lf (pv 0) T.A1 T.Et G_Group_pieces (hr.mono (by decide)) T.FK .nil As))
    (AV (Be (PW.pt (Iz (ES (DG (Ab (Dj (K:=K)) (by rfl) T.BL PyProof.Rows.boot_isinstance (AA (pv 10) (AA (IJ (v:=.ty "list") (by rfl) T.DE PyProof.Rows.boot_list rfl) AE))))) (Iz (Ah (Mj (K:=K) hr.units) (pv 10) (pv 4) (Ak _)) (G4 (Ah (Pp (K:=K) (BZ.MR hr) hr.Gs) (Dr (pv 0) rfl) (pv 5) (Ak _))))))
    (AJ (Ae Hs))
    A4)
    (AV (Bu (Cb (K:=K) F.plainAttrs_list F.slot_list_append F.type_list_append BX (pv 2) (AA (A8 (AA (pv 10) (AA (D3 (Dt (K:=K)) (by rfl) T.DE PyProof.Rows.boot_list (AA (pv 10) AE)) AE))) AE)))
    (AV (E7 (Be (Ah C5 (AL Ap (Ab (BB (K:=K)) (by rfl) T.Er PySem.boot_len (AA (pv 2) AE)) AD) AD (Ak _))
    (AO (Bu (Cb (K:=K) F.plainAttrs_list F.slot_list_append F.type_list_append BX (pv 10) (AA E8 AE)))
    (AJ (Bu (Cb (K:=K) F.plainAttrs_list F.slot_list_append F.type_list_append BX (AN (AI (K:=K)) (AN (Al (K:=K)) (pv 2) (JD Fp AD) (fun _ _=>rfl)) AD (fun _ _=>rfl)) (AA E8 AE)))))
    A4))
    (AJ (Ae (EU (S0 (K:=K) hr.units) (Lf (pv 0) T.A1 T.Et G_Group_pieces (hr.mono (by decide)) T.FK .nil As) (pv 4) (Ak _)))))))))))),?_⟩
  have sz:sizeLine=16777216:=sizeLine_eq
  have ly:=du.len
  have hstr2:∀kp∈AZ gL ks,PyData.strOk kp.1=true:=fun kp hkp=>by
   obtain ⟨z,hz,hm⟩:=List.mem_flatMap.mp hkp
   obtain ⟨q,_,rfl⟩:=List.mem_map.mp hm
   exact hstr z hz
  have fk:=Mn tell.nd tell.all
  generalize hps:AZ gL ks=ps at *
  refine fun _ _ _ _ z1=>⟨_,rfl,l,rfl,⟨_,SqL.of el⟩,?_⟩
  refine BR (K:=K) (xs:=ys) (fun n τ acc H'=>(∃o,τ=[o])/\AH H H'/\PkS H' acc (ps.take n)) (by omega) ⟨⟨none,rfl⟩,AH.refl _,.nil⟩ (fun n τ acc H' ⟨_,s',_⟩=>SqL.of (s' _ _ el)) ?_ ?_
  ·rintro n y τ acc H1 R1 hy _ ⟨⟨o,rfl⟩,s1,hw1⟩ k1
   obtain ⟨lp,f⟩:=AQ du
   have hn:n<ps.length:=by have:=(List.getElem?_eq_some_iff.mp hy).1;omega
   have ep:=List.getElem?_eq_getElem hn
   obtain ⟨a,l',rfl,ea,_,el',ne⟩:=f n _ _ hy ep
   generalize ps[n]=kp at ep ea el' ne
   have ea1:=s1 _ _ ea
   have er:=s1 _ _ el'
   have hpos:0<kp.2.2.2.length:=List.length_pos_iff.mpr ne
   have ix:∀{j:Nat} {v:V},[V.str kp.1,.int kp.2.1,.int kp.2.2.1,.ref l'][j]?=some v→atI [V.str kp.1,.int kp.2.1,.int kp.2.2.1,.ref l'] (j:Int)=some v:=fun e=>AG e
   refine ⟨_,rfl,a,_,_,_,rfl,rfl,SqT.of ea1,AG (j:=0) rfl,_,rfl,a,_,_,_,rfl,rfl,SqT.of ea1,AG (j:=1) rfl,_,rfl,a,_,_,_,rfl,rfl,SqT.of ea1,AG (j:=2) rfl,_,rfl,a,_,_,_,rfl,rfl,SqT.of ea1,AG (j:=3) rfl,l',_,rfl,.inl (SqL.of er),_,rfl,a,_,_,_,rfl,rfl,SqT.of ea1,AG (j:=3) rfl,l',_,rfl,SqL.of er,_,rfl,a,_,_,_,rfl,rfl,SqT.of ea1,AG (j:=3) rfl,l',_,rfl,SqL.of er,hpos,fun mn hm1 hm2=>⟨_,rfl,a,_,_,_,rfl,rfl,SqT.of ea1,AG (j:=3) rfl,l',_,rfl,SqL.of er,hpos,fun mx hx1 hx2=>⟨Nat.le_of_ble_eq_true rfl,fun q hq=>⟨Nat.le_of_ble_eq_true rfl,fun t ht=>k1 _ _ _ ⟨⟨_,rfl⟩,(s1.upd hq).upd ht,?_⟩⟩⟩⟩⟩
   have t1:=AH.AW (o:=.tup [.int ((kp.2.2.2.map V.int).length:Int),.int kp.2.2.2.sum,.int mn,.int mx]) hq
   have t2:=AH.AW (o:=.tup [.str kp.1,.int kp.2.1,.int kp.2.2.1,.ref q]) ht
   rw [List.take_add_one,ep]
   exact Ag (Au (fun x p ⟨a,q,ts,e,e1,e2,e3⟩=>⟨a,q,ts,e,(t1.trans t2) _ _ e1,(t1.trans t2) _ _ e2,e3⟩) hw1) (.cons ⟨t,q,_,rfl,AB,t2 _ _ AB,mn,mx,by rw [List.length_map],hm1,hm2,hx1,hx2⟩ .nil)
  rintro τ told H1 _ ⟨_,s1,hw1⟩ tl htl
  rw [ly,List.take_of_length_le (Nat.le_refl _)] at hw1
  have s2:=AH.AW (o:=.lst told) htl
  have etl:(upd H1 tl (.lst told)) tl=some (.lst told):=AB
  have pk2:∀{H2:Hp},Tp H1 H2→PkS H2 told ps:=fun t=>Au (fun x p ⟨a,q,ts,e,e1,e2,e3⟩=>⟨a,q,ts,e,t _ _ e1,t _ _ e2,e3⟩) hw1
  generalize upd H1 tl (.lst told)=H2 at s2 etl ⊢
  have ltl:told.length=ps.length:=(AQ hw1).1
  refine z1 _ _ fun _ _ _ _ z2 fd hfd=>z2 _ _ ?_
  have s3:=AH.AW (o:=.dK []) hfd
  have efd:(upd H2 fd (.dK [])) fd=some (.dK []):=AB
  generalize upd H2 fd (.dK [])=H3 at s3 efd ⊢
  have s23:=s2.trans s3
  have s13:=s1.trans s23
  have hw3:=pk2 s23.tp
  refine fun _ _ _ _ z3=>⟨_,rfl,tl,rfl,⟨_,SqL.of (s3 _ _ etl)⟩,B8 (K:=K) (xs:=told) (fun n σ H'=>∃(o6 o7 o8 o9:Option V),σ=[some (.ref x),some (.ref l),some (.ref h),some (.int way),some (.ref tl),some (.ref fd),o6,o7,o8,o9,none]/\AH H2 H'/\Jg H2 H' fd (Fj (ps.take n)) n)
   ⟨none,none,none,none,rfl,s3,[],efd,.nil,Nat.le_refl _,(fun q hq=>by cases hq),(fun z hz=>absurd rfl hz),fun q hq=>by cases hq⟩ (fun n σ H' _ ⟨_,_,_,_,_,s',_⟩=>SqL.of (s' _ _ etl)) ?_ ?_⟩
  ·rintro n y σ H4 hy ⟨o6,o7,o8,o9,rfl,s4,fr⟩
   obtain ⟨lp,f⟩:=AQ hw1
   have hn:n<ps.length:=by have:=(List.getElem?_eq_some_iff.mp hy).1;omega
   have ep:=List.getElem?_eq_getElem hn
   obtain ⟨a,q,ts,rfl,ea,eq,tal⟩:=f n _ _ hy ep
   generalize ps[n]=kp at ep ea tal
   have s24:=s2.trans s4
   have ea4:=s24 _ _ ea
   have eq4:=s24 _ _ eq
   have tk:ps.take (n+1)=ps.take n++[kp]:=by rw [List.take_add_one,ep];rfl
   obtain ⟨kf,ef,ndf,lnf,_⟩:=id fr
   have isd:IsD H4 fd:=.inl ⟨kf,.inl ef⟩
   refine ⟨a,_,rfl,SqT.of ea4,rfl,_,_,rfl,_,_,rfl,_,_,rfl,_,_,rfl,rfl,?_⟩
   refine ⟨_,rfl,fd,rfl,isd,_,rfl,Nat.zero_le _,fun l0 hl0=>?_⟩
   have t5:=AH.AW (o:=.lst []) hl0
   have nf0:fd≠l0:=AK ef hl0
   have ef5:(upd H4 l0 (.lst [])) fd=some (.dK kf):=by rw [AF nf0];exact ef
   have hl00:H2 l0=none:=s4.free hl0
   refine ⟨kf,.inr kp.1,ef5,rfl,by omega,fun v hv=>?_,fun hv=>?_⟩
   ·have fr5:=fr.same t5
    generalize upd H4 l0 (.lst [])=H5 at t5 ef5 fr5 ⊢
    obtain ⟨r,xs,rfl,h0r,er,hwr,stp⟩:=fr5.there ef5 hv
    refine ⟨.inl ⟨rfl,_,SqL.of er⟩,_,rfl,_,rfl,_,rfl,Nat.le_of_ble_eq_true rfl,fun t ht=>?_⟩
    have t6:=AH.AW (o:=.tup [.int kp.2.1,.int kp.2.2.1,.ref q]) ht
    have et:(upd H5 t (.tup [.int kp.2.1,.int kp.2.2.1,.ref q])) t=some (.tup [.int kp.2.1,.int kp.2.2.1,.ref q]):=AB
    generalize upd H5 t (.tup [.int kp.2.1,.int kp.2.2.1,.ref q])=H6 at t6 et ⊢
    have er6:=t6 _ _ er
    have tp7:Tp H6 (upd H6 r (.lst (xs++[.ref t]))):=(Tp.refl H6).upd er6 fun xs=>by intro z;cases z
    have nrf:fd≠r:=fun zz=>by rw [←zz,ef5] at er;cases er
    have lxs:xs.length≤100000:=by
     have h1:=hwr.len
     have h2:(Fj (ps.take n) kp.1).length≤n:=by
      unfold Fj
      rw [List.length_map]
      refine Nat.le_trans (List.length_filter_le _ _) ?_
      rw [List.length_take];omega
     omega
    refine ⟨r,_,_,rfl,rfl,er6,by omega,_,_,_,_,rfl,(s4.trans (t5.trans t6)).Fo h0r,?_⟩
    rw [tk,JJ]
    obtain ⟨kf',a1,a2,a3,a4⟩:=stp (upd H6 r (.lst (xs++[.ref t]))) t kp.2 (by rw [AF nrf];exact t6 _ _ ef5) AB (fun b ys nb e=>by rw [AF nb];exact t6 _ _ e) (t6.tp.trans tp7) ⟨t,q,ts,rfl,tp7 _ _ et,tp7 _ _ ((t5.trans t6) _ _ eq4),tal⟩
    exact ⟨kf',a1,a2,by omega,a4⟩
   ·have ef6:(upd (upd H4 l0 (.lst [])) fd (.dK (putK kf (Sum.inr kp.1) (.ref l0)))) fd=some (.dK (putK kf (Sum.inr kp.1) (.ref l0))):=AB
    have el6:(upd (upd H4 l0 (.lst [])) fd (.dK (putK kf (Sum.inr kp.1) (.ref l0)))) l0=some (.lst []):=by rw [AF nf0.symm];exact AB
    have kl6:∀b ys,H4 b=some (.lst ys)→(upd (upd H4 l0 (.lst [])) fd (.dK (putK kf (Sum.inr kp.1) (.ref l0)))) b=some (.lst ys):=fun b ys e=>by
     rw [AF (fun zz=>by rw [zz,ef] at e;cases e)];exact t5 _ _ e
    have tp6:Tp H4 (upd (upd H4 l0 (.lst [])) fd (.dK (putK kf (Sum.inr kp.1) (.ref l0)))):=t5.tp.trans ((Tp.refl _).upd ef5 fun xs=>by intro z;cases z)
    have S6:AH H2 (upd (upd H4 l0 (.lst [])) fd (.dK (putK kf (Sum.inr kp.1) (.ref l0)))):=(s4.trans t5).Fo hfd
    generalize upd (upd H4 l0 (.lst [])) fd (.dK (putK kf (Sum.inr kp.1) (.ref l0)))=H6 at ef6 el6 kl6 tp6 S6 ⊢
    refine ⟨.inl ⟨rfl,_,SqL.of el6⟩,_,rfl,_,rfl,_,rfl,Nat.le_of_ble_eq_true rfl,fun t ht=>?_⟩
    have t6:=AH.AW (o:=.tup [.int kp.2.1,.int kp.2.2.1,.ref q]) ht
    have et:(upd H6 t (.tup [.int kp.2.1,.int kp.2.2.1,.ref q])) t=some (.tup [.int kp.2.1,.int kp.2.2.1,.ref q]):=AB
    generalize upd H6 t (.tup [.int kp.2.1,.int kp.2.2.1,.ref q])=H7 at t6 et ⊢
    have el7:=t6 _ _ el6
    have tp8:Tp H7 (upd H7 l0 (.lst [.ref t])):=(Tp.refl H7).upd el7 fun xs=>by intro z;cases z
    refine ⟨l0,_,_,rfl,rfl,el7,by simp;omega,_,_,_,_,rfl,(S6.trans t6).Fo hl00,?_⟩
    rw [tk,JJ]
    exact fr.new ef hv hl0 hl00 (by rw [AF nf0];exact t6 _ _ ef6) AB (fun b ys nb e=>by rw [AF nb];exact t6 _ _ (kl6 _ _ e)) ((tp6.trans t6.tp).trans tp8) ⟨t,q,ts,rfl,tp8 _ _ et,tp8 _ _ (t6.tp _ _ (tp6 _ _ eq4)),tal⟩
  ·rintro σ H4 ⟨o6,o7,o8,o9,rfl,s4,fr⟩
   rw [ltl,List.take_of_length_le (Nat.le_refl _),show Fj ps=gL from funext fk] at fr
   have S4:AH H H4:=(s1.trans s2).trans s4
   have gr4:=gr.same S4
   obtain ⟨dx4,eo4⟩:=gr4.obj
   have held4:=held.same S4
   have eh4:=S4 _ _ eh
   have etl4:=s4 _ _ etl
   have hw4:=pk2 (s2.trans s4).tp
   have ne4:∀{H':Hp} {Q:VK},AH H4 H'→Q (.bl false) H'→Sq K (.ref d) (.ref fd) H' Q:=fun s' q=>RF (gr4.same s').rows (fr.same s') tell.same q
   refine z3 _ _ fun _ _ _ _ z5 zr=>IB (fun σ' H'=>σ'=[some (.ref x),some (.ref l),some (.ref h),some (.int way),some (.ref tl),some (.ref fd),o6,o7,o8,o9,none]/\H'=H4) ?_ ?_
   ·refine ⟨_,rfl,rfl,_,rfl,Fl (fun e=>⟨_,rfl,rfl,zr _ _ ?_⟩) fun e0=>⟨_,rfl,rfl,_,rfl,Fl (fun e=>?_) fun e=>?_⟩⟩
    ·rw [show decide (V.int way=V.int 0)=true from decide_eq_true (by rw [e])]
     exact k H4 hs (S4.x _) eh4 (by omega) held4
    ·refine ⟨_,rfl,x,_,dx4,_,_,rfl,eo4,T.A1,T.An,rfl,_,rfl,ne4 (AH.refl _) ⟨_,rfl,D7 ⟨rfl,rfl⟩⟩⟩
    ·exact D7 ⟨rfl,rfl⟩
   ·rintro σ' H' ⟨rfl,rfl⟩
    refine z5 _ _ fun _ _ _ _ z7=>⟨_,rfl,x,dx4,_,rfl,eo4,rfl,Lu gr4 lkv lgg (fun H5 fl fxs js s5 hfl efl hpk5 sj nj mj=>z7 _ _ ?_)⟩
    have S5:=S4.trans s5
    have gr5:=(gr4.grow hfl).same s5
    obtain ⟨dx5,eo5⟩:=gr5.obj
    have same5:=tell.pieces sj nj mj
    rw [hps] at same5
    have hw5:=pk2 ((s2.trans s4).trans s5).tp
    obtain ⟨D,a1,a2,a3,a4⟩:=JB (K:=K) hw5 hpk5 same5 hstr2
    have sh:=CB a3 a4
    have lfx:fxs.length=ps.length:=by rw [(AQ hpk5).1,←(AQ same5).1]
    have hstr3:∀kp∈AZ gG js,PyData.strOk kp.1=true:=fun kp hkp=>by
     obtain ⟨i,hi⟩:=List.mem_iff_getElem?.mp hkp
     obtain ⟨lp,f⟩:=AQ same5
     have hi2:=(List.getElem?_eq_some_iff.mp hi).1
     have e1:=List.getElem?_eq_getElem (show i<ps.length by omega)
     rw [←(f i _ _ e1 hi).1]
     exact hstr2 _ (List.getElem_mem _)
    obtain ⟨hd1,hd2⟩:=Rt (K:=K) hpk5 hstr3
    refine fun _ _ _ _ z8=>⟨_,rfl,_, "list", _,true,rfl,.lst efl,rfl,_,rfl,D7 ⟨_,rfl,_,rfl,JM (.lst (SqL.of efl) a2) (.lst (SqL.of (s5 _ _ etl4)) a1) sh ⟨_,rfl,D7 ⟨_,rfl,x,_,dx5,_,_,rfl,eo5,T.A1,T.An,rfl,_,rfl,ne4 s5 ⟨_,rfl,D7 (z8 _ _ ?_)⟩⟩⟩⟩⟩
    have eh5:=S5 _ _ eh
    refine fun _ _ _ _ z10=>⟨_,rfl,.inl ⟨rfl,_,SqL.of eh5⟩,_,rfl,_,rfl,fl,fxs,rfl,.inl (SqL.of efl),fun c hc=>⟨Nat.le_of_ble_eq_true rfl,fun t ht=>?_⟩⟩
    have s6:=AH.AW (o:=.lst fxs) hc
    have ec6:(upd H5 c (.lst fxs)) c=some (.lst fxs):=AB
    have gr6:=(gr5.grow hc).same s6
    generalize upd H5 c (.lst fxs)=H6 at s6 ec6 gr6 ht ⊢
    have s7:=AH.AW (o:=.tup [.ref fl,.ref c]) ht
    have et7:(upd H6 t (.tup [.ref fl,.ref c])) t=some (.tup [.ref fl,.ref c]):=AB
    have gr7:=gr6.same s7
    generalize upd H6 t (.tup [.ref fl,.ref c])=H7 at s7 et7 gr7 ⊢
    have s57:=s6.trans s7
    have S7:=S5.trans s57
    have eh7:=S7 _ _ eh
    have nhf:h≠fl:=AK (S4 _ _ eh) hfl
    have nhc:h≠c:=AK eh5 hc
    have nfc:fl≠c:=AK efl hc
    have hfl0:H fl=none:=S4.free hfl
    have hc0:H c=none:=S5.free hc
    have nfE:fl∉ex:=fun hm=>by obtain ⟨o',ho'⟩:=hexo fl hm;rw [hfl0] at ho';cases ho'
    have ncE:c∉ex:=fun hm=>by obtain ⟨o',ho'⟩:=hexo c hm;rw [hc0] at ho';cases ho'
    have hs7:Ar K ex H7 (hs++[.ref t]):=(held.same S7).push et7 nfE ncE (s57 _ _ efl) (s7 _ _ ec6) fun H' t'=>hd1 H' (s57.tp.trans t')
    have tp8:Tp H7 (upd H7 h (.lst (hs++[.ref t]))):=(Tp.refl H7).upd eh7 fun xs=>by intro z;cases z
    refine ⟨h,_,_,rfl,rfl,eh7,by omega,z10 _ _ ?_⟩
    have gr8:=gr7.lists (o:=.lst (hs++[.ref t])) eh7 (by simp [hex])
    have sx8:BW h H (upd H7 h (.lst (hs++[.ref t]))):=(S7.x h).upd
    have eh8:(upd H7 h (.lst (hs++[.ref t]))) h=some (.lst (hs++[.ref t])):=AB
    have held8:Ar K ex (upd H7 h (.lst (hs++[.ref t]))) (hs++[.ref t]):=hs7.keep (fun b xs nb e=>by rw [AF (fun zz=>nb (by rw [zz];exact hex))];exact e) tp8
    have kl8:∀{b:Addr} {ys:List V},b≠h→H7 b=some (.lst ys)→(upd H7 h (.lst (hs++[.ref t]))) b=some (.lst ys):=fun nb e=>by rw [AF nb];exact e
    have efl8:=kl8 nhf.symm (s57 _ _ efl)
    have ec8:=kl8 nhc.symm (s7 _ _ ec6)
    have etl8:=kl8 (AK (s1 _ _ eh) htl).symm (s57 _ _ (s5 _ _ etl4))
    have tp18:Tp H1 (upd H7 h (.lst (hs++[.ref t]))):=(((s2.trans s4).trans s5).trans s57).tp.trans tp8
    have et8:=tp8 _ _ et7
    have heldOld:Ar K (fl::c::ex) (upd H7 h (.lst (hs++[.ref t]))) hs:=fun v hv=>by
     obtain ⟨q,r,r',xs,e,e1,n1,n2,e2,e3,dd⟩:=held v hv
     have nz:∀{b:Addr} {ys:List V},H b=some (.lst ys)→b∉ex→b∉fl::c::ex:=fun {b ys} eb nb hm=>by
      simp only [List.mem_cons] at hm
      rcases hm with rfl|rfl|hm
      ·rw [hfl0] at eb;cases eb
      ·rw [hc0] at eb;cases eb
      ·exact nb hm
     exact ⟨q,r,r',xs,e,(S7.tp.trans tp8) _ _ e1,nz e2 n1,nz e3 n2,sx8 _ _ (fun zz=>n1 (by rw [zz];exact hex)) e2,sx8 _ _ (fun zz=>n2 (by rw [zz];exact hex)) e3,fun H' t'=>dd H' ((S7.tp.trans tp8).trans t')⟩
    generalize upd H7 h (.lst (hs++[.ref t]))=H8 at tp8 gr8 sx8 eh8 held8 efl8 ec8 etl8 tp18 et8 heldOld ⊢
    refine fun _ _ _ _ z11=>IB (fun σ' H'=>∃hs',σ'=[some (.ref x),some (.ref l),some (.ref h),some (.int way),some (.ref tl),some (.ref fd),o6,o7,o8,o9,some (.ref fl)]/\BW h H H'/\H' h=some (.lst hs')/\hs'.length≤hs.length+1/\Ar K ex H' hs'/\BJ ad ex H' x p d kd nm so gG kvs/\H' tl=some (.lst told)/\Tp H1 H') ?_ ?_
    ·refine ⟨_,rfl,h,_,rfl,.inl (SqL.of eh8),_,_,rfl,rfl,(by show (0:Int)<5;decide),rfl,_,rfl,Fl (fun e=>?_) fun e=>?_⟩
     ·refine ⟨_,rfl,.inl ⟨rfl,_,SqL.of efl8⟩,fl,_,_,rfl,rfl,efl8,by omega,?_⟩
      have gr9:=gr8.lists (o:=.lst (fxs++[.non])) efl8 (by simp)
      have tp9:Tp H8 (upd H8 fl (.lst (fxs++[.non]))):=(Tp.refl H8).upd efl8 fun xs=>by intro z;cases z
      have eh9:(upd H8 fl (.lst (fxs++[.non]))) h=some (.lst (hs++[.ref t])):=by rw [AF nhf];exact eh8
      have ec9:(upd H8 fl (.lst (fxs++[.non]))) c=some (.lst fxs):=by rw [AF nfc.symm];exact ec8
      have ef9:(upd H8 fl (.lst (fxs++[.non]))) fl=some (.lst (fxs++[.non])):=AB
      have nlf:tl≠fl:=AK etl4 hfl
      have etl9:(upd H8 fl (.lst (fxs++[.non]))) tl=some (.lst told):=by rw [AF nlf];exact etl8
      have sx9:BW h H (upd H8 fl (.lst (fxs++[.non]))):=fun b o nb e=>by rw [AF (fun zz=>by rw [zz,hfl0] at e;cases e)];exact sx8 b o nb e
      have ho9:Ar K (fl::c::ex) (upd H8 fl (.lst (fxs++[.non]))) hs:=heldOld.keep (fun b xs nb e=>by rw [AF (fun zz=>nb (by simp [zz]))];exact e) tp9
      generalize upd H8 fl (.lst (fxs++[.non]))=H9 at gr9 tp9 eh9 ec9 ef9 etl9 sx9 ho9 ⊢
      refine ⟨_,rfl,_,rfl,h,_,_,_,rfl,rfl,SqL.of eh9,EH _ _,t,_,_,_,rfl,rfl,SqT.of (tp9 _ _ et8),AG (j:=1) rfl,.inl ⟨rfl,_,SqL.of ec9⟩,c,_,_,rfl,rfl,ec9,by omega,?_⟩
      have gr10:=gr9.lists (o:=.lst (fxs++[.non])) ec9 (by simp)
      have tp10:Tp H9 (upd H9 c (.lst (fxs++[.non]))):=(Tp.refl H9).upd ec9 fun xs=>by intro z;cases z
      have nlc:tl≠c:=AK (s5 _ _ etl4) hc
      refine ⟨hs++[.ref t],rfl,fun b o nb e=>by rw [AF (fun zz=>by rw [zz,hc0] at e;cases e)];exact sx9 b o nb e,by rw [AF nhc];exact eh9,by simp,?_,gr10.weak.weak,by rw [AF nlc];exact etl9,(tp18.trans tp9).trans tp10⟩
      have ho10:Ar K (fl::c::ex) (upd H9 c (.lst (fxs++[.non]))) hs:=ho9.keep (fun b xs nb e=>by rw [AF (fun zz=>nb (by simp [zz]))];exact e) tp10
      have ho11:Ar K ex (upd H9 c (.lst (fxs++[.non]))) hs:=fun v hv=>by
       obtain ⟨q,r,r',xs,e,e1,n1,n2,e2,e3,dd⟩:=ho10 v hv
       exact ⟨q,r,r',xs,e,e1,fun hm=>n1 (by simp [hm]),fun hm=>n2 (by simp [hm]),e2,e3,dd⟩
      exact ho11.push (tp10 _ _ (tp9 _ _ et8)) nfE ncE (by rw [AF nfc];exact ef9) AB fun H' t'=>hd2 H' ((((s57.tp.trans tp8).trans tp9).trans tp10).trans t')
     ·exact ⟨hs++[.ref t],rfl,sx8,eh8,by simp,held8,gr8.weak.weak,etl8,tp18⟩
    ·rintro σ' H9 ⟨hs',rfl,sx9,eh9,lh9,held9,gr9,etl9,tp9⟩
     obtain ⟨dx9,eo9⟩:=gr9.obj
     refine z11 _ _ ⟨_,rfl,x,dx9,_,rfl,eo9,rfl,Lu gr9 lkv lgg (fun H10 r xs10 js10 s10 hr10 er10 hpk10 sj10 nj10 mj10=>?_)⟩
     have same10:=tell.pieces sj10 nj10 mj10
     rw [hps] at same10
     obtain ⟨D10,b1,b2,b3,b4⟩:=JB (K:=K) (pk2 (tp9.trans s10.tp)) hpk10 same10 hstr2
     exact ⟨_,rfl,Qa (.lst (SqL.of er10) b2) (.lst (SqL.of (s10 _ _ etl9)) b1) (CB b3 b4) (k H10 hs' (sx9.trans (s10.x _)) (s10 _ _ eh9) lh9 (held9.same s10))⟩
theorem Hu {k:Kd}(hk:k.ok) {its:Bq}{now:Int}{ps:List Pc}(h:OpenK k its now ps):ps.Pairwise fun a b=>a.1<b.1:=by
 cases k with
 | each z d =>
  obtain ⟨ws,u,n,l,rfl⟩:=h
  exact List.pairwise_map.mpr (List.Pairwise.imp (fun {a b} q=>q) u)
 | gap m =>
  obtain ⟨A,B,as,bs,p,gA,gB,cA,oB,sp,rfl⟩:=h
  refine List.pairwise_map.mpr (gB.ap.imp_of_mem fun {a b} ha hb q=>?_)
  have:=gB.le a ha
  have hm:0≤m:=hk.1
  show a.1<b.1
  omega
theorem MT {ps:List Pc}(h:ps.Pairwise fun a b=>a.1<b.1) {a b:Pc}(ha:a∈ps) (hb:b∈ps) (e:a.1=b.1):a=b:=by
 obtain ⟨i,hi,rfl⟩:=List.mem_iff_getElem.mp ha
 obtain ⟨j,hj,rfl⟩:=List.mem_iff_getElem.mp hb
 have g:=List.pairwise_iff_getElem.mp h
 rcases Nat.lt_trichotomy i j with q|q|q
 ·have:=g i j hi hj q;omega
 ·subst q;rfl
 ·have:=g j i hj hi q;omega
theorem Lk {now:Option Int}{ps:List Pc}(h:ps.Pairwise fun a b=>a.1<b.1):(B7 now ps).Pairwise fun a b=>a.1<b.1:=by
 cases now with
 | none=>exact h
 | some n=>exact h.sublist List.filter_sublist
theorem PN {A B:List (List Key)}(p:A.Perm B) (sa:(A.map JE).Pairwise (fun a b=>BG b a=false)) (sb:(B.map JE).Pairwise (fun a b=>BG b a=false)) (inj:∀a∈A,∀b∈A,JE a=JE b→a=b):A=B:=by
 have e:=FO (p.map JE) sa sb
 refine List.ext_getElem p.length_eq fun i h1 h2=>?_
 have e1:=congrArg (fun l=>l[i]?) e
 simp only [List.getElem?_map,List.getElem?_eq_getElem h1,List.getElem?_eq_getElem h2] at e1
 exact inj _ (List.getElem_mem h1) _ (p.mem_iff.mpr (List.getElem_mem h2)) (Option.some.inj e1)
theorem QX:∀{ns:List Int},ns≠[]→∃m∈ns,∀a∈ns,m≤a
 | [x],_=>⟨x,by simp,by simp⟩
 | x::y::r,_=>by
  obtain ⟨m,h1,h2⟩:=QX (ns:=y::r) (by simp)
  by_cases h:x≤m
  ·refine ⟨x,List.mem_cons_self,fun a ha=>?_⟩
   rcases List.mem_cons.mp ha with e|ha
   ·omega
   ·have:=h2 a ha;omega
  ·refine ⟨m,List.mem_cons_of_mem _ h1,fun a ha=>?_⟩
   rcases List.mem_cons.mp ha with e|ha
   ·omega
   ·exact h2 a ha
theorem QY:∀{ns:List Int},ns≠[]→∃m∈ns,∀a∈ns,a≤m
 | [x],_=>⟨x,by simp,by simp⟩
 | x::y::r,_=>by
  obtain ⟨m,h1,h2⟩:=QY (ns:=y::r) (by simp)
  by_cases h:m≤x
  ·refine ⟨x,List.mem_cons_self,fun a ha=>?_⟩
   rcases List.mem_cons.mp ha with e|ha
   ·omega
   ·have:=h2 a ha;omega
  ·refine ⟨m,List.mem_cons_of_mem _ h1,fun a ha=>?_⟩
   rcases List.mem_cons.mp ha with e|ha
   ·omega
   ·exact h2 a ha
theorem MM {so:Str}{ns:List Int}(hs:so∈SRT) (hn:ns≠[]):∃v,FN so ns v:=by
 simp only [SRT,List.mem_cons,List.not_mem_nil,or_false] at hs
 rcases hs with h|h|h|h
 ·exact ⟨_,.inl ⟨h,rfl⟩⟩
 ·exact ⟨_,.inr (.inl ⟨h,rfl⟩)⟩
 ·obtain ⟨m,h1,h2⟩:=QX hn
  exact ⟨m,.inr (.inr (.inl ⟨h,h1,h2⟩))⟩
 ·obtain ⟨m,h1,h2⟩:=QY hn
  exact ⟨m,.inr (.inr (.inr ⟨h,h1,h2⟩))⟩
theorem Qn {so:Str}{p q:Pc}(hs:so∈SRT) (n1:p.2.2≠[]) (n2:q.2.2≠[]) (h:ID p q):HX so p.2.2=HX so q.2.2:=by
 obtain ⟨v,hv⟩:=MM hs n1
 exact Qo hv h.2.2 (MM hs n2)
theorem Gr.rows {gL gG:Str→List Pc}{ks js:List Str}{nm so:Str}(t:Gr gL gG ks) (hs:so∈SRT) (n1:∀z,∀p∈gL z,p.2.2≠[]) (n:js.Nodup) (m:∀z,gG z≠[]→z∈js):((AZ gL ks).map (Dy nm so)).Perm ((AZ gG js).map (Dy nm so)):=by
 have e:(ks.filter fun z=>!(gL z).isEmpty).Perm (js.filter fun z=>!(gG z).isEmpty):=by
  refine (List.perm_ext_iff_of_nodup (t.nd.sublist List.filter_sublist) (n.sublist List.filter_sublist)).mpr fun z=>?_
  have q:∀{g:Str→List Pc},(!(g z).isEmpty)=true↔g z≠[]:=fun {g}=>by cases g z <;> simp
  rw [List.mem_filter,List.mem_filter,q,q,t.ne z]
  exact ⟨fun h=>⟨m z h.2,h.2⟩,fun h=>⟨t.all z ((t.ne z).mpr h.2),h.2⟩⟩
 rw [←DA ks,←DA js]
 have pw:=Ex t.same (ks.filter fun z=>!(gL z).isEmpty)
 have e1:(AZ gL (ks.filter fun z=>!(gL z).isEmpty)).map (Dy nm so)=(AZ gG (ks.filter fun z=>!(gL z).isEmpty)).map (Dy nm so):=by
  obtain ⟨lp,f⟩:=AQ pw
  refine List.ext_getElem (by rw [List.length_map,List.length_map,lp]) fun i h1 h2=>?_
  rw [List.length_map] at h1 h2
  rw [List.getElem_map,List.getElem_map]
  have sm:=f i _ _ (List.getElem?_eq_getElem h1) (List.getElem?_eq_getElem h2)
  have hm:=List.getElem_mem h1
  generalize (AZ gL (ks.filter fun z=>!(gL z).isEmpty))[i]=a at sm hm
  generalize (AZ gG (ks.filter fun z=>!(gL z).isEmpty))[i]=b at sm
  obtain ⟨z,_,hz⟩:=List.mem_flatMap.mp hm
  obtain ⟨p,hp,rfl⟩:=List.mem_map.mp hz
  have np:=n1 z p hp
  have nb:b.2.2.2≠[]:=fun e=>by
   have:=sm.2.2.2.length_eq
   rw [e] at this
   exact np (List.length_eq_zero_iff.mp this)
  unfold Dy N7
  rw [←sm.1,←sm.2.1,←sm.2.2.1,←Qn hs np nb sm.2]
 rw [e1]
 exact (List.Perm.flatMap_right _ e).map _
theorem RH {gG:Str→List Pc}{js:List Str}{nm so:Str}(h:∀z,(gG z).Pairwise fun a b=>a.1<b.1):∀a∈(AZ gG js).map (Dy nm so),∀b∈(AZ gG js).map (Dy nm so),JE a=JE b→a=b:=by
 intro a ha b hb e
 obtain ⟨x,hx,rfl⟩:=List.mem_map.mp ha
 obtain ⟨y,hy,rfl⟩:=List.mem_map.mp hb
 obtain ⟨z,_,hz⟩:=List.mem_flatMap.mp hx
 obtain ⟨p,hp,rfl⟩:=List.mem_map.mp hz
 obtain ⟨z',_,hz'⟩:=List.mem_flatMap.mp hy
 obtain ⟨p',hp',rfl⟩:=List.mem_map.mp hz'
 have e:[(Sum.inl p.2.1:Key),Sum.inr z,Sum.inl p.1]=[Sum.inl p'.2.1,Sum.inr z',Sum.inl p'.1]:=e
 have e1:=(List.cons.inj (List.cons.inj e).2).1
 have e2:=(List.cons.inj (List.cons.inj (List.cons.inj e).2).2).1
 cases Sum.inr.inj e1
 rw [MT (h z) hp hp' (Sum.inl.inj e2)]
theorem Rr {H:Hp}{xs:List V}{kss:List (List Key)}(h:Rws H xs kss) (hk:∀ks∈kss,My ks=true):(∀H',Tp H H'→∃D,Dvs K H' xs D/\SeqAt.shaped (.list D)=true)/\∀H',Tp H H'→∃D,Dvs K H' (xs++[.non]) D/\SeqAt.shaped (.list D)=true:=by
 obtain ⟨a,b⟩:=JQ kss hk
 refine ⟨fun H' t=>⟨_,(h.keep t).dvs,CB a (by omega)⟩,fun H' t=>⟨_,K4 (h.keep t).dvs (.cons .non .nil),CB (Kv a rfl) (HM (by omega) (by decide))⟩⟩
theorem Mh {now:Option Int}{ps:List Pc}:B7 now (Az now ps)=[]:=by
 cases now with
 | none=>rfl
 | some n =>
  show (List.filter _ (List.filter _ ps))=[]
  rw [List.filter_filter]
  exact List.filter_eq_nil_iff.mpr fun p _ q=>by
   simp only [Bool.and_eq_true,decide_eq_true_eq] at q
   omega
theorem LQ {now:Option Int}{ps:List Pc}:Az now (Az now ps)=Az now ps:=by
 cases now with
 | none=>rfl
 | some n =>
  show (List.filter _ (List.filter _ ps))=List.filter _ ps
  rw [List.filter_filter]
  exact List.filter_congr fun p _=>by simp
def Gy (ad:Ad) (K:W.Frag):Sp:=fun vs H Q _=>∃(H0:Hp) (ex:List Addr) (x p d l h:Addr) (k:Kd) (nm so:Str) (gG gO:Str→List Pc) (kvs:List (Key×V)) (ys hs:List V) (ks:List Str) (now:Option Int) (way:Int),vs=[.ref x,.ref p,.ref l,Ln now,.ref h,.int way]/\BJ ad ex H x p d k nm so gG kvs/\(∀c∈ex,∃o,H c=some o)/\h∈ex/\so∈SRT/\kvs.length≤100/\(∀z,(gG z).length≤10000)/\(∀z,(gG z).Pairwise fun a b=>a.1<b.1) /\
 H l=some (.lst ys)/\DuS H0 H ys (AZ gO ks)/\(AZ gO ks).length≤100000/\Gr gO (fun z=>B7 now (gG z)) ks/\PyData.strOk nm=true/\(∀z∈ks,PyData.strOk z=true)/\H h=some (.lst hs)/\hs.length≤1000/\Ar K ex H hs /\
 ∀H' hs' kvs',(∀b o,b≠h→b≠d→H b=some o→H' b=some o)→H' h=some (.lst hs')→hs'.length≤hs.length+1→Ar K ex H' hs'→BJ ad ex H' x p d k nm so (fun z=>Az now (gG z)) kvs'→kvs'.length≤kvs.length→Q (.bl true) H'
theorem Nc {H:Hp}{Q:VK}{E:XK}{ex:List Addr}{x p d:Addr}{k:Kd}{nm so:Str}{g:Str→List Pc}{kvs:List (Key×V)}{now:Option Int}(h0:BJ ad ex H x p d k nm so g kvs) (h1:(∀c∈ex,∃o,H c=some o)) (h2:so∈SRT) (h3:kvs.length≤100) (h4:(∀k,(g k).length≤10000)) (hk:∀H' r xs kss kvs' ks,BW d H H'→BJ ad (r::ex) H' x p d k nm so (fun key=>Az now (g key)) kvs'→H r=none→H' r=some (.lst xs)→Rws H' xs kss→kss.Perm ((AZ (fun key=>B7 now (g key)) ks).map (Dy nm so))→(kss.map JE).Pairwise (fun a b=>BG b a=false)→ks.Nodup→(∀k,k∈ks↔g k≠[])→kvs'.length≤kvs.length→Q (.ref r) H'):Kg ad [.ref x,Ln now] H Q E:=⟨ex,x,p,d,k,nm,so,g,kvs,now,rfl,h0,h1,h2,h3,h4,hk⟩
seal Kg
theorem Mm (T:Tx K mg ad):A9 P w K mg base CX0 5 ad.Cu ad.DC ["_law_group", "_law_step", "_law_over", "_law_now", "_law_held", "_law_way"] (Gy ad K):=by
 have G_Group_close:=P2 (P:=P) (w:=w) (base:=base) T
 have G_urows:=Pz (P:=P) (w:=w) (base:=base) T
 refine T.Bx.ok Il (fun vs H Q E h=>?_) (fun cdv A outer s H vs Q E hr h=>?_)
 ·obtain ⟨H0,ex,x,p,d,l,h,k,nm,so,gG,gO,kvs,ys,hs,ks,now,way,rfl,_⟩:=h
  rfl
 ·obtain ⟨H0,ex,x,p,d,l,h,kd,nm,so,gG,gO,kvs,ys,hs,ks,now,way,rfl,gr,hexo,hex,hso,lkv,lgg,hst,el,du,lps,tell,snm,hstr,eh,lhs,held,k⟩:=h
  have nd:=Il.nd
  refine ⟨_,(AV (AX (i:=6) nd rfl (Or.inl rfl) (II (pv 0) T.A1 T.FF G_Group_close (hr.mono (by decide)) T.Fn .nil As (AA (pv 3) AE)))
    (AV (Be (PW.pt (Iz (ES (DG (Ab (Dj (K:=K)) (by rfl) T.BL PyProof.Rows.boot_isinstance (AA (pv 6) (AA (IJ (v:=.ty "list") (by rfl) T.DE PyProof.Rows.boot_list rfl) AE))))) (G4 (Ah (Mj (K:=K) hr.units) (pv 6) (Af G_urows (hr.mono (by decide)) (by rfl) T.Rh T.Em.kp T.R6 .nil As (AA (pv 1) (AA (pv 2) AE))) (Ak _)))))
    (AJ (Ae Hs))
    A4)
    (AV (Dq PassesOwn.never rfl (Ai (K:=K) (pv 6)) (BM (i:=7) nd rfl (Or.inl rfl))
    (AJ (Be (PW.pt (Iz (ES (DG (Ab (Dj (K:=K)) (by rfl) T.BL PyProof.Rows.boot_isinstance (AA (pv 7) (AA (IJ (v:=.ty "tuple") (by rfl) T.GC PyProof.Rows.boot_tuple rfl) AE))))) (G4 (DG (Ab (Dj (K:=K)) (by rfl) T.BL PyProof.Rows.boot_isinstance (AA (AN (AI (K:=K)) (pv 7) AD (fun _ _=>rfl)) (AA (IJ (v:=.ty "bool") (by rfl) T.IU PyProof.Rows.boot_bool rfl) AE)))))))
    (AJ (Ae Hs))
    A4)))
    (AV (Bu (Cb (K:=K) F.plainAttrs_list F.slot_list_append F.type_list_append BX (pv 4) (AA (A8 (AA (pv 6) (AA (D3 (Dt (K:=K)) (by rfl) T.DE PyProof.Rows.boot_list (AA (pv 6) AE)) AE))) AE)))
    (AV (E7 (Be (Ah C5 (AL Ap (AL Aq (pv 5) AD) AD) AD (Ak _))
    (AO (Bu (Cb (K:=K) F.plainAttrs_list F.slot_list_append F.type_list_append BX (pv 6) (AA E8 AE)))
    (AJ (Bu (Cb (K:=K) F.plainAttrs_list F.slot_list_append F.type_list_append BX (AN (AI (K:=K)) (AN (Al (K:=K)) (pv 4) (JD Fp AD) (fun _ _=>rfl)) AD (fun _ _=>rfl)) (AA E8 AE)))))
    A4))
    (AJ (Ae (UK (EU C5 (AL Ap (pv 5) AD) AD (Ak _)) (Ph (EU (JG (K:=K) hr.Gs) (II (pv 0) T.A1 T.FF G_Group_close (hr.mono (by decide)) T.Fn .nil As (AA (pv 3) AE)) (Ax AE) (Ak _))))))))))),?_⟩
  have sz:sizeLine=16777216:=sizeLine_eq
  obtain ⟨dx,eo⟩:=gr.obj
  refine fun _ _ _ _ z1=>⟨_,rfl,x,dx,_,rfl,eo,rfl,_,rfl,Nc gr hexo hso lkv lgg (fun H5 fl fxs kss kvs5 js sx5 gr5 hfl efl rw5 pk5 sk5 nj mj lk5=>z1 _ _ ?_)⟩
  obtain ⟨dx5,eo5⟩:=gr5.obj
  have edd:=gr.rows.dict
  have tp5:Tp H H5:=sx5.tp edd fun xs=>by intro z;cases z
  have kl5:∀{b:Addr} {zs:List V},H b=some (.lst zs)→H5 b=some (.lst zs):=fun {b zs} e=>sx5 _ _ (fun zz=>by rw [zz,edd] at e;cases e) e
  have du5:DuS H0 H5 ys (AZ gO ks):=Au (fun x p ⟨a,l,e,e1,e0,e2,e3⟩=>⟨a,l,e,tp5 _ _ e1,e0,kl5 e2,e3⟩) du
  have n1:∀z,∀q∈gO z,q.2.2≠[]:=fun z q hq=>by
   have hz:=tell.all z (List.ne_nil_of_mem hq)
   have hm:(z,q)∈AZ gO ks:=List.mem_flatMap.mpr ⟨z,hz,List.mem_map.mpr ⟨q,hq,rfl⟩⟩
   obtain ⟨i,hi⟩:=List.mem_iff_getElem?.mp hm
   obtain ⟨lp,f⟩:=AQ du
   have hi2:=(List.getElem?_eq_some_iff.mp hi).1
   have e1:=List.getElem?_eq_getElem (show i<ys.length by omega)
   obtain ⟨_,_,_,_,_,_,ne⟩:=f i _ _ e1 hi
   exact ne
  have rowOk:∀row∈(AZ gO ks).map (Dy nm so),My row=true:=fun row hrow=>by
   obtain ⟨kp,hkp,rfl⟩:=List.mem_map.mp hrow
   obtain ⟨z,hz,hm⟩:=List.mem_flatMap.mp hkp
   obtain ⟨q,_,rfl⟩:=List.mem_map.mp hm
   show (kOk (Sum.inr nm)&&(kOk (Sum.inr z)&&(kOk (Sum.inl q.1)&&(kOk (Sum.inl q.2.1)&&(kOk (Sum.inl (HX so q.2.2))&&true)))))=true
   have h1:kOk (Sum.inr nm)=true:=snm
   have h2:kOk (Sum.inr z)=true:=hstr z hz
   rw [h1,h2]
   rfl
  refine fun _ _ _ _ z2=>⟨_,rfl,_, "list", _,true,rfl,.lst efl,rfl,_,rfl,D7 ⟨_,rfl,_,rfl,_,rfl,H0,p,l,kd,nm,so,ys,AZ gO ks,rfl,gr5.step,hso,kl5 el,du5,lps,fun H6 r6 xs6 kss6 s6 hr6 er6 rw6 pk6 sk6=>?_⟩⟩
  have pkk:kss6.Perm ((AZ (fun z=>B7 now (gG z)) js).map (Dy nm so)):=pk6.trans (tell.rows hso n1 nj fun z hz=>(mj z).mpr fun e=>hz (by show B7 now (gG z)=[];rw [e];cases now <;> rfl))
  have ekk:kss6=kss:=PN (pkk.trans pk5.symm) sk6 sk5 fun a ha b hb=>RH (fun z=>Lk (hst z)) a (pkk.mem_iff.mp ha) b (pkk.mem_iff.mp hb)
  subst ekk
  have kok6:∀ks'∈kss6,My ks'=true:=fun ks' hk=>rowOk _ (pk6.mem_iff.mp hk)
  have rw56:=rw5.keep s6.tp
  have efl6:=s6 _ _ efl
  refine JM (rw56.dv efl6) (rw6.dv er6) (LS kok6) ⟨_,rfl,D7 (z2 _ _ ?_)⟩
  have lfx:fxs.length≤100000:=by rw [rw5.len,pk6.length_eq,List.length_map];exact lps
  obtain ⟨hd1,hd2⟩:=Rr (K:=K) rw56 kok6
  refine fun _ _ _ _ z4=>⟨_,rfl,fl,rfl,⟨_,SqL.of efl6⟩,B8 (K:=K) (xs:=fxs) (fun n σ H'=>(∃o,σ=[some (.ref x),some (.ref p),some (.ref l),some (Ln now),some (.ref h),some (.int way),some (.ref fl),o])/\H'=H6) ⟨⟨none,rfl⟩,rfl⟩ (fun n σ H' _ ⟨_,e⟩=>by rw [e];exact SqL.of efl6) ?_ ?_⟩
  ·rintro n y σ H' hy ⟨⟨o,rfl⟩,rfl⟩
   obtain ⟨b,row,rfl,ek,eb⟩:=rw56.at hy
   obtain ⟨kp,_,rfl⟩:=List.mem_map.mp (pk6.mem_iff.mp (List.mem_of_getElem? ek))
   have eb:H' b=some (.tup [.str nm,.str kp.1,.int kp.2.1,.int kp.2.2.1,.int (HX so kp.2.2.2)]):=eb
   exact ⟨_,rfl,_, "tuple", _,true,rfl,.tup eb,rfl,_,rfl,D7 ⟨_,rfl,b,_,_,_,rfl,rfl,SqT.of eb,AG (j:=4) rfl,_, "bool", _,false,rfl,.int _,rfl,_,rfl,D7 ⟨⟨_,rfl⟩,rfl⟩⟩⟩
  rintro σ H' ⟨⟨o,rfl⟩,rfl⟩
  have kl6:∀{b:Addr} {zs:List V},H b=some (.lst zs)→H' b=some (.lst zs):=fun e=>s6 _ _ (kl5 e)
  have F6:∀b o,b≠h→b≠d→H b=some o→H' b=some o:=fun b o _ nb e=>s6 _ _ (sx5 b o nb e)
  have tp6:Tp H H':=tp5.trans s6.tp
  have gr6:=gr5.same s6
  have eh6:=kl6 eh
  have held6:Ar K ex H' hs:=held.keep (fun b xs _ e=>kl6 e) tp6
  refine z4 _ _ fun _ _ _ _ z7=>⟨_,rfl,.inl ⟨rfl,_,SqL.of eh6⟩,_,rfl,_,rfl,fl,fxs,rfl,.inl (SqL.of efl6),fun c hc=>⟨Nat.le_of_ble_eq_true rfl,fun t ht=>?_⟩⟩
  have hc0:H c=none:=by
   cases hq:H c with
   | none=>rfl
   | some o' =>
    by_cases ecd:c=d
    ·have:=gr6.rows.dict
     rw [←ecd,hc] at this
     cases this
    ·have:=s6 _ _ (sx5 _ _ ecd hq)
     rw [hc] at this
     cases this
  have s7:=AH.AW (o:=.lst fxs) hc
  have ec7:(upd H' c (.lst fxs)) c=some (.lst fxs):=AB
  have gr7:=(gr6.grow hc).same s7
  generalize upd H' c (.lst fxs)=H7 at s7 ec7 gr7 ht ⊢
  have s8:=AH.AW (o:=.tup [.ref fl,.ref c]) ht
  have et8:(upd H7 t (.tup [.ref fl,.ref c])) t=some (.tup [.ref fl,.ref c]):=AB
  have gr8:=gr7.same s8
  generalize upd H7 t (.tup [.ref fl,.ref c])=H8 at s8 et8 gr8 ⊢
  have s68:=s7.trans s8
  have eh8:=s68 _ _ eh6
  have nhf:h≠fl:=AK eh hfl
  have nhc:h≠c:=AK eh6 hc
  have nfc:fl≠c:=AK efl6 hc
  have nfE:fl∉ex:=fun hm=>by obtain ⟨o',ho'⟩:=hexo fl hm;rw [hfl] at ho';cases ho'
  have ncE:c∉ex:=fun hm=>by obtain ⟨o',ho'⟩:=hexo c hm;rw [hc0] at ho';cases ho'
  have tp9:Tp H8 (upd H8 h (.lst (hs++[.ref t]))):=(Tp.refl H8).upd eh8 fun xs=>by intro z;cases z
  refine ⟨h,_,_,rfl,rfl,eh8,by omega,z7 _ _ ?_⟩
  have gr9:=gr8.lists (o:=.lst (hs++[.ref t])) eh8 (by simp [hex])
  have F9:∀b o,b≠h→b≠d→H b=some o→(upd H8 h (.lst (hs++[.ref t]))) b=some o:=fun b o nb nd e=>by rw [AF nb];exact s68 _ _ (F6 b o nb nd e)
  have eh9:(upd H8 h (.lst (hs++[.ref t]))) h=some (.lst (hs++[.ref t])):=AB
  have kl9:∀{b:Addr} {ys:List V},b≠h→H8 b=some (.lst ys)→(upd H8 h (.lst (hs++[.ref t]))) b=some (.lst ys):=fun nb e=>by rw [AF nb];exact e
  have efl9:=kl9 nhf.symm (s68 _ _ efl6)
  have ec9:=kl9 nhc.symm (s8 _ _ ec7)
  have et9:=tp9 _ _ et8
  have tp69:Tp H' (upd H8 h (.lst (hs++[.ref t]))):=s68.tp.trans tp9
  have heldOld:Ar K (fl::c::ex) (upd H8 h (.lst (hs++[.ref t]))) hs:=fun v hv=>by
   obtain ⟨q,r,r',xs,e,e1,n1,n2,e2,e3,dd⟩:=held v hv
   have nz:∀{b:Addr} {ys:List V},H b=some (.lst ys)→b∉ex→b∉fl::c::ex:=fun {b ys} eb nb hm=>by
    simp only [List.mem_cons] at hm
    rcases hm with rfl|rfl|hm
    ·rw [hfl] at eb;cases eb
    ·rw [hc0] at eb;cases eb
    ·exact nb hm
   exact ⟨q,r,r',xs,e,(tp6.trans tp69) _ _ e1,nz e2 n1,nz e3 n2,kl9 (fun zz=>n1 (by rw [zz];exact hex)) (s68 _ _ (kl6 e2)),kl9 (fun zz=>n2 (by rw [zz];exact hex)) (s68 _ _ (kl6 e3)),fun H'' t'=>dd H'' ((tp6.trans tp69).trans t')⟩
  have weakH:∀{H1:Hp},Ar K (fl::c::ex) H1 hs→Ar K ex H1 hs:=fun {H1} hh v hv=>by
   obtain ⟨q,r,r',xs,e,e1,n1,n2,e2,e3,dd⟩:=hh v hv
   exact ⟨q,r,r',xs,e,e1,fun hm=>n1 (by simp [hm]),fun hm=>n2 (by simp [hm]),e2,e3,dd⟩
  generalize upd H8 h (.lst (hs++[.ref t]))=H9 at tp9 gr9 F9 eh9 efl9 ec9 et9 tp69 heldOld ⊢
  refine fun _ _ _ _ z8=>IB (fun σ' H1=>∃hs',σ'=[some (.ref x),some (.ref p),some (.ref l),some (Ln now),some (.ref h),some (.int way),some (.ref fl),o]/\(∀b o,b≠h→b≠d→H b=some o→H1 b=some o)/\H1 h=some (.lst hs')/\hs'.length≤hs.length+1/\Ar K ex H1 hs'/\BJ ad ex H1 x p d kd nm so (fun z=>Az now (gG z)) kvs5) ?_ ?_
  ·refine ⟨_,rfl,_,_,rfl,rfl,⟨by decide,by decide⟩,_,_,rfl,rfl,(by show (0:Int)<3;decide),rfl,_,rfl,Fl (fun e=>?_) fun e=>?_⟩
   ·refine ⟨_,rfl,.inl ⟨rfl,_,SqL.of efl9⟩,fl,_,_,rfl,rfl,efl9,by omega,?_⟩
    have gr10:=gr9.lists (o:=.lst (fxs++[.non])) efl9 (by simp)
    have tp10:Tp H9 (upd H9 fl (.lst (fxs++[.non]))):=(Tp.refl H9).upd efl9 fun xs=>by intro z;cases z
    have eh10:(upd H9 fl (.lst (fxs++[.non]))) h=some (.lst (hs++[.ref t])):=by rw [AF nhf];exact eh9
    have ec10:(upd H9 fl (.lst (fxs++[.non]))) c=some (.lst fxs):=by rw [AF nfc.symm];exact ec9
    have ef10:(upd H9 fl (.lst (fxs++[.non]))) fl=some (.lst (fxs++[.non])):=AB
    have F10:∀b o,b≠h→b≠d→H b=some o→(upd H9 fl (.lst (fxs++[.non]))) b=some o:=fun b o nb nd e=>by rw [AF (fun zz=>by rw [zz,hfl] at e;cases e)];exact F9 b o nb nd e
    have ho10:Ar K (fl::c::ex) (upd H9 fl (.lst (fxs++[.non]))) hs:=heldOld.keep (fun b xs nb e=>by rw [AF (fun zz=>nb (by simp [zz]))];exact e) tp10
    generalize upd H9 fl (.lst (fxs++[.non]))=H10 at gr10 tp10 eh10 ec10 ef10 F10 ho10 ⊢
    refine ⟨_,rfl,_,rfl,h,_,_,_,rfl,rfl,SqL.of eh10,EH _ _,t,_,_,_,rfl,rfl,SqT.of (tp10 _ _ et9),AG (j:=1) rfl,.inl ⟨rfl,_,SqL.of ec10⟩,c,_,_,rfl,rfl,ec10,by omega,?_⟩
    have gr11:=gr10.lists (o:=.lst (fxs++[.non])) ec10 (by simp)
    have tp11:Tp H10 (upd H10 c (.lst (fxs++[.non]))):=(Tp.refl H10).upd ec10 fun xs=>by intro z;cases z
    refine ⟨hs++[.ref t],rfl,fun b o nb nd e=>by rw [AF (fun zz=>by rw [zz,hc0] at e;cases e)];exact F10 b o nb nd e,by rw [AF nhc];exact eh10,by simp,?_,gr11.weak.weak⟩
    have ho11:=weakH (ho10.keep (H':=upd H10 c (.lst (fxs++[.non]))) (fun b xs nb e=>by rw [AF (fun zz=>nb (by simp [zz]))];exact e) tp11)
    exact ho11.push (tp11 _ _ (tp10 _ _ et9)) nfE ncE (by rw [AF nfc];exact ef10) AB fun H'' t'=>hd2 H'' (((tp69.trans tp10).trans tp11).trans t')
   ·exact ⟨hs++[.ref t],rfl,F9,eh9,by simp,(weakH heldOld).push et9 nfE ncE efl9 ec9 fun H'' t'=>hd1 H'' (tp69.trans t'),gr9.weak.weak⟩
  ·rintro σ' H10 ⟨hs',rfl,F10,eh10,lh10,held10,gr10⟩
   refine z8 _ _ ⟨_,rfl,_,_,rfl,rfl,(by show (0:Int)<2;decide),rfl,_,rfl,Fl (fun e=>?_) fun e=>?_⟩
   ·exact k H10 hs' kvs5 F10 eh10 lh10 held10 gr10 lk5
   ·obtain ⟨dx10,eo10⟩:=gr10.obj
    have hexo10:∀c∈ex,∃o,H10 c=some o:=fun c hc=>by
     by_cases e1:c=h
     ·exact ⟨_,by rw [e1];exact eh10⟩
     ·by_cases e2:c=d
      ·exact ⟨_,by rw [e2];exact gr10.rows.dict⟩
      ·obtain ⟨o',ho'⟩:=hexo c hc
       exact ⟨o',F10 c o' e1 e2 ho'⟩
    have stl:∀z,(Az now (gG z)).length≤10000:=fun z=>by
     cases now with
     | none=>exact Nat.zero_le _
     | some n=>exact Nat.le_trans (List.length_filter_le _ _) (lgg z)
    refine ⟨_,rfl,x,dx10,_,rfl,eo10,rfl,_,rfl,Nc gr10 hexo10 hso (by omega) stl (fun H11 r xs11 kss11 kvs11 js11 sx11 gr11 hr11 er11 rw11 pk11 sk11 nj11 mj11 lk11=>?_)⟩
    have e0:AZ (fun z=>B7 now (Az now (gG z))) js11=[]:=by
     unfold AZ
     rw [List.flatMap_eq_nil_iff]
     intro z _
     show List.map _ (B7 now (Az now (gG z)))=[]
     rw [Mh]
     rfl
    rw [e0] at pk11
    have ek:kss11=[]:=pk11.eq_nil
    subst ek
    have ex11:xs11=[]:=by have:=rw11.len;exact List.length_eq_zero_iff.mp this
    subst ex11
    refine ⟨Nat.zero_le _,fun e1 he1=>⟨r,e1,[],rfl,rfl,SqL.of ((AH.AW he1) _ _ er11),SqL.of AB,?_⟩⟩
    have s12:=AH.AW (o:=.lst []) he1
    have edd10:=gr10.rows.dict
    have tp11:Tp H10 H11:=sx11.tp edd10 fun xs=>by intro z;cases z
    have kl11:∀{b:Addr} {zs:List V},H10 b=some (.lst zs)→H11 b=some (.lst zs):=fun {b zs} e=>sx11 _ _ (fun zz=>by rw [zz,edd10] at e;cases e) e
    refine k _ hs' kvs11 (fun b o nb nd e=>s12 _ _ (sx11 _ _ nd (F10 b o nb nd e))) (s12 _ _ (kl11 eh10)) lh10 ((held10.keep (fun b xs _ e=>kl11 e) tp11).same s12) ?_ (by omega)
    have g12:=(gr11.weak).same s12
    rw [show (fun z=>Az now (Az now (gG z)))=fun z=>Az now (gG z) from funext fun z=>LQ] at g12
    exact g12
namespace Nm4
def AS (z:Str):Prop:=∀c∈z.cps.toList,c<128
theorem FU (z:Str):z.length=z.cps.toList.length:=by simp [Str.length]
theorem Nq (a b:Str):(a++b).cps.toList=a.cps.toList++b.cps.toList:=by
 show (a.cps++b.cps).toList=_
 simp
theorem AS.ok {z:Str}(h:AS z):PyData.strOk z=true:=by
 unfold PyData.strOk
 rw [←Array.all_toList,List.all_eq_true]
 intro c hc
 have:=h c hc
 simp
 omega
theorem AS.app {a b:Str}(ha:AS a) (hb:AS b):AS (a++b):=fun c hc=>by
 rw [Nq] at hc
 rcases List.mem_append.mp hc with h|h
 ·exact ha c h
 ·exact hb c h
theorem KN {x:Str}{j k:Int}(h0:0≤j) (h1:j≤k) (h2:k≤(x.length:Int)) (hx:AS x):AS (Txt.slice x none (some j))/\AS (Txt.slice x (some k) none)/\((Txt.slice x none (some j)).length:Int)=j/\((Txt.slice x (some k) none).length:Int)=x.length-k:=by
 have e1:Txt.slice x none (some j)=StrLaws.sliceText x none (some j):=rfl
 have e2:Txt.slice x (some k) none=StrLaws.sliceText x (some k) none:=rfl
 have hl:=FU x
 rw [e1,e2,StrLaws.sliceText_to ⟨h0,by omega⟩,StrLaws.sliceText_from ⟨by omega,by omega⟩]
 refine ⟨fun c hc=>hx c (List.mem_of_mem_drop (List.mem_of_mem_take hc)),fun c hc=>hx c (List.mem_of_mem_drop (List.mem_of_mem_take hc)),?_,?_⟩
 ·rw [FU]
  show (((List.take _ (List.drop 0 _)).length:Nat):Int)=_
  rw [List.length_take,List.length_drop]
  omega
 ·rw [FU]
  show (((List.take _ (List.drop _ _)).length:Nat):Int)=_
  rw [List.length_take,List.length_drop]
  omega
end Nm4
def Q6:Sp:=fun vs H Q _=>∃a b:Int,vs=[.int a,.int b]/\∀(H':Hp) (p:Addr) (k:Kd) (nm so:Str),AH H H'→H p=none→Dl H' p k nm so→k.ok→so∈SRT→PyData.strOk nm=true→Q (.ref p) H'
theorem Py (T:Tx K mg ad):A9 P w K mg base CX0 1 ad.CD ad.Cn ["_law_first", "_law_second"] Q6:=by
 refine T.CN.ok Hl (fun vs H Q E h=>?_) (fun cdv A outer s H vs Q E hr h=>?_)
 ·obtain ⟨a,b,rfl,_⟩:=h
  rfl
 ·obtain ⟨a,b,rfl,k⟩:=h
  have nd:=Hl.nd
  refine ⟨_,(AO (AX (i:=2) nd rfl (Or.inl rfl) (AL F1 (DH PJ Bh (DZ (AL Ap (AL Aq (pv 0) AD) AD)) FR) (DH PJ Bh FR (DZ (AL Ap (AL Aq (pv 0) AD) AD)))))
    (AO (AX (i:=3) nd rfl (Or.inl rfl) (AN (Al (K:=K)) (Ax (AA Bh (AA Bh (AA Bh (AA Bh AE))))) (AL Ap (AL Aq (pv 0) AD) AD) (fun _ _=>rfl)))
    (AO (AX (i:=4) nd rfl (Or.inl rfl) (AN (Al (K:=K)) (Ax (AA AD (AA AD (AA AD (AA AD AE))))) (AL BF (AL F0 (AL Ap (AL Aq (pv 0) AD) AD) AD) (AL Ap (AL Aq (pv 0) AD) AD)) (fun _ _=>rfl)))
    (AO (Be (Ah C5 (AL Ap (pv 0) AD) AD (Ak _))
    (AO (AX (i:=5) nd rfl (Or.inl rfl) (AL BF AD (AL Ap (pv 1) (pv 4))))
    (AO (AX (i:=6) nd rfl (Or.inl rfl) (AN (Al (K:=K)) (Ax (AA AD (AA AD (AA AD (AA AD AE))))) (AL Ap (AL Aq (pv 0) AD) AD) (fun _ _=>rfl)))
    (AJ (Ae (A8 (AA Bh (AA (pv 2) (AA Bh (AA (pv 3) (AA (Ab (Fd rfl) (by rfl) T.Ew PyProof.Rows.boot_min (AA AD (AA (AL BF (pv 5) (AL Ap (AL Aq (pv 1) (pv 4)) (AL BF (AL F0 (pv 6) (pv 5)) AD))) AE))) (AA (pv 5) AE)))))))))))
    A4)
    (AJ (Ae (A8 (AA Bh (AA (pv 2) (AA Bh (AA (pv 3) (AA (AL Ap (pv 1) (AL BF (pv 4) AD)) AE)))))))))))),?_⟩
  have sz:sizeLine=16777216:=sizeLine_eq
  have m6:=Int.emod_nonneg (a / 64) (show (6:Int)≠0 by decide)
  have m6':=Int.emod_lt_of_pos (a / 64) (show (0:Int)<6 by decide)
  have m7:=Int.emod_nonneg (a / 384) (show (7:Int)≠0 by decide)
  have m7':=Int.emod_lt_of_pos (a / 384) (show (0:Int)<7 by decide)
  have lt1:((("teller" : Str).length:Nat):Int)=6:=by decide +kernel
  have lt2:((("abcdef" : Str).length:Nat):Int)=6:=by decide +kernel
  obtain ⟨_,c1,_,c2⟩:=Nm4.KN (x := "teller") (j:=0) (k:=a / 64 % 6) (by omega) (by omega) (by omega) (show ∀c∈("teller" : Str).cps.toList,c<128 by decide +kernel)
  obtain ⟨c3,_,c4,_⟩:=Nm4.KN (x := "abcdef") (j:=a / 384 % 7) (k:=6) (by omega) (by omega) (by omega) (show ∀c∈("abcdef" : Str).cps.toList,c<128 by decide +kernel)
  refine ⟨_,rfl,_,_,rfl,rfl,⟨by decide,by decide⟩,_,_,rfl,rfl,(by decide:(0:Int)<6),_,rfl,_,rfl,by omega,_,rfl,_,_,rfl,rfl,⟨by decide,by decide⟩,_,_,rfl,rfl,(by decide:(0:Int)<7),_,rfl,_,rfl,by omega,_,_,rfl,rfl,by omega,?_⟩
  have sn:=(c1.app c3).ok
  generalize Txt.slice "teller" (some (a / 64 % 6)) none++Txt.slice "abcdef" none (some (a / 384 % 7))=nm at sn ⊢
  refine ⟨Nat.le_of_ble_eq_true rfl,fun l0 hl0=>?_⟩
  obtain ⟨v,hv,hm⟩:=Dk [V.str "count", V.str "sum", V.str "least", V.str "greatest"] 4 rfl (by decide) (a / 2)
  obtain ⟨so,hso,rfl⟩:∃so:Str,so∈SRT/\v=.str so:=by
   simp only [List.mem_cons,List.not_mem_nil,or_false] at hm
   rcases hm with rfl|rfl|rfl|rfl <;> exact ⟨_,by decide +kernel,rfl⟩
  have s0:=AH.AW (o:=.lst [V.str "count", V.str "sum", V.str "least", V.str "greatest"]) hl0
  have e0:(upd H l0 (.lst [V.str "count", V.str "sum", V.str "least", V.str "greatest"])) l0=some (.lst [V.str "count", V.str "sum", V.str "least", V.str "greatest"]):=AB
  generalize upd H l0 (.lst [V.str "count", V.str "sum", V.str "least", V.str "greatest"])=H1 at s0 e0 ⊢
  refine ⟨_,rfl,_,_,rfl,rfl,⟨by decide,by decide⟩,_,_,rfl,rfl,(by decide:(0:Int)<4),l0,_,_,_,rfl,rfl,SqL.of e0,hv,?_⟩
  refine ⟨Nat.le_of_ble_eq_true rfl,fun l1 hl1=>?_⟩
  have s1:=AH.AW (o:=.lst [V.int 9,V.int 1000,V.int 9,V.int 1000000]) hl1
  have e1:(upd H1 l1 (.lst [V.int 9,V.int 1000,V.int 9,V.int 1000000])) l1=some (.lst [V.int 9,V.int 1000,V.int 9,V.int 1000000]):=AB
  generalize upd H1 l1 (.lst [V.int 9,V.int 1000,V.int 9,V.int 1000000])=H2 at s1 e1 ⊢
  obtain ⟨mo,hmo,b1,b2⟩:∃mo:Int,atI [V.int 9,V.int 1000,V.int 9,V.int 1000000] (a / 4096 % 2 * 2+a / 8 % 2)=some (.int mo)/\9≤mo/\mo≤1000000:=by
   have q1:a / 4096 % 2=0\/a / 4096 % 2=1:=by omega
   have q2:a / 8 % 2=0\/a / 8 % 2=1:=by omega
   rcases q1 with q1|q1 <;> rcases q2 with q2|q2 <;> rw [q1,q2]
   ·exact ⟨9,by decide +kernel,by decide,by decide⟩
   ·exact ⟨1000,by decide +kernel,by decide,by decide⟩
   ·exact ⟨9,by decide +kernel,by decide,by decide⟩
   ·exact ⟨1000000,by decide +kernel,by decide,by decide⟩
  refine ⟨_,rfl,_,_,rfl,rfl,⟨by decide,by decide⟩,_,_,rfl,rfl,(by decide:(0:Int)<2),_,_,rfl,rfl,.inr ⟨by decide,by decide⟩,_,rfl,_,_,rfl,rfl,⟨by decide,by decide⟩,_,_,rfl,rfl,(by decide:(0:Int)<2),_,_,rfl,rfl,l1,_,_,_,rfl,rfl,SqL.of e1,hmo,?_⟩
  refine ⟨_,rfl,_,_,rfl,rfl,(by decide:(0:Int)<2),rfl,_,rfl,Fl (fun _=>?_) fun _=>?_⟩
  ·have x0:=Int.emod_nonneg b (show mo≠0 by omega)
   have x1:=Int.emod_lt_of_pos b (show 0<mo by omega)
   refine ⟨_,rfl,_,rfl,_,_,rfl,rfl,(by show (0:Int)<mo;omega),_,_,rfl,rfl,?_⟩
   have st0:1≤(1+b % mo)/\(1+b % mo)≤1000000:=by omega
   refine ⟨Nat.le_of_ble_eq_true rfl,fun l2 hl2=>?_⟩
   have s2:=AH.AW (o:=.lst [V.int 3,V.int 3,V.int 3,V.int 19]) hl2
   have e2:(upd H2 l2 (.lst [V.int 3,V.int 3,V.int 3,V.int 19])) l2=some (.lst [V.int 3,V.int 3,V.int 3,V.int 19]):=AB
   generalize upd H2 l2 (.lst [V.int 3,V.int 3,V.int 3,V.int 19])=H3 at s2 e2 ⊢
   obtain ⟨v2,hv2,hm2⟩:=Dk [V.int 3,V.int 3,V.int 3,V.int 19] 4 rfl (by decide) (a / 16)
   obtain ⟨wi,rfl,w0,w1⟩:∃wi:Int,v2=.int wi/\3≤wi/\wi≤19:=by
    simp only [List.mem_cons,List.not_mem_nil,or_false] at hm2
    rcases hm2 with rfl|rfl|rfl|rfl <;> exact ⟨_,rfl,by decide,by decide⟩
   have ws:0≤wi * (1+b % mo)/\wi * (1+b % mo)≤19 * (1+b % mo):=⟨Int.mul_nonneg (by omega) (by omega),Int.mul_le_mul_of_nonneg_right w1 (by omega)⟩
   refine ⟨_,rfl,_,_,rfl,rfl,⟨by decide,by decide⟩,_,_,rfl,rfl,(by decide:(0:Int)<4),l2,_,_,_,rfl,rfl,SqL.of e2,hv2,?_⟩
   have y0:=Int.emod_nonneg (b / mo) (show wi * (1+b % mo)+1≠0 by omega)
   have y1:=Int.emod_lt_of_pos (b / mo) (show 0<wi * (1+b % mo)+1 by omega)
   refine ⟨_,rfl,_,rfl,_,rfl,_,rfl,_,rfl,_,_,rfl,rfl,⟨by omega,by omega⟩,_,rfl,_,rfl,_,_,rfl,rfl,.inl ⟨by omega,by omega⟩,_,_,rfl,rfl,_,_,rfl,rfl,(by show (0:Int)<wi * (1+b % mo)+1;omega),_,_,rfl,rfl,_,_,rfl,_,rfl,Nat.le_of_ble_eq_true rfl,fun p hp=>?_⟩
   have s3:=s0.trans (s1.trans s2)
   refine k _ p (.each _ (1+b % mo)) nm so (s3.upd hp) (s3.free hp) AB ?_ hso sn
   show 1≤(1+b % mo)/\(1+b % mo)≤_/\_≤(1000000:Int)/\_≤20 * (1+b % mo)
   split <;> omega
  ·have x0:=Int.emod_nonneg b (show mo+1≠0 by omega)
   have x1:=Int.emod_lt_of_pos b (show 0<mo+1 by omega)
   have s2:=s0.trans s1
   refine ⟨_,rfl,_,rfl,_,rfl,_,rfl,_,_,rfl,rfl,_,_,rfl,rfl,(by show (0:Int)<mo+1;omega),Nat.le_of_ble_eq_true rfl,fun p hp=>?_⟩
   exact k _ p (.gap (b % (mo+1))) nm so (s2.upd hp) (s2.free hp) AB ⟨x0,by omega⟩ hso sn
namespace Nm4
theorem Nk {x:Array Nat}(hx:∀c∈x.toList,c<128):∀(k:Nat) (acc:Array Nat),(∀c∈acc.toList,c<128)→(∀c∈((List.replicate k x).foldl (·++·) acc).toList,c<128)/\((List.replicate k x).foldl (·++·) acc).size=acc.size+k * x.size
 | 0,acc,h=>⟨h,by simp⟩
 | k+1,acc,h=>by
  rw [List.replicate_succ,List.foldl_cons]
  obtain ⟨a,b⟩:=Nk hx k (acc++x) (fun c hc=>by
   rw [Array.toList_append] at hc
   rcases List.mem_append.mp hc with q|q
   ·exact h c q
   ·exact hx c q)
  refine ⟨a,?_⟩
  rw [b,Array.size_append,Nat.add_mul]
  omega
theorem Mp {z:Str}{n:Int}(h:AS z) (h0:0≤n):AS (Txt.mul z n)/\(Txt.mul z n).length≤z.length * n.toNat:=by
 unfold Txt.mul
 split
 ·refine ⟨fun c hc=>?_,Nat.zero_le _⟩
  have:c∈([]:List Nat):=hc
  cases this
 ·split
  ·next h2 =>
   refine ⟨h,?_⟩
   rw [Bool.or_eq_true] at h2
   rcases h2 with q|q
   ·have:n=1:=by simpa using q
    subst this
    simp
   ·have:z.length=0:=by simpa using q
    omega
  ·obtain ⟨a,b⟩:=Nk (x:=z.cps) h n.toNat #[] (by simp)
   refine ⟨a,?_⟩
   show ((List.replicate n.toNat z.cps).foldl (·++·) #[]).size≤z.cps.size * n.toNat
   rw [b,Nat.mul_comm]
   simp
theorem FE {z:Str}{n:Int}(h0:0≤n) (h1:n≤100) (hz:z.length≤1000):MulOk z n:=by
 refine ⟨?_,fun h _=>?_,fun h _=>?_⟩
 ·rw [decide_eq_false (by omega),decide_eq_false (by omega)];rfl
 ·have h2:(1000:Int)≤(2 ^ 63-1) / n:=(Int.le_ediv_iff_mul_le (by omega)).mpr (by omega)
  omega
 ·unfold Builtin.Str.tooLong
  have sz:sizeLine=16777216:=sizeLine_eq
  have h3:z.length * n.toNat≤1000 * 100:=Nat.mul_le_mul hz (by omega)
  exact decide_eq_false (by omega)
abbrev LET:Str := "abcdefghijklmnopqrstuvwxyz"
theorem TJ (m:Int):∃c,atI LET.cps.toList (m % 26)=some c/\AS ⟨#[c]⟩:=by
 obtain ⟨v,hv,hm⟩:=Dk LET.cps.toList 26 (by decide +kernel) (by decide) m
 have all:∀c∈LET.cps.toList,c<128:=by decide +kernel
 refine ⟨v,hv,fun c hc=>?_⟩
 have e:c=v:=by simpa using hc
 rw [e]
 exact all v hm
end Nm4
def Q8:Sp:=fun vs H Q _=>∃c:Int,vs=[.int c]/\∀(H':Hp) (r:Addr) (zs:List Str),AH H H'→H r=none→H' r=some (.lst (zs.map V.str))→(zs.length=4\/zs.length=12)→(∀z∈zs,PyData.strOk z=true)→Q (.ref r) H'
theorem P0 (T:Tx K mg ad):A9 P w K mg base CX0 1 ad.CG ad.Co ["_law_cell"] Q8:=by
 refine T.CO.ok Hm (fun vs H Q E h=>?_) (fun cdv A outer s H vs Q E hr h=>?_)
 ·obtain ⟨c,rfl,_⟩:=h
  rfl
 ·obtain ⟨c,rfl,k⟩:=h
  have nd:=Hm.nd
  refine ⟨_,(AO (AX (i:=1) nd rfl (Or.inr rfl) Bh)
    (AO (AX (i:=2) nd rfl (Or.inl rfl) (AN (Al (K:=K)) (Ax (AA AD (AA AD (AA AD AE)))) (AL Ap (AL Aq (pv 0) AD) AD) (fun _ _=>rfl)))
    (AO (AX (i:=3) nd rfl (Or.inr rfl) (BN (osc:=AM Ci) [("_law_some", 1),("_law_cell", 0)] rfl (J9 (by rfl) T.EJ (AA (pv 2) AE)) rfl rfl (by decide +kernel) (by decide +kernel) (by decide +kernel) ⟨rfl,rfl,rfl,rfl,trivial⟩ rfl (by decide +kernel) (fun _ _ _ _=>B9) (fun _ _ _ _=>(AN TV (pv 1) (AL Ap (AL BF (AL Aq (pv 2) AD) (AL F0 AD (pv 0))) AD) (fun _ _=>rfl)))))
    (AO (Be (Ah C5 (AL Ap (AL Aq (pv 0) AD) AD) AD (Ak _))
    (AJ (Ae (BN (osc:=AM Ci) [("_law_signs", 3)] rfl (J9 (by rfl) T.EJ (AA (pv 2) AE)) rfl rfl (by decide +kernel) (by decide +kernel) (by decide +kernel) ⟨rfl,rfl,trivial⟩ rfl (by decide +kernel) (fun _ _ _ _=>B9) (fun _ _ _ _=>(AL Fz (AN (Al (K:=K)) (pv 1) (pv 0) (fun _ _=>rfl)) (AL BF AD (AL Ap (AL F0 AD (pv 0)) AD)))))))
    A4)
    (AJ (Ae (BN (osc:=AM Ci) [("_law_cell", 0)] rfl (Ai (K:=K) (pv 3)) rfl rfl (by decide +kernel) (by decide +kernel) (by decide +kernel) ⟨rfl,rfl,trivial⟩ rfl (by decide +kernel) (fun _ _ _ _=>B9) (fun _ _ _ _=>(AL F1 (AL F1 (AL Fz Bh (AL Ap (pv 1) AD)) (pv 0)) (AL Fz Bh (AL Ap (AL Aq (pv 1) AD) AD))))))))))),?_⟩
  have sz:sizeLine=16777216:=sizeLine_eq
  refine ⟨Nat.le_of_ble_eq_true rfl,fun l0 hl0=>?_⟩
  have s0:=AH.AW (o:=.lst [V.int 4,V.int 4,V.int 12]) hl0
  have e0:(upd H l0 (.lst [V.int 4,V.int 4,V.int 12])) l0=some (.lst [V.int 4,V.int 4,V.int 12]):=AB
  generalize upd H l0 (.lst [V.int 4,V.int 4,V.int 12])=H1 at s0 e0 ⊢
  obtain ⟨v,hv,hm⟩:=Dk [V.int 4,V.int 4,V.int 12] 3 rfl (by decide) (c / 520)
  obtain ⟨n,rfl,hn⟩:∃n:Nat,v=.int (n:Int)/\(n=4\/n=12):=by
   simp only [List.mem_cons,List.not_mem_nil,or_false] at hm
   rcases hm with rfl|rfl|rfl
   ·exact ⟨4,rfl,.inl rfl⟩
   ·exact ⟨4,rfl,.inl rfl⟩
   ·exact ⟨12,rfl,.inr rfl⟩
  refine ⟨_,rfl,_,_,rfl,rfl,⟨by decide,by decide⟩,_,_,rfl,rfl,(by decide:(0:Int)<3),l0,_,_,_,rfl,rfl,SqL.of e0,hv,?_⟩
  have hl1:∀{z:Str},(∃ch,z=⟨#[ch]⟩)→z.length=1:=fun ⟨ch,e⟩=>by rw [e];rfl
  refine ⟨_,rfl,(n:Int),rfl,by omega,by omega,IC (fun i τ acc H'=>(∃o,τ=[o,some (.str Nm4.LET),some (.int c)])/\H'=H1/\∃zs:List Str,acc=zs.map V.str/\zs.length=i/\∀z∈zs,Nm4.AS z/\z.length=1) (by omega) ⟨⟨none,rfl⟩,rfl,[],rfl,rfl,fun z hz=>by cases hz⟩ ?_ ?_⟩
  ·rintro i τ acc H' R1 hi _ ⟨⟨o,rfl⟩,rfl,zs,rfl,lz,az⟩ k1
   obtain ⟨ch,hch,as⟩:=Nm4.TJ (c / 20+7 * (0+(i:Int)))
   refine ⟨_,rfl,_,rfl,_,_,rfl,rfl,⟨by decide,by decide⟩,_,rfl,_,_,rfl,rfl,.inl ⟨by decide,by decide⟩,_,_,rfl,rfl,_,_,rfl,rfl,(by decide:(0:Int)<26),_,_,ch,rfl,rfl,(by decide +kernel),hch,k1 _ _ _ ⟨⟨_,rfl⟩,rfl,zs++[⟨#[ch]⟩],by rw [List.map_append];rfl,by rw [List.length_append,lz];rfl,fun z hz=>?_⟩⟩
   rcases List.mem_append.mp hz with hz|hz
   ·exact az z hz
   ·rw [List.mem_singleton.mp hz]
    exact ⟨as,rfl⟩
  rintro τ acc H' _ ⟨_,rfl,zs,rfl,lz,az⟩ D hD
  have s1:=AH.AW (o:=.lst (zs.map V.str)) hD
  have eD:(upd H' D (.lst (zs.map V.str))) D=some (.lst (zs.map V.str)):=AB
  generalize upd H' D (.lst (zs.map V.str))=H2 at s1 eD ⊢
  have S2:=s0.trans s1
  refine ⟨_,rfl,_,_,rfl,rfl,⟨by decide,by decide⟩,_,_,rfl,rfl,(by decide:(0:Int)<2),rfl,_,rfl,Fl (fun _=>?_) fun _=>?_⟩
  ·refine ⟨_,rfl,(n:Int),rfl,by omega,by omega,IC (fun i τ acc H'=>(∃o,τ=[o,some (.ref D)])/\H'=H2/\∃ws:List Str,acc=ws.map V.str/\ws.length=i/\∀z∈ws,PyData.strOk z=true) (by omega) ⟨⟨none,rfl⟩,rfl,[],rfl,rfl,fun z hz=>by cases hz⟩ ?_ ?_⟩
   ·rintro i τ acc H'' R1 hi _ ⟨⟨o,rfl⟩,rfl,ws,rfl,lw,aw⟩ k1
    have hiz:i<zs.length:=by omega
    obtain ⟨a1,a2⟩:=az _ (List.getElem_mem hiz)
    have e1:atI (zs.map V.str) (0+(i:Int))=some (.str zs[i]):=by
     rw [Int.zero_add]
     exact AG (by rw [List.getElem?_map,List.getElem?_eq_getElem hiz];rfl)
    have m0:=Int.emod_nonneg (5 * (0+(i:Int))) (show (12:Int)≠0 by decide)
    have m1:=Int.emod_lt_of_pos (5 * (0+(i:Int))) (show (0:Int)<12 by decide)
    obtain ⟨b1,b2⟩:=Nm4.Mp (n:=1+5 * (0+(i:Int)) % 12) a1 (by omega)
    refine ⟨_,rfl,_,rfl,D,_,_,_,rfl,rfl,SqL.of eD,e1,_,rfl,_,_,rfl,rfl,.inl ⟨by decide,by decide⟩,_,_,rfl,rfl,(by decide:(0:Int)<12),_,_,rfl,rfl,_,_,rfl,rfl,Nm4.FE (by omega) (by omega) (by omega),k1 _ _ _ ⟨⟨_,rfl⟩,rfl,ws++[_],by rw [List.map_append];rfl,by rw [List.length_append,lw];rfl,fun z hz=>?_⟩⟩
    rcases List.mem_append.mp hz with hz|hz
    ·exact aw z hz
    ·rw [List.mem_singleton.mp hz]
     exact b1.ok
   ·rintro τ acc H'' _ ⟨_,rfl,ws,rfl,lw,aw⟩ D2 hD2
    exact k _ D2 ws (S2.upd hD2) (S2.free hD2) AB (by omega) aw
  ·have c0:=Int.emod_nonneg c (show (5:Int)≠0 by decide)
   have c1:=Int.emod_lt_of_pos c (show (0:Int)<5 by decide)
   have d0:=Int.emod_nonneg (c / 5) (show (4:Int)≠0 by decide)
   have d1:=Int.emod_lt_of_pos (c / 5) (show (0:Int)<4 by decide)
   have ao:Nm4.AS "o" := show ∀c∈("o" : Str).cps.toList,c<128 by decide +kernel
   have lo1:("o" : Str).length=1:=by decide +kernel
   obtain ⟨p1,p2⟩:=Nm4.Mp (n:=c % 5) ao c0
   obtain ⟨q1,q2⟩:=Nm4.Mp (n:=c / 5 % 4) ao d0
   refine ⟨_,rfl,D,rfl,⟨_,SqL.of eD⟩,?_⟩
   refine BR (K:=K) (xs:=zs.map V.str) (fun i τ acc H'=>(∃o,τ=[o,some (.int c)])/\H'=H2/\∃ws:List Str,acc=ws.map V.str/\ws.length=i/\∀z∈ws,PyData.strOk z=true) (by rw [List.length_map];omega) ⟨⟨none,rfl⟩,rfl,[],rfl,rfl,fun z hz=>by cases hz⟩ (fun i τ acc H' ⟨_,e,_⟩=>by rw [e];exact SqL.of eD) ?_ ?_
   ·rintro i x τ acc H'' R1 hx _ ⟨⟨o,rfl⟩,rfl,ws,rfl,lw,aw⟩ k1
    obtain ⟨zz,hzz,rfl⟩:=Ba hx
    obtain ⟨a1,a2⟩:=az _ (List.mem_of_getElem? hzz)
    have lap:(Txt.mul "o" (c % 5)++zz).length=(Txt.mul "o" (c % 5)).length+zz.length:=by
     rw [Nm4.FU,Nm4.Nq,List.length_append,←Nm4.FU,←Nm4.FU]
    rw [lo1] at p2 q2
    refine ⟨_,rfl,_,_,rfl,rfl,(by decide:(0:Int)<5),_,_,rfl,rfl,Nm4.FE (by omega) (by omega) (by omega),_,rfl,_,_,rfl,rfl,by omega,_,rfl,_,_,rfl,rfl,⟨by decide,by decide⟩,_,_,rfl,rfl,(by decide:(0:Int)<4),_,_,rfl,rfl,Nm4.FE (by omega) (by omega) (by omega),_,_,rfl,rfl,by omega,k1 _ _ _ ⟨⟨_,rfl⟩,rfl,ws++[_],by rw [List.map_append];rfl,by rw [List.length_append,lw];rfl,fun z hz=>?_⟩⟩
    rcases List.mem_append.mp hz with hz|hz
    ·exact aw z hz
    ·rw [List.mem_singleton.mp hz]
     exact ((p1.app a1).app q1).ok
   ·rintro τ acc H'' _ ⟨_,rfl,ws,rfl,lw,aw⟩ D2 hD2
    rw [List.length_map] at lw
    exact k _ D2 ws (S2.upd hD2) (S2.free hD2) AB (by omega) aw
theorem OG {k:Kd}(hk:k.ok) {now:Int}{ps:List Pc}(h:OpenK k [] now ps):ps=[]:=by
 have:=(AQ (Ht hk h (GU k now))).1
 exact List.length_eq_zero_iff.mp this
theorem Kc {k:Kd}(hk:k.ok) {L:List It3}{now:Int}{gG gL:Str→List Pc}{ks:List Str}(hG:∀z,OpenK k (Cd L z) now (gG z)) (hL:∀z,OpenK k (Cd L z) now (gL z)) (srt:CA ks) (nd:ks.Nodup) (mks:∀z,z∈ks↔Cd L z≠[]):Gr gL gG ks :=
 ⟨fun z=>Ht hk (hL z) (hG z),srt,nd,fun z hz=>(mks z).mpr fun e=>hz (by have:=hL z;rw [e] at this;exact OG hk this)⟩
theorem Gu {gL gG:Str→List Pc}{ks:List Str}(now:Option Int) (t:Gr gL gG ks):Gr (fun z=>B7 now (gL z)) (fun z=>B7 now (gG z)) ks:=by
 refine ⟨fun z=>?_,t.srt,t.nd,fun z hz=>t.all z fun e=>hz ?_⟩
 ·cases now with
  | none=>exact t.same z
  | some n=>exact C1 (fun a b h=>by rw [h.2.1]) (t.same z)
 ·show B7 now (gL z)=[]
  rw [e]
  cases now <;> rfl
theorem Jr {g:Str→List Pc}{n:Int}:∀ks:List Str,(AZ g ks).filter (fun kp=>decide (kp.2.2.1≤n))=AZ (fun z=>B7 (some n) (g z)) ks
 | []=>rfl
 | k::ks=>by
  have ih:=Jr (g:=g) (n:=n) ks
  unfold AZ at ih ⊢
  rw [List.flatMap_cons,List.flatMap_cons,List.filter_append,ih,List.filter_map]
  rfl
theorem Mi {k:Kd}(hk:k.ok) {its:Bq}{now now':Int}{ps:List Pc}(hn:now≤now') (h:OpenK k its now ps):OpenK k its now' (Az (some now') ps):=JF hk hn h
theorem Io {gL gG:Str→List Pc}{ks:List Str}(t:Gr gL gG ks) {n:Nat}(h:∀z,(gL z).length≤n) (z:Str):(gG z).length≤n:=by
 rw [←(AQ (t.same z)).1]
 exact h z
theorem GD {g:Str→List Pc}{n:Nat}(h:∀z,(g z).length≤n):∀ks:List Str,(AZ g ks).length≤n * ks.length
 | []=>Nat.zero_le _
 | k::ks=>by
  have ih:=GD h ks
  unfold AZ at ih ⊢
  rw [List.flatMap_cons,List.length_append,List.length_map,List.length_cons,Nat.mul_add]
  have:=h k
  omega
theorem Ll {k:Kd}{L:List It3}{i:It3}{now:Int}{g:Str→List Pc}{ps:List Pc}(h:∀z,OpenK k (Cd L z) now (g z)) (hp:OpenK k (Cd L i.2.1++[(i.1,i.2.2)]) now ps) (z:Str):OpenK k (Cd (L++[i]) z) now (E6 g i.2.1 ps z):=by
 rw [HJ]
 by_cases e:z=i.2.1
 ·subst e
  rw [if_pos rfl,CY]
  exact hp
 ·rw [if_neg (fun q=>e q.symm),List.append_nil,Bi e]
  exact h z
theorem Lo:∀{ks js:List Str},ks.Nodup→(∀z∈ks,z∈js)→ks.length≤js.length
 | [],_,_,_=>Nat.zero_le _
 | k::ks,js,nd,h=>by
  obtain ⟨n1,n2⟩:=List.nodup_cons.mp nd
  have hk:k∈js:=h k List.mem_cons_self
  have ih:=Lo (js:=js.erase k) n2 fun z hz=>(List.mem_erase_of_ne (fun e=>n1 (by rw [←e];exact hz))).mpr (h z (List.mem_cons_of_mem _ hz))
  rw [List.length_erase_of_mem hk] at ih
  have:=List.length_pos_of_mem hk
  rw [List.length_cons]
  omega
theorem BJ.sub {ex ex':List Addr}{H:Hp}{x p d:Addr}{k:Kd}{nm so:Str}{g:Str→List Pc}{kvs:List (Key×V)}(h:BJ ad ex H x p d k nm so g kvs) (s:∀c∈ex',c∈ex):BJ ad ex' H x p d k nm so g kvs :=
 ⟨h.obj,h.step,h.rows.dict,h.rows.nd,fun q hq=>by
  obtain ⟨key,r,xs,e,n,er,w,ne⟩:=h.rows.row q hq
  exact ⟨key,r,xs,e,fun z=>n (s _ z),er,w,ne⟩,h.rows.all⟩
theorem Ar.sub {ex ex':List Addr}{H:Hp}{hs:List V}(h:Ar K ex H hs) (s:∀c∈ex',c∈ex):Ar K ex' H hs:=fun v hv=>by
 obtain ⟨q,r,r',xs,e,e1,n1,n2,e2,e3,dd⟩:=h v hv
 exact ⟨q,r,r',xs,e,e1,fun z=>n1 (s _ z),fun z=>n2 (s _ z),e2,e3,dd⟩
theorem Ar.grow {ex:List Addr}{H:Hp}{hs:List V}{l:Addr}(h:Ar K ex H hs) (hl:H l=none):Ar K (l::ex) H hs:=fun v hv=>by
 obtain ⟨q,r,r',xs,e,e1,n1,n2,e2,e3,dd⟩:=h v hv
 have nn:∀{b:Addr} {ys:List V},H b=some (.lst ys)→b∉ex→b∉l::ex:=fun {b ys} eb nb hm=>by
  rcases List.mem_cons.mp hm with rfl|hm
  ·rw [hl] at eb;cases eb
  ·exact nb hm
 exact ⟨q,r,r',xs,e,e1,nn e2 n1,nn e3 n2,e2,e3,dd⟩
theorem Ar.lists {ex:List Addr}{H:Hp}{hs ys zs:List V}{c:Addr}(h:Ar K ex H hs) (e:H c=some (.lst ys)) (hc:c∈ex):Ar K ex (upd H c (.lst zs)) hs :=
 h.keep (fun b xs nb eb=>by rw [AF (fun z=>nb (by rw [z];exact hc))];exact eb) ((Tp.refl H).upd e fun xs=>by intro z;cases z)
structure Lw (ad:Ad) (K:W.Frag) (cl kl:Addr) (cv:List V) (zs:List Str) (x p d h:Addr) (kd:Kd) (nm so:Str) (n nh:Nat) (H:Hp) (li:Addr) (L:List It3) (xs:List V) (g:Str→List Pc) (kvs:List (Key×V)) (hs:List V) (now:Int):Prop where
 cells:H cl=some (.lst cv)
 keys:H kl=some (.lst (zs.map V.str))
 gr:BJ ad [li,h] H x p d kd nm so g kvs
 its:H li=some (.lst xs)
 rws:Rws H xs (L.map itV)
 len:L.length≤n
 tm:∀i∈L,0≤i.1/\i.1≤1000000000
 ky:∀i∈L,PyData.strOk i.2.1=true
 op:∀z,OpenK kd (Cd L z) now (g z)
 held:Ar K [li,h] H hs
 eh:H h=some (.lst hs)
 lh:hs.length≤nh
 lk:kvs.length≤n
 n0:0≤now
 n1:now≤1000000000
 nlh:li≠h
 ncl:cl≠li
 nch:cl≠h
 nkl:kl≠li
 nkh:kl≠h
section
variable {cl kl x p d h:Addr}{cv:List V}{zs:List Str}{kd:Kd}{nm so:Str}{n n' nh nh':Nat}{H H':Hp}{li li':Addr}{L L':List It3}{xs xs':List V}{g g':Str→List Pc}{kvs kvs':List (Key×V)}{hs hs':List V}{now now':Int}
theorem Lw.same (I:Lw ad K cl kl cv zs x p d h kd nm so n nh H li L xs g kvs hs now) (s:AH H H'):Lw ad K cl kl cv zs x p d h kd nm so n nh H' li L xs g kvs hs now :=
 { I with cells:=s _ _ I.cells,keys:=s _ _ I.keys,gr:=I.gr.same s,its:=s _ _ I.its,rws:=I.rws.keep s.tp,held:=I.held.same s,eh:=s _ _ I.eh }
theorem Lw.there (I:Lw ad K cl kl cv zs x p d h kd nm so n nh H li L xs g kvs hs now):∀c∈[li,h],∃o,H c=some o:=fun c hc=>by
 simp only [List.mem_cons,List.not_mem_nil,or_false] at hc
 rcases hc with rfl|rfl
 ·exact ⟨_,I.its⟩
 ·exact ⟨_,I.eh⟩
theorem Lw.to (I:Lw ad K cl kl cv zs x p d h kd nm so n nh H li L xs g kvs hs now) (F:∀b o,b≠h→b≠d→H b=some o→H' b=some o) (eh:H' h=some (.lst hs')) (lh:hs'.length≤nh') (held:Ar K [li,h] H' hs')
  (gr:BJ ad [li,h] H' x p d kd nm so g' kvs') (lk:kvs'.length≤n') (op:∀z,OpenK kd (Cd L z) now' (g' z)) (n0:0≤now') (n1:now'≤1000000000) (hn:n≤n'):Lw ad K cl kl cv zs x p d h kd nm so n' nh' H' li L xs g' kvs' hs' now':=by
 have ed:=I.gr.rows.dict
 have kl':∀{b:Addr} {ys:List V},b≠h→H b=some (.lst ys)→H' b=some (.lst ys):=fun nb e=>F _ _ nb (fun z=>by rw [z,ed] at e;cases e) e
 have tp:Tp H H':=fun b ys e=>F _ _ (fun z=>by rw [z,I.eh] at e;cases e) (fun z=>by rw [z,ed] at e;cases e) e
 exact { I with cells:=kl' I.nch I.cells,keys:=kl' I.nkh I.keys,gr:=gr,its:=kl' I.nlh I.its,rws:=I.rws.keep tp,len:=Nat.le_trans I.len hn,op:=op,held:=held,eh:=eh,lh:=lh,lk:=lk,n0:=n0,n1:=n1 }
theorem Lw.anew (I:Lw ad K cl kl cv zs x p d h kd nm so n nh H li L xs g kvs hs now) (hl:H li'=none) (F:∀b o,b≠h→b≠d→(upd H li' (.lst [])) b=some o→H' b=some o) (eh:H' h=some (.lst hs')) (lh:hs'.length≤nh') (held:Ar K [li',h] H' hs')
  (gr:BJ ad [li',h] H' x p d kd nm so g' kvs') (lk:kvs'.length≤n') (op:∀z,g' z=[]) (hn:n≤n'):Lw ad K cl kl cv zs x p d h kd nm so n' nh' H' li' [] [] g' kvs' hs' now:=by
 have ed:=I.gr.rows.dict
 have s0:=AH.AW (o:=.lst []) hl
 have kl':∀{b:Addr} {ys:List V},b≠h→H b=some (.lst ys)→H' b=some (.lst ys):=fun nb e=>F _ _ nb (fun z=>by rw [z,ed] at e;cases e) (s0 _ _ e)
 have nh:li'≠h:=(AK I.eh hl).symm
 have ndd:li'≠d:=(AK ed hl).symm
 exact { cells:=kl' I.nch I.cells,keys:=kl' I.nkh I.keys,gr:=gr,its:=F _ _ nh ndd AB,rws:=EM _,len:=Nat.zero_le _,tm:=fun i hi=>(by cases hi),ky:=fun i hi=>(by cases hi),op:=fun z=>(by rw [op z];exact GU _ _),held:=held,eh:=eh,lh:=lh,lk:=lk,n0:=I.n0,n1:=I.n1,nlh:=nh,ncl:=AK I.cells hl,nch:=I.nch,nkl:=AK I.keys hl,nkh:=I.nkh }
theorem Lw.strs (I:Lw ad K cl kl cv zs x p d h kd nm so n nh H li L xs g kvs hs now) {ks:List Str}(mks:∀z,z∈ks↔Cd L z≠[]):∀z∈ks,PyData.strOk z=true:=fun z hz=>by
 obtain ⟨q,hq⟩:=List.exists_mem_of_ne_nil _ ((mks z).mp hz)
 obtain ⟨i,hi,_,rfl⟩:=Ga hq
 exact I.ky i hi
theorem Lw.Kw (I:Lw ad K cl kl cv zs x p d h kd nm so n nh H li L xs g kvs hs now) {ks:List Str}(nd:ks.Nodup) (mks:∀z,z∈ks↔Cd L z≠[]):ks.length≤n:=by
 have:=Lo (js:=L.map fun i=>i.2.1) nd fun z hz=>by
  obtain ⟨q,hq⟩:=List.exists_mem_of_ne_nil _ ((mks z).mp hz)
  obtain ⟨i,hi,_,rfl⟩:=Ga hq
  exact List.mem_map.mpr ⟨i,hi,rfl⟩
 rw [List.length_map] at this
 exact Nat.le_trans this I.len
theorem Lw.put (I:Lw ad K cl kl cv zs x p d h kd nm so n nh H li L xs g kvs hs now) {tq:Addr}{T A:Int}{z:Str}{ps':List Pc}(et:H tq=some (.tup [.int T,.str z,.int A])) (h0:0≤T) (h1:T≤1000000000) (hz:PyData.strOk z=true)
  (sx:BW d (upd H li (.lst (xs++[.ref tq]))) H') (gr':BJ ad [li,h] H' x p d kd nm so (E6 g z ps') kvs') (op':OpenK kd (Cd L z++[(T,A)]) now ps') (lk':kvs'.length≤n+1) (hn:nh≤nh'):Lw ad K cl kl cv zs x p d h kd nm so (n+1) nh' H' li (L++[(T,z,A)]) (xs++[.ref tq]) (E6 g z ps') kvs' hs now:=by
 have ed:=I.gr.rows.dict
 have nd:li≠d:=fun e=>by have:=I.its;rw [e,ed] at this;cases this
 have kl':∀{b:Addr} {ys:List V},b≠li→H b=some (.lst ys)→H' b=some (.lst ys):=fun nb e=>sx _ _ (fun q=>by rw [q,ed] at e;cases e) (by rw [AF nb];exact e)
 have tp:Tp H H':=fun b ys e=>sx _ _ (fun q=>by rw [q,ed] at e;cases e) (by rw [AF (fun q=>by rw [q,I.its] at e;cases e)];exact e)
 have held':Ar K [li,h] H' hs:=(I.held.lists (zs:=xs++[.ref tq]) I.its (by simp)).keep (fun b ys _ e=>sx _ _ (fun q=>by rw [q,AF nd.symm,ed] at e;cases e) e) (fun b ys e=>sx _ _ (fun q=>by rw [q,AF nd.symm,ed] at e;cases e) e)
 exact { I with
  cells:=kl' I.ncl I.cells,keys:=kl' I.nkl I.keys,gr:=gr',its:=sx _ _ nd AB
  rws:=(by rw [List.map_append];exact (I.rws.snoc (ks:=itV (T,z,A)) et).keep tp)
  len:=(by have:=I.len;rw [List.length_append,List.length_singleton];omega)
  tm:=fun i hi=>(by
   rcases List.mem_append.mp hi with hi|hi
   ·exact I.tm i hi
   ·rw [List.mem_singleton.mp hi];exact ⟨h0,h1⟩)
  ky:=fun i hi=>(by
   rcases List.mem_append.mp hi with hi|hi
   ·exact I.ky i hi
   ·rw [List.mem_singleton.mp hi];exact hz)
  op:=fun y=>Ll (i:=(T,z,A)) I.op op' y
  held:=held',eh:=kl' I.nlh.symm I.eh,lh:=Nat.le_trans I.lh hn,lk:=lk' }
theorem Lw.grx (I:Lw ad K cl kl cv zs x p d h kd nm so n nh H li L xs g kvs hs now) (sx:BW h H H'):BJ ad [li,h] H' x p d kd nm so g kvs:=by
 obtain ⟨dx,eo⟩:=I.gr.obj
 have st:H p=_:=I.gr.step
 have ne:∀{b:Addr} {o:HO},H b=some o→(∀ys,o≠.lst ys)→b≠h:=fun e no q=>by rw [q,I.eh] at e;cases e;exact no _ rfl
 exact ⟨⟨dx,sx _ _ (ne eo fun ys=>by intro q;cases q) eo⟩,sx _ _ (ne st fun ys=>by intro q;cases q) st,I.gr.rows.keep (sx _ _ (ne I.gr.rows.dict fun ys=>by intro q;cases q) I.gr.rows.dict) (fun b ys nb e=>sx _ _ (fun q=>nb (by simp [q])) e) (fun b ys e=>sx _ _ (ne e fun ys=>by intro q;cases q) e)⟩
end
theorem Q0 (kd:Kd) (nm so:Str):∃m:Int,atI (stV kd nm so) 4=some (.int m):=by
 cases kd with
 | each z d=>exact ⟨z,AG (j:=4) rfl⟩
 | gap m=>exact ⟨m,AG (j:=4) rfl⟩
theorem Oo (xs:List V):(F8 xs (some 4) (some 34)).length≤30:=by
 unfold F8
 have e1:HT.sIx xs.length 0 (some 4)=min 4 xs.length:=HT.NR _ _ 4
 have e2:HT.sIx xs.length xs.length (some 34)=min 34 xs.length:=HT.NR _ _ 34
 rw [List.length_take,List.length_drop,e1,e2]
 omega
theorem OW {H:Hp}{t:Addr}{now:Int}{xs:List V}{L:List It3}(et:H t=some (.tup [.int now])) (hw:Rws H xs (L.map itV)):∃(b:Addr) (ts:List V) (t0:Int),atI ([.ref t]++xs) (-1)=some (.ref b)/\H b=some (.tup ts)/\atI ts 0=some (.int t0):=by
 rcases List.eq_nil_or_concat xs with rfl|⟨pre,v,rfl⟩
 ·exact ⟨t,_,now,EH [] _,et,AG (j:=0) rfl⟩
 ·obtain ⟨b,ks,rfl,ek,eb⟩:=hw.at (i:=pre.length) (x:=v) (by simp)
  obtain ⟨i,_,rfl⟩:=List.mem_map.mp (List.mem_of_getElem? ek)
  refine ⟨b,_,i.1,?_,eb,AG (j:=0) rfl⟩
  rw [List.concat_eq_append,←List.append_assoc]
  exact EH _ _
theorem P8 {H:Hp}{Q:VK}{E:XK}{p l:Addr}{k:Kd}{nm so:Str}{xs:List V}{L:List It3}{now:Int}(h0:Dl H p k nm so) (h1:k.ok) (h2:H l=some (.lst xs)) (h3:Rws H xs (L.map itV)) (h4:L.length≤40) (h5:(∀i∈L,0≤i.1/\i.1≤1000000000)) (h6:0≤now) (hk:∀(H':Hp) (r:Addr) (ys:List V) (g:Str→List Pc) (ks:List Str),AH H H'→H r=none→H' r=some (.lst ys)→DuS H H' ys (AZ g ks)→CA ks→ks.Nodup→(∀z,z∈ks↔Cd L z≠[])→(∀z,OpenK k (Cd L z) now (g z))→(∀z,(g z).length≤840)→Q (.ref r) H'):MW [.ref p,.ref l,.int now] H Q E:=⟨p,l,k,nm,so,xs,L,now,rfl,h0,h1,h2,h3,h4,h5,h6,hk⟩
theorem JN {H:Hp}{Q:VK}{E:XK}{H0:Hp}{ex:List Addr}{x p d l h:Addr}{k:Kd}{nm so:Str}{gG gO:Str→List Pc}{kvs:List (Key×V)}{ys hs:List V}{ks:List Str}{now:Option Int}{way:Int}(h0:BJ ad ex H x p d k nm so gG kvs) (h1:(∀c∈ex,∃o,H c=some o)) (h2:h∈ex) (h3:so∈SRT) (h4:kvs.length≤100) (h5:(∀z,(gG z).length≤10000)) (h6:(∀z,(gG z).Pairwise fun a b=>a.1<b.1)) (h7:H l=some (.lst ys)) (h8:DuS H0 H ys (AZ gO ks)) (h9:(AZ gO ks).length≤100000) (h10:Gr gO (fun z=>B7 now (gG z)) ks) (h11:PyData.strOk nm=true) (h12:(∀z∈ks,PyData.strOk z=true)) (h13:H h=some (.lst hs)) (h14:hs.length≤1000) (h15:Ar K ex H hs) (hk:∀H' hs' kvs',(∀b o,b≠h→b≠d→H b=some o→H' b=some o)→H' h=some (.lst hs')→hs'.length≤hs.length+1→Ar K ex H' hs'→BJ ad ex H' x p d k nm so (fun z=>Az now (gG z)) kvs'→kvs'.length≤kvs.length→Q (.bl true) H'):Gy ad K [.ref x,.ref p,.ref l,Ln now,.ref h,.int way] H Q E:=⟨H0,ex,x,p,d,l,h,k,nm,so,gG,gO,kvs,ys,hs,ks,now,way,rfl,h0,h1,h2,h3,h4,h5,h6,h7,h8,h9,h10,h11,h12,h13,h14,h15,hk⟩
theorem Ls {H:Hp}{Q:VK}{E:XK}{H0:Hp}{ex:List Addr}{x p d l h:Addr}{k:Kd}{nm so:Str}{gG gL:Str→List Pc}{kvs:List (Key×V)}{ys hs:List V}{ks:List Str}{way:Int}(h0:BJ ad ex H x p d k nm so gG kvs) (h1:(∀c∈ex,∃o,H c=some o)) (h2:h∈ex) (h3:kvs.length≤100) (h4:(∀z,(gG z).length≤10000)) (h5:H l=some (.lst ys)) (h6:DuS H0 H ys (AZ gL ks)) (h7:(AZ gL ks).length≤100000) (h8:Gr gL gG ks) (h9:(∀z∈ks,PyData.strOk z=true)) (h10:H h=some (.lst hs)) (h11:hs.length≤1000) (h12:Ar K ex H hs) (hk:∀H' hs',BW h H H'→H' h=some (.lst hs')→hs'.length≤hs.length+1→Ar K ex H' hs'→Q (.bl true) H'):Gx ad K [.ref x,.ref l,.ref h,.int way] H Q E:=⟨H0,ex,x,p,d,l,h,k,nm,so,gG,gL,kvs,ys,hs,ks,way,rfl,h0,h1,h2,h3,h4,h5,h6,h7,h8,h9,h10,h11,h12,hk⟩
theorem UO {H:Hp}{Q:VK}{E:XK}{ex:List Addr}{x p d q:Addr}{k:Kd}{nm so key:Str}{g:Str→List Pc}{kvs:List (Key×V)}{its:Bq}{now t a:Int}(h0:BJ ad ex H x p d k nm so g kvs) (h1:(∀c∈ex,∃o,H c=some o)) (h2:k.ok) (h3:OpenK k its now (g key)) (h4:now≤t) (h5:0≤t) (h6:t≤2000000000) (h7:H q=some (.tup [.int t,.str key,.int a])) (h8:(g key).length≤1000) (h9:kvs.length≤1000) (hk:∀H' ps' kvs',BW d H H'→BJ ad ex H' x p d k nm so (E6 g key ps') kvs'→OpenK k (its++[(t,a)]) now ps'→ps'.length≤(g key).length+21→kvs'.length≤kvs.length+1→Q .non H'):MX ad [.ref x,.ref q] H Q E:=⟨ex,x,p,d,q,k,nm,so,key,g,kvs,its,now,t,a,rfl,h0,h1,h2,h3,h4,h5,h6,h7,h8,h9,hk⟩
seal MW Gy Gx MX
inductive LwP (ad:Ad) (K:W.Frag) (a cl kl:Addr) (cv:List V) (zs:List Str) (x p d h:Addr) (kd:Kd) (nm so:Str) (H:Hp) (o8:Option V) (n nh:Nat):St→Prop
 | mk (o7 o9 o10 o11:Option V) (li:Addr) (L:List It3) (xs:List V) (g:Str→List Pc) (kvs:List (Key×V)) (hs:List V) (now:Int) (I:Lw ad K cl kl cv zs x p d h kd nm so n nh H li L xs g kvs hs now):LwP ad K a cl kl cv zs x p d h kd nm so H o8 n nh [some (.ref a),some (.ref p),some (.ref kl),some (.ref x),some (.ref li),some (.ref h),some (.int now),o7,o8,o9,o10,o11]
theorem S8 (T:Tx K mg ad):A9 P w K mg base CX0 depth ad.Jf ad.Ja ["_law_script"] (Kf K):=by
 have G_ucell_at:=Gp.UN (P:=P) (w:=w) (base:=base) T
 have G_ustep_by:=Py (P:=P) (w:=w) (base:=base) T
 have G_ukeys_by:=P0 (P:=P) (w:=w) (base:=base) T
 have G_Group___init__:=P1 (P:=P) (w:=w) (base:=base) T
 have G_Group_put:=Rb (P:=P) (w:=w) (base:=base) T
 have G_udue:=Ra (P:=P) (w:=w) (base:=base) T
 have G_uclosed:=Mm (P:=P) (w:=w) (base:=base) T
 have G_ustands:=Ml (P:=P) (w:=w) (base:=base) T
 refine T.Jh.ok PL (fun vs H Q E h=>?_) (fun cdv A outer s H vs Q E hr h=>?_)
 ·obtain ⟨a,ns,rfl,_⟩:=h
  rfl
 ·obtain ⟨a,ns,rfl,eS,hl,k⟩:=h
  have nd:=PL.nd
  refine ⟨_,(AV (AX (i:=1) nd rfl (Or.inl rfl) (Af G_ustep_by (hr.mono (by decide)) (by rfl) T.Mt T.CN.kp T.ND .nil As (AA (Af G_ucell_at (hr.mono (by decide)) (by rfl) T.EX T.BU.kp T.Eb .nil As (AA (pv 0) (AA AD AE))) (AA (Af G_ucell_at (hr.mono (by decide)) (by rfl) T.EX T.BU.kp T.Eb .nil As (AA (pv 0) (AA AD AE))) AE))))
    (AV (AX (i:=2) nd rfl (Or.inl rfl) (Af G_ukeys_by (hr.mono (by decide)) (by rfl) T.Mu T.CO.kp T.NF .nil As (AA (Af G_ucell_at (hr.mono (by decide)) (by rfl) T.EX T.BU.kp T.Eb .nil As (AA (pv 0) (AA AD AE))) AE)))
    (AV (AX (i:=3) nd rfl (Or.inl rfl) (RQ T.P7 G_Group___init__ (hr.mono (by decide)) (by rfl) T.QC T.HV .nil As (AA (pv 1) AE)))
    (AV (AX (i:=4) nd rfl (Or.inl rfl) (Ax AE))
    (AV (AX (i:=5) nd rfl (Or.inl rfl) (Ax AE))
    (AV (AX (i:=6) nd rfl (Or.inr rfl) (AN (Al (K:=K)) (Ax (AA AD (AA AD (AA AD AE)))) (AL Ap (Af G_ucell_at (hr.mono (by decide)) (by rfl) T.EX T.BU.kp T.Eb .nil As (AA (pv 0) (AA AD AE))) AD) (fun _ _=>rfl)))
    (AV (Dq PassesOwn.never rfl (Ai (K:=K) (DH (E2 (K:=K)) (pv 0) (DZ AD) (DZ AD))) (BM (i:=7) nd rfl (Or.inl rfl))
    (AV (AX (i:=8) nd rfl (Or.inl rfl) (AL Ap (AL F0 (pv 7) AD) AD))
    (AV (AX (i:=9) nd rfl (Or.inl rfl) (AN (Al (K:=K)) (Ax (AA (AL Ap (AL Aq (pv 8) AD) AD) (AA (AL C8 (AL BF (AN (AI (K:=K)) (pv 1) AD (fun _ _=>rfl)) (AL Ap (AL Aq (pv 8) AD) AD)) AD) (AA (AL Ap (AL Aq (pv 8) AD) AD) AE)))) (AL Ap (AL Aq (pv 8) AD) AD) (fun _ _=>rfl)))
    (AV (AX (i:=10) nd rfl (Or.inl rfl) (Af G_udue (hr.mono (by decide)) (by rfl) T.Mv T.Eo.kp T.NG .nil As (AA (pv 1) (AA (pv 4) (AA (pv 6) AE)))))
    (AV (E7 (Be (Ah C5 (AL Ap (pv 8) AD) AD (Ak _))
    (AO (AX (i:=4) nd rfl (Or.inl rfl) (Ax AE))
    (AJ (Be (ES (DG (Af G_uclosed (hr.mono (by decide)) (by rfl) T.G8 T.Bx.kp T.HU .nil As (AA (pv 3) (AA (pv 1) (AA (pv 10) (AA E8 (AA (pv 5) (AA (AL Aq (pv 8) AD) AE)))))))))
    (AJ (Ae Hs))
    A4)))
    (AJ (Be (Ah C5 (AL Ap (pv 8) AD) AD (Ak _))
    (AV (AX (i:=6) nd rfl (Or.inr rfl) (Ab (HS rfl) (by rfl) T.Fg PyProof.Rows.boot_max (AA (pv 6) (AA (Ab (Fd rfl) (by rfl) T.Ew PyProof.Rows.boot_min (AA AD (AA (AL C8 (AL BF (AN (Al (K:=K)) (Ax (AA (pv 6) (AA (AN (AI (K:=K)) (AN (Al (K:=K)) (AL FD (Ax (AA (A8 (AA (pv 6) AE)) AE)) (pv 4)) (JD Fp AD) (fun _ _=>rfl)) AD (fun _ _=>rfl)) AE))) (AL Ap (AL Aq (pv 8) AD) AD) (fun _ _=>rfl)) (pv 9)) AD) AE))) AE))))
    (AJ (Be (ES (DG (Af G_uclosed (hr.mono (by decide)) (by rfl) T.G8 T.Bx.kp T.HU .nil As (AA (pv 3) (AA (pv 1) (AA (BN (osc:=AM LZ) [("_law_now", 6)] rfl (Ai (K:=K) (pv 10)) rfl rfl (by decide +kernel) (by decide +kernel) (by decide +kernel) ⟨rfl,rfl,trivial⟩ rfl (by decide +kernel) (fun _ _ _ _=>DY (Ah NY (AN (AI (K:=K)) (pv 0) AD (fun _ _=>rfl)) (pv 1) (Ak _))) (fun _ _ _ _=>(pv 0))) (AA (pv 6) (AA (pv 5) (AA (AL Aq (pv 8) AD) AE)))))))))
    (AJ (Ae Hs))
    A4)))
    (AV (AX (i:=11) nd rfl (Or.inl rfl) (AL F0 (AL C8 (AL Ap (AL Aq (pv 8) AD) AD) AD) (AN (Al (K:=K)) (Ax (AA AD (AA (AL Sx AD AD) AE))) (AL Aq (AL Ap (AL Aq (pv 8) AD) AD) AD) (fun _ _=>rfl))))
    (AV (Bu (Cb (K:=K) F.plainAttrs_list F.slot_list_append F.type_list_append BX (pv 4) (AA (A8 (AA (Ab (HS rfl) (by rfl) T.Fg PyProof.Rows.boot_max (AA (pv 6) (AA (Ab (Fd rfl) (by rfl) T.Ew PyProof.Rows.boot_min (AA AD (AA (AL BF (pv 6) (pv 9)) AE))) AE))) (AA (AN (Al (K:=K)) (pv 2) (AL Ap (AL Aq (pv 8) AD) (Ab (BB (K:=K)) (by rfl) T.Er PySem.boot_len (AA (pv 2) AE))) (fun _ _=>rfl)) (AA (pv 11) AE)))) AE)))
    (AJ (Be (Ah RV (II (pv 3) T.A1 T.Kt G_Group_put (hr.mono (by decide)) T.MK .nil As (AA (AN (Al (K:=K)) (pv 4) (JD Fp AD) (fun _ _=>rfl)) AE)) E8 (Ak _))
    (AJ (Ae Hs))
    A4))))))))
    (AJ (Ko (Be (ES (DG (Af G_ustands (hr.mono (by decide)) (by rfl) T.KD T.CW.kp T.KW .nil As (AA (pv 3) (AA (Af G_udue (hr.mono (by decide)) (by rfl) T.Mv T.Eo.kp T.NG .nil As (AA (pv 1) (AA (pv 4) (AA (pv 6) AE)))) (AA (pv 5) (AA (AL Ap (AL Aq (pv 8) AD) AD) AE)))))))
    (AJ (Ae Hs))
    A4))))))))
    (AO (Be (PW.pt (Iz (ES (DG (Af G_uclosed (hr.mono (by decide)) (by rfl) T.G8 T.Bx.kp T.HU .nil As (AA (pv 3) (AA (pv 1) (AA (Af G_udue (hr.mono (by decide)) (by rfl) T.Mv T.Eo.kp T.NG .nil As (AA (pv 1) (AA (pv 4) (AA (pv 6) AE)))) (AA E8 (AA (pv 5) (AA AD AE))))))))) (G4 (ES (DG (Af G_ustands (hr.mono (by decide)) (by rfl) T.KD T.CW.kp T.KW .nil As (AA (pv 3) (AA (Ax AE) (AA (pv 5) (AA AD AE))))))))))
    (AJ (Ae Hs))
    A4)
    (AJ (Ae (EU (JG (K:=K) hr.Gs) (BN (osc:=AM LZ) [] rfl (Ai (K:=K) (pv 5)) rfl rfl (by decide +kernel) (by decide +kernel) (by decide +kernel) trivial rfl (by decide +kernel) (fun _ _ _ _=>DY (Ah (Mj (K:=K) hr.units) (AN (AI (K:=K)) (pv 0) AD (fun _ _=>rfl)) (AN (AI (K:=K)) (pv 0) AD (fun _ _=>rfl)) (Ak _))) (fun _ _ _ _=>(pv 0))) (Ax AE) (Ak _)))))))))))),?_⟩
  have sz:sizeLine=16777216:=sizeLine_eq
  refine fun _ _ _ _ k1=>⟨_,rfl,a,ns,_,rfl,eS,by decide,hl,fun c0=>⟨_,rfl,a,ns,_,rfl,eS,by decide,hl,fun c1=>⟨c0,c1,rfl,fun H1 p kd nm so s1 hp0 st hk hso snm=>k1 _ _ ?_⟩⟩⟩
  refine fun _ _ _ _ k2=>⟨_,rfl,a,ns,_,rfl,s1.seq eS,by decide,hl,fun c2=>⟨c2,rfl,fun H2 kl zs s2 hkl ekl lzs szs=>k2 _ _ ?_⟩⟩
  have s02:=s1.trans s2
  have st2:Dl H2 p kd nm so:=s2 _ _ st
  refine fun _ _ _ _ k3=>⟨_,rfl,fun x dx hx hdx ndx=>⟨x,dx,p,rfl,AB,fun d hd=>⟨rfl,k3 _ _ ?_⟩⟩⟩
  have ndx2:d≠x:=(AK AB hd).symm
  have hd2:H2 d=none:=by
   rw [AF ndx2] at hd
   by_cases e:d=dx
   ·rw [e] at hd;rw [AB] at hd;cases hd
   ·rw [AF e] at hd;exact hd
  have s3:AH H2 (upd (upd (upd (upd (upd H2 dx (.own x)) x (.ins ad.AU dx [])) x (.ins ad.AU dx [("step", .ref p)])) d (.dK [])) x (.ins ad.AU dx [("step", .ref p),("rows", .ref d)])):=(((((AH.refl H2).Fo hdx).Fo hx).Fo hx).Fo hd2).Fo hx
  have ex3:(upd (upd (upd (upd (upd H2 dx (.own x)) x (.ins ad.AU dx [])) x (.ins ad.AU dx [("step", .ref p)])) d (.dK [])) x (.ins ad.AU dx [("step", .ref p),("rows", .ref d)])) x=some (.ins ad.AU dx [("step", .ref p),("rows", .ref d)]):=AB
  have ed3:(upd (upd (upd (upd (upd H2 dx (.own x)) x (.ins ad.AU dx [])) x (.ins ad.AU dx [("step", .ref p)])) d (.dK [])) x (.ins ad.AU dx [("step", .ref p),("rows", .ref d)])) d=some (.dK []):=by rw [AF ndx2];exact AB
  generalize (upd (upd (upd (upd (upd H2 dx (.own x)) x (.ins ad.AU dx [])) x (.ins ad.AU dx [("step", .ref p)])) d (.dK [])) x (.ins ad.AU dx [("step", .ref p),("rows", .ref d)]))=H3 at s3 ex3 ed3 ⊢
  refine fun _ _ _ _ k4=>⟨Nat.zero_le _,fun li hli=>k4 _ _ fun _ _ _ _ k5=>⟨Nat.zero_le _,fun h hh=>k5 _ _ ?_⟩⟩
  have s4:=AH.AW (o:=.lst []) hli
  have eli:(upd H3 li (.lst [])) li=some (.lst []):=AB
  generalize upd H3 li (.lst [])=H4 at s4 eli hh ⊢
  have s5:=AH.AW (o:=.lst []) hh
  have ehh:(upd H4 h (.lst [])) h=some (.lst []):=AB
  generalize upd H4 h (.lst [])=H5 at s5 ehh ⊢
  refine fun _ _ _ _ k6=>⟨Nat.le_of_ble_eq_true rfl,fun q hq=>?_⟩
  have s6:=AH.AW (o:=.lst [.int 0,.int 0,.int 999900000]) hq
  have eq:(upd H5 q (.lst [.int 0,.int 0,.int 999900000])) q=some (.lst [.int 0,.int 0,.int 999900000]):=AB
  generalize upd H5 q (.lst [.int 0,.int 0,.int 999900000])=H6 at s6 eq ⊢
  have s26:=s3.trans (s4.trans (s5.trans s6))
  refine ⟨_,rfl,a,ns,_,rfl,(s02.trans s26).seq eS,by decide,hl,fun c3=>?_⟩
  obtain ⟨v,hv,mv⟩:=Dk [V.int 0,V.int 0,V.int 999900000] 3 rfl (by decide) c3
  obtain ⟨now0,rfl,nn0,nn1⟩:∃m:Int,v=.int m/\0≤m/\m≤1000000000:=by
   simp only [List.mem_cons,List.not_mem_nil,or_false] at mv
   rcases mv with rfl|rfl|rfl <;> exact ⟨_,rfl,by decide,by decide⟩
  refine ⟨_,_,rfl,rfl,(by decide:(0:Int)<3),q,_,_,_,rfl,rfl,SqL.of eq,hv,k6 _ _ ?_⟩
  refine fun _ _ _ _ k7=>⟨_,rfl,_,rfl,_,rfl,a,_,rfl,(s02.trans s26).seq eS,fun cl hcl=>?_⟩
  have mcut:∀y∈F8 (ns.map V.int) (some 4) (some 34),∃c:Int,y=.int c:=fun y hy=>by
   obtain ⟨c,_,rfl⟩:=List.mem_map.mp (QB hy)
   exact ⟨c,rfl⟩
  have lcut:(F8 (ns.map V.int) (some 4) (some 34)).length≤30:=Oo _
  generalize hcv:F8 (ns.map V.int) (some 4) (some 34)=cv at lcut mcut
  have s7:=AH.AW (o:=.lst cv) hcl
  have ecl:(upd H6 cl (.lst cv)) cl=some (.lst cv):=AB
  have nli:li≠h:=AK eli hh
  have ncl:cl≠li:=(AK ((s5.trans s6) _ _ eli) hcl).symm
  have nch:cl≠h:=(AK (s6 _ _ ehh) hcl).symm
  have nkl:kl≠li:=AK (s3 _ _ ekl) hli
  have nkh:kl≠h:=AK ((s3.trans s4) _ _ ekl) hh
  generalize upd H6 cl (.lst cv)=H7 at s7 ecl ⊢
  have s27:=s26.trans s7
  have s37:=s4.trans (s5.trans (s6.trans s7))
  have gr7:BJ ad [li,h] H7 x p d kd nm so (fun _=>[]) []:=⟨⟨dx,s37 _ _ ex3⟩,s27 _ _ st2,s37 _ _ ed3,.nil,fun q hq=>(by cases hq),fun key hk=>absurd rfl hk⟩
  have I7:Lw ad K cl kl cv zs x p d h kd nm so 0 0 H7 li [] [] (fun _=>[]) [] [] now0 :=
   { cells:=ecl,keys:=s27 _ _ ekl,gr:=gr7,its:=(s5.trans (s6.trans s7)) _ _ eli,rws:=EM _,len:=Nat.zero_le _,tm:=fun i hi=>(by cases hi),ky:=fun i hi=>(by cases hi),op:=fun z=>GU _ _,held:=fun v hv=>(by cases hv),eh:=(s6.trans s7) _ _ ehh,lh:=Nat.le_refl _,lk:=Nat.le_refl _,n0:=nn0,n1:=nn1,nlh:=nli,ncl:=ncl,nch:=nch,nkl:=nkl,nkh:=nkh }
  refine ⟨cl,rfl,⟨_,SqL.of ecl⟩,B8 (K:=K) (xs:=cv) (fun n σ H'=>∃o8,LwP ad K a cl kl cv zs x p d h kd nm so H' o8 n (2 * n) σ)
   ⟨none,.mk none none none none li [] [] _ [] [] now0 I7⟩ (fun n σ H' _ ⟨_,I⟩=>by cases I with|mk _ _ _ _ _ _ _ _ _ _ _ I=>exact SqL.of I.cells) ?_ ?_⟩
  ·rintro n y σ Ha hy ⟨o8,o7,o9,o10,o11,li,L,xs,g,kvs,hs,now,I⟩
   have hn:n<cv.length:=(List.getElem?_eq_some_iff.mp hy).1
   have hn:n<30:=Nat.lt_of_lt_of_le hn lcut
   clear nn0 nn1 hl lcut
   obtain ⟨c,rfl⟩:=mcut y (List.mem_of_getElem? hy)
   refine fun _ _ _ _ k8=>⟨_,rfl,_,_,rfl,rfl,.inr ⟨by decide,by decide⟩,_,_,rfl,rfl,(by decide:(0:Int)<2147483647),k8 [some (.ref a),some (.ref p),some (.ref kl),some (.ref x),some (.ref li),some (.ref h),some (.int now),some (.int c),some (.int (c * 48271 % 2147483647)),o9,o10,o11] _ ?_⟩
   generalize c * 48271 % 2147483647=M
   obtain ⟨m4,h4⟩:=Q0 kd nm so
   refine fun _ _ _ _ k9=>⟨_,rfl,_,_,rfl,rfl,⟨by decide,by decide⟩,_,_,rfl,rfl,(by decide:(0:Int)<12),_,rfl,p,_,_,_,rfl,rfl,SqT.of I.gr.step,h4,_,rfl,_,_,rfl,rfl,⟨by decide,by decide⟩,_,_,rfl,rfl,(by decide:(0:Int)<3),_,_,rfl,rfl,_,_,rfl,rfl,_,rfl,_,_,rfl,rfl,⟨by decide,by decide⟩,_,_,rfl,rfl,(by decide:(0:Int)<1001),Nat.le_of_ble_eq_true rfl,fun q hq=>?_⟩
   obtain ⟨v,hv,mv⟩:=Dk [V.int (M / 4 % 12),V.int (m4+M / 4 % 3-1),V.int (M / 4 % 1001)] 3 rfl (by decide) (M / 48)
   obtain ⟨B,rfl⟩:∃B:Int,v=.int B:=by
    simp only [List.mem_cons,List.not_mem_nil,or_false] at mv
    rcases mv with rfl|rfl|rfl <;> exact ⟨_,rfl⟩
   have t1:=AH.AW (o:=.lst [V.int (M / 4 % 12),V.int (m4+M / 4 % 3-1),V.int (M / 4 % 1001)]) hq
   have eq:(upd Ha q (.lst [V.int (M / 4 % 12),V.int (m4+M / 4 % 3-1),V.int (M / 4 % 1001)])) q=some (.lst [V.int (M / 4 % 12),V.int (m4+M / 4 % 3-1),V.int (M / 4 % 1001)]):=AB
   refine ⟨_,rfl,_,_,rfl,rfl,⟨by decide,by decide⟩,_,_,rfl,rfl,(by decide:(0:Int)<3),q,_,_,_,rfl,rfl,SqL.of eq,hv,k9 _ _ ?_⟩
   have Ib:=I.same t1
   generalize upd Ha q (.lst [V.int (M / 4 % 12),V.int (m4+M / 4 % 3-1),V.int (M / 4 % 1001)])=Hb at Ib ⊢
   have lL:=Ib.len
   have lkv:=Ib.lk
   have lhs:=Ib.lh
   refine fun _ _ _ _ k10=>⟨_,rfl,_,rfl,_,rfl,P8 Ib.gr.step hk Ib.its Ib.rws (by omega) Ib.tm Ib.n0 (fun Hc dl ys gL ks sc hdl edl du srt ndk mks opL lenL=>k10 _ _ ?_)⟩
   have Ic:=Ib.same sc
   have tell:=Kc hk Ic.op opL srt ndk mks
   have lenG:∀z,(g z).length≤840:=Io tell lenL
   have strk:=Ic.strs mks
   have lks:=Ic.Kw ndk mks
   have lwith:=GD lenL ks
   have starts:∀z,(g z).Pairwise fun a b=>a.1<b.1:=fun z=>Hu hk (Ic.op z)
   refine fun _ _ _ _ k11=>IB (fun σ' H'=>LwP ad K a cl kl cv zs x p d h kd nm so H' (some (.int M)) (n+1) (2 * n+1) σ') ?_ ?_
   ·refine ⟨_,rfl,_,_,rfl,rfl,(by decide:(0:Int)<36),rfl,_,rfl,Fl (fun e=>?_) fun e=>?_⟩
    ·refine ⟨Nat.zero_le _,fun l2 hl2=>?_⟩
     have t2:=AH.AW (o:=.lst []) hl2
     have sub2:∀c∈[l2,h],c∈[l2,li,h]:=fun c hc=>by simp at hc ⊢;rcases hc with hc|hc <;> simp [hc]
     have gr2:=((Ic.gr.grow hl2).sub sub2).same t2
     have held2:=((Ic.held.grow hl2).sub sub2).same t2
     have th2:∀c∈[l2,h],∃o,(upd Hc l2 (.lst [])) c=some o:=fun c hc=>by
      simp only [List.mem_cons,List.not_mem_nil,or_false] at hc
      rcases hc with rfl|rfl
      ·exact ⟨_,AB⟩
      ·exact ⟨_,t2 _ _ Ic.eh⟩
     refine ⟨_,rfl,_,rfl,_,rfl,_,rfl,_,rfl,_,_,rfl,rfl,⟨by decide,by decide⟩,JN (now:=none) gr2 th2 (by simp) hso (by omega) (fun z=>Nat.le_trans (lenG z) (by decide)) starts (t2 _ _ edl) (du.same t2) (by omega) (Gu none tell) snm strk (t2 _ _ Ic.eh) (by omega) held2 (fun H' hs' kvs' F eh' lh' held' gr' lk'=>?_)⟩
     exact ⟨_,rfl,D7 (.mk _ _ _ o11 l2 [] [] _ kvs' hs' now (Ic.anew hl2 F eh' (by omega) held' gr' (by omega) (fun z=>rfl) (by omega)))⟩
    ·refine ⟨_,rfl,_,_,rfl,rfl,(by decide:(0:Int)<4),rfl,_,rfl,Fl (fun e=>?_) fun e=>?_⟩
     ·refine fun _ _ _ _ k16=>⟨_,rfl,_,rfl,_,rfl,Nat.le_of_ble_eq_true rfl,fun t ht=>⟨Nat.le_of_ble_eq_true rfl,fun l1 hl1=>?_⟩⟩
      have u1:=AH.AW (o:=.tup [.int now]) ht
      have et:(upd Hc t (.tup [.int now])) t=some (.tup [.int now]):=AB
      generalize upd Hc t (.tup [.int now])=Hd at u1 et hl1 ⊢
      have u2:=AH.AW (o:=.lst [.ref t]) hl1
      have el1:(upd Hd l1 (.lst [.ref t])) l1=some (.lst [.ref t]):=AB
      generalize upd Hd l1 (.lst [.ref t])=He at u2 el1 ⊢
      have ce:=u1.trans u2
      have lxs:xs.length≤100:=by rw [Ic.rws.len,List.length_map];omega
      refine ⟨_,rfl,l1,li,_,_,rfl,rfl,el1,ce _ _ Ic.its,by simp;omega,fun l3 hl3=>?_⟩
      have u3:=AH.AW (o:=.lst ([.ref t]++xs)) hl3
      have el3:(upd He l3 (.lst ([.ref t]++xs))) l3=some (.lst ([.ref t]++xs)):=AB
      generalize upd He l3 (.lst ([.ref t]++xs))=Hf at u3 el3 ⊢
      have cf:=ce.trans u3
      obtain ⟨b,ts,t0,eb1,eb2,eb3⟩:=OW ((u2.trans u3) _ _ et) (Ic.rws.keep cf.tp)
      refine ⟨_,rfl,l3,_,_,_,rfl,rfl,SqL.of el3,eb1,b,_,_,_,rfl,rfl,SqT.of eb2,eb3,Nat.le_of_ble_eq_true rfl,fun l5 hl5=>?_⟩
      have u4:=AH.AW (o:=.lst [.int now,.int t0]) hl5
      have el5:(upd Hf l5 (.lst [.int now,.int t0])) l5=some (.lst [.int now,.int t0]):=AB
      generalize upd Hf l5 (.lst [.int now,.int t0])=Hg at u4 el5 ⊢
      have cg:=cf.trans u4
      obtain ⟨v,hv,mv⟩:=Dk [V.int now,V.int t0] 2 rfl (by decide) (M / 144)
      obtain ⟨X,rfl⟩:∃B:Int,v=.int B:=by
       simp only [List.mem_cons,List.not_mem_nil,or_false] at mv
       rcases mv with rfl|rfl <;> exact ⟨_,rfl⟩
      refine ⟨_,rfl,_,_,rfl,rfl,⟨by decide,by decide⟩,_,_,rfl,rfl,(by decide:(0:Int)<2),l5,_,_,_,rfl,rfl,SqL.of el5,hv,_,rfl,_,_,rfl,rfl,_,_,rfl,rfl,_,_,rfl,_,_,rfl,k16 [some (.ref a),some (.ref p),some (.ref kl),some (.ref x),some (.ref li),some (.ref h),some (.int (if (if X+B-4<1000000000 then X+B-4 else 1000000000) > now then (if X+B-4<1000000000 then X+B-4 else 1000000000) else now)),some (.int c),some (.int M),some (.int B),some (.ref dl),o11] _ ?_⟩
      have Ig:=Ic.same cg
      have bn:now≤(if (if X+B-4<1000000000 then X+B-4 else 1000000000) > now then (if X+B-4<1000000000 then X+B-4 else 1000000000) else now)/\(if (if X+B-4<1000000000 then X+B-4 else 1000000000) > now then (if X+B-4<1000000000 then X+B-4 else 1000000000) else now)≤1000000000:=by
       have:=Ic.n1
       (repeat' split) <;> constructor <;> omega
      generalize (if (if X+B-4<1000000000 then X+B-4 else 1000000000) > now then (if X+B-4<1000000000 then X+B-4 else 1000000000) else now)=nw at bn ⊢
      refine ⟨_,rfl,_,rfl,_,rfl,dl,rfl,⟨_,SqL.of (cg _ _ edl)⟩,?_⟩
      have dug:=du.same cg
      have ly:=dug.len
      refine Bw (K:=K) (xs:=ys) (fun n τ acc H'=>(∃o,τ=[o,some (.int nw)])/\H'=Hg/\DuS Hb Hg acc (((AZ gL ks).take n).filter fun kp=>decide (kp.2.2.1≤nw))) (by omega) ⟨⟨none,rfl⟩,rfl,.nil⟩ (fun n τ acc H' ⟨_,e,_⟩=>by rw [e];exact SqL.of (cg _ _ edl)) ?_ ?_
      ·rintro i y τ acc H' R1 R0 hy _ ⟨⟨o,rfl⟩,rfl,hp⟩ k1 k0
       obtain ⟨lp,f⟩:=AQ dug
       have hi:i<(AZ gL ks).length:=by have:=(List.getElem?_eq_some_iff.mp hy).1;omega
       have ep:=List.getElem?_eq_getElem hi
       obtain ⟨b',l',rfl,ea,e0,el',ne⟩:=f i _ _ hy ep
       have fs:=Bn (p:=fun kp:Str×Pc=>decide (kp.2.2.1≤nw)) ep
       refine ⟨_,rfl,b',_,_,_,rfl,rfl,SqT.of ea,AG (j:=2) rfl,_,rfl,_,_,rfl,rfl,_,rfl,JS (fun e=>⟨_,rfl,k1 _ _ _ ⟨⟨_,rfl⟩,rfl,?_⟩⟩) fun e=>k0 _ _ ⟨⟨_,rfl⟩,rfl,?_⟩⟩
       ·rw [if_pos (decide_eq_true e)] at fs
        rw [fs];exact Ag hp (.cons ⟨b',l',rfl,ea,e0,el',ne⟩ .nil)
       ·have e':¬ (decide ((AZ gL ks)[i].2.2.1≤nw)=true):=fun q=>e (of_decide_eq_true q)
        rw [if_neg e',List.append_nil] at fs
        rw [fs];exact hp
      rintro τ y1 H' ly1 ⟨_,rfl,hp1⟩ r1 hr1
      rw [List.take_of_length_le (by omega),Jr] at hp1
      have u5:=AH.AW (o:=.lst y1) hr1
      have er1:(upd H' r1 (.lst y1)) r1=some (.lst y1):=AB
      have hp5:=hp1.same u5
      have lo:(AZ (fun z=>B7 (some nw) (gL z)) ks).length≤100000:=by rw [←hp1.len];omega
      have I5:=Ig.same u5
      generalize upd H' r1 (.lst y1)=H5' at u5 er1 hp5 I5 ⊢
      refine ⟨_,rfl,_,rfl,_,rfl,_,_,rfl,rfl,⟨by decide,by decide⟩,JN (now:=some nw) I5.gr I5.there (by simp) hso (by omega) (fun z=>Nat.le_trans (lenG z) (by decide)) starts er1 hp5 lo (Gu (some nw) tell) snm strk I5.eh (by omega) I5.held (fun H'' hs' kvs' F eh' lh' held' gr' lk'=>?_)⟩
      exact ⟨_,rfl,D7 (.mk _ _ _ o11 li L xs _ kvs' hs' _ (I5.to F eh' (by omega) held' gr' (by omega) (fun z=>Mi hk bn.1 (I5.op z)) (Int.le_trans I5.n0 bn.1) bn.2 (by omega)))⟩
     ·have bx:0≤M / 1728 % 201/\M / 1728 % 201<201:=⟨Int.emod_nonneg _ (by decide),Int.emod_lt_of_pos _ (by decide)⟩
      obtain ⟨A2,hv2⟩:∃A2:Int,atI [V.int 1,V.int (10 ^ 20)] (M / 3 % 5 / 4)=some (.int A2):=by
       have b5:0≤M / 3 % 5/\M / 3 % 5<5:=⟨Int.emod_nonneg _ (by decide),Int.emod_lt_of_pos _ (by decide)⟩
       rcases (by omega:M / 3 % 5 / 4=0\/M / 3 % 5 / 4=1) with e5|e5
       ·rw [e5];exact ⟨1,AG (j:=0) rfl⟩
       ·rw [e5];exact ⟨10 ^ 20,AG (j:=1) rfl⟩
      refine fun _ _ _ _ k20=>⟨_,rfl,_,_,rfl,rfl,⟨by decide,by decide⟩,_,_,rfl,rfl,(by decide:(0:Int)<201),_,_,rfl,rfl,_,_,rfl,rfl,⟨by decide,by decide,by decide⟩,Nat.le_of_ble_eq_true rfl,fun q2 hq2=>?_⟩
      have u1:AH Hc (upd Hc q2 (.lst [.int 1,.int (10 ^ 20)])):=AH.AW hq2
      have eq2:(upd Hc q2 (.lst [.int 1,.int (10 ^ 20)])) q2=some (.lst [.int 1,.int (10 ^ 20)]):=AB
      refine ⟨_,rfl,_,_,rfl,rfl,⟨by decide,by decide⟩,_,_,rfl,rfl,(by decide:(0:Int)<5),_,_,rfl,rfl,⟨by decide,by decide⟩,q2,_,_,_,rfl,rfl,SqL.of eq2,hv2,_,_,rfl,rfl,.inl ⟨by omega,by omega⟩,k20 _ _ ?_⟩
      have I1:=Ic.same u1
      have lxs:xs.length≤100:=by rw [Ic.rws.len,List.length_map];omega
      have zpos:(0:Int)<((zs.map V.str).length:Int):=by rw [List.length_map];omega
      obtain ⟨v,hv,mv⟩:=Dk (zs.map V.str) ((zs.map V.str).length:Int) rfl zpos (M / 144)
      obtain ⟨z,hz,rfl⟩:=List.mem_map.mp mv
      have bt:now≤(if (if now+B<1000000000 then now+B else 1000000000) > now then (if now+B<1000000000 then now+B else 1000000000) else now)/\(if (if now+B<1000000000 then now+B else 1000000000) > now then (if now+B<1000000000 then now+B else 1000000000) else now)≤1000000000:=by
       have:=Ic.n1
       (repeat' split) <;> constructor <;> omega
      have n0:=Ic.n0
      refine fun _ _ _ _ k21=>⟨_,rfl,.inl ⟨rfl,_,SqL.of I1.its⟩,_,rfl,_,rfl,_,rfl,_,_,rfl,rfl,_,_,rfl,_,_,rfl,_,rfl,_,rfl,_,_,rfl,rfl,⟨by decide,by decide⟩,_,rfl,kl,_,rfl,.inl (SqL.of I1.keys),_,_,rfl,rfl,zpos,kl,_,_,_,rfl,rfl,SqL.of I1.keys,hv,_,rfl,Nat.le_of_ble_eq_true rfl,fun tq htq=>?_⟩
      have u2:AH (upd Hc q2 (.lst [.int 1,.int (10 ^ 20)])) (upd (upd Hc q2 (.lst [.int 1,.int (10 ^ 20)])) tq (.tup [.int (if (if now+B<1000000000 then now+B else 1000000000) > now then (if now+B<1000000000 then now+B else 1000000000) else now),.str z,.int ((M / 1728 % 201-100) * A2)])):=AH.AW htq
      have etq:(upd (upd Hc q2 (.lst [.int 1,.int (10 ^ 20)])) tq (.tup [.int (if (if now+B<1000000000 then now+B else 1000000000) > now then (if now+B<1000000000 then now+B else 1000000000) else now),.str z,.int ((M / 1728 % 201-100) * A2)])) tq=some (.tup [.int (if (if now+B<1000000000 then now+B else 1000000000) > now then (if now+B<1000000000 then now+B else 1000000000) else now),.str z,.int ((M / 1728 % 201-100) * A2)]):=AB
      have I2:=I1.same u2
      refine ⟨li,_,_,rfl,rfl,I2.its,by omega,k21 _ _ ?_⟩
      have gr3:=I2.gr.lists (o:=.lst (xs++[.ref tq])) I2.its (by simp)
      have etq3:(upd (upd (upd Hc q2 (.lst [.int 1,.int (10 ^ 20)])) tq (.tup [.int (if (if now+B<1000000000 then now+B else 1000000000) > now then (if now+B<1000000000 then now+B else 1000000000) else now),.str z,.int ((M / 1728 % 201-100) * A2)])) li (.lst (xs++[.ref tq]))) tq=some (.tup [.int (if (if now+B<1000000000 then now+B else 1000000000) > now then (if now+B<1000000000 then now+B else 1000000000) else now),.str z,.int ((M / 1728 % 201-100) * A2)]):=by
       rw [AF (AK I1.its htq).symm]
       exact etq
      obtain ⟨dx3,eo3⟩:=gr3.obj
      have th3:∀bb∈[li,h],∃o,(upd (upd (upd Hc q2 (.lst [.int 1,.int (10 ^ 20)])) tq (.tup [.int (if (if now+B<1000000000 then now+B else 1000000000) > now then (if now+B<1000000000 then now+B else 1000000000) else now),.str z,.int ((M / 1728 % 201-100) * A2)])) li (.lst (xs++[.ref tq]))) bb=some o:=fun bb hc=>by
       simp only [List.mem_cons,List.not_mem_nil,or_false] at hc
       rcases hc with rfl|rfl
       ·exact ⟨_,AB⟩
       ·exact ⟨_,by rw [AF I2.nlh.symm];exact I2.eh⟩
      refine ⟨_,rfl,x,dx3,_,rfl,eo3,rfl,_,rfl,_,rfl,li,_,_,_,rfl,rfl,SqL.of AB,EH _ _,UO gr3 th3 hk (I2.op z) bt.1 (by omega) (by omega) etq3 (Nat.le_trans (lenG z) (by decide)) (by omega) (fun H' ps' kvs' sx gr' op' lp' lk'=>?_)⟩
      exact ⟨rfl,_,rfl,U1 (UR rfl (.mk _ _ _ _ li _ _ _ kvs' hs now (I2.put etq (by omega) bt.2 (szs z hz) sx gr' op' (by omega) (by omega))))⟩
   ·rintro σ' Hd ⟨o7,o9,o10,o11',li,L,xs,g,kvs,hs,now,Id⟩
    refine k11 _ _ fun _ _ _ _ k24=>?_
    have lL':=Id.len
    have lkv':=Id.lk
    have lhs':=Id.lh
    refine ⟨_,rfl,_,rfl,_,rfl,_,rfl,P8 Id.gr.step hk Id.its Id.rws (by omega) Id.tm Id.n0 (fun He dl2 ys2 gL2 ks2 se hdl2 edl2 du2 srt2 ndk2 mks2 opL2 lenL2=>?_)⟩
    have Ie:=Id.same se
    have tell2:=Kc hk Ie.op opL2 srt2 ndk2 mks2
    have lenG2:∀z,(g z).length≤840:=Io tell2 lenL2
    have lks2:=Ie.Kw ndk2 mks2
    have lwith2:=GD lenL2 ks2
    refine ⟨_,rfl,_,rfl,_,_,rfl,rfl,⟨by decide,by decide⟩,_,_,rfl,rfl,(by decide:(0:Int)<3),Ls Ie.gr Ie.there (by simp) (by omega) (fun z=>Nat.le_trans (lenG2 z) (by decide)) edl2 du2 (by omega) tell2 (Ie.strs mks2) Ie.eh (by omega) Ie.held (fun H' hs' sx eh' lh' held'=>?_)⟩
    exact ⟨_,rfl,D7 (k24 _ _ ⟨_,.mk _ _ _ _ li L xs g kvs hs' now (Ie.to (fun b o nb _ e=>sx b o nb e) eh' (by omega) held' (Ie.grx sx) lkv' Ie.op Ie.n0 Ie.n1 (Nat.le_refl _))⟩)⟩
  ·rintro σ Ha ⟨o8,o7,o9,o10,o11,li,L,xs,g,kvs,hs,now,I⟩
   refine k7 _ _ ?_
   have lL:=I.len
   have lkv:=I.lk
   have lhs:=I.lh
   refine ⟨_,rfl,_,rfl,_,rfl,_,rfl,_,rfl,P8 I.gr.step hk I.its I.rws (by omega) I.tm I.n0 (fun He dl ys gL ks se hdl edl du srt ndk mks opL lenL=>?_)⟩
   have Ie:=I.same se
   have tell:=Kc hk Ie.op opL srt ndk mks
   have lenG:∀z,(g z).length≤840:=Io tell lenL
   have lks:=Ie.Kw ndk mks
   have lwith:=GD lenL ks
   have starts:∀z,(g z).Pairwise fun a b=>a.1<b.1:=fun z=>Hu hk (Ie.op z)
   refine ⟨_,rfl,JN (now:=none) Ie.gr Ie.there (by simp) hso (by omega) (fun z=>Nat.le_trans (lenG z) (by decide)) starts edl du (by omega) (Gu none tell) snm (Ie.strs mks) Ie.eh (by omega) Ie.held (fun H1 hs1 kvs1 F eh1 lh1 held1 gr1 lk1=>?_)⟩
   refine ⟨_,rfl,D7 ?_⟩
   refine ⟨_,rfl,Nat.zero_le _,fun el hel=>?_⟩
   have u1:=AH.AW (o:=.lst []) hel
   have eel:(upd H1 el (.lst [])) el=some (.lst []):=AB
   have gr2:=gr1.same u1
   have held2:=held1.same u1
   have eh2:=u1 _ _ eh1
   have th2:∀bb∈[li,h],∃o,(upd H1 el (.lst [])) bb=some o:=fun bb hc=>by
    simp only [List.mem_cons,List.not_mem_nil,or_false] at hc
    rcases hc with rfl|rfl
    ·exact ⟨_,u1 _ _ (F _ _ Ie.nlh (fun q=>by have:=Ie.its;rw [q,Ie.gr.rows.dict] at this;cases this) Ie.its)⟩
    ·exact ⟨_,eh2⟩
   generalize upd H1 el (.lst [])=H2 at u1 eel gr2 held2 eh2 th2 ⊢
   refine ⟨_,rfl,Ls (H0:=H2) (gL:=fun _=>[]) (ks:=[]) gr2 th2 (by simp) (by omega) (fun z=>Nat.zero_le _) eel .nil (Nat.zero_le _) ⟨fun z=>.nil,.nil,.nil,fun z hz=>absurd rfl hz⟩ (fun z hz=>(by cases hz)) eh2 (by omega) held2 (fun H3 hs3 sx eh3 lh3 held3=>⟨_,rfl,D7 ?_⟩)⟩
   refine ⟨_,rfl,h,rfl,⟨_,SqL.of eh3⟩,?_⟩
   refine Bw (K:=K) (xs:=hs3) (fun n τ acc H'=>(∃o,τ=[o])/\H'=H3/\acc=[]) (by omega) ⟨⟨none,rfl⟩,rfl,rfl⟩ (fun n τ acc H' ⟨_,e,_⟩=>by rw [e];exact SqL.of eh3) ?_ ?_
   ·rintro i y τ acc H' R1 R0 hy _ ⟨⟨o,rfl⟩,rfl,rfl⟩ k1 k0
    obtain ⟨q,r,r',xs',rfl,eq,n1,n2,e2,e3,dd⟩:=held3 y (List.mem_of_getElem? hy)
    obtain ⟨D,d1,d2⟩:=dd H' (Tp.refl _)
    exact ⟨_,rfl,q,_,_,_,rfl,rfl,SqT.of eq,AG (j:=0) rfl,_,rfl,q,_,_,_,rfl,rfl,SqT.of eq,AG (j:=1) rfl,JM (.lst (SqL.of e2) d1) (.lst (SqL.of e3) d1) d2 ⟨_,rfl,D7 (k0 _ _ ⟨⟨_,rfl⟩,rfl,rfl⟩)⟩⟩
   ·rintro τ acc H' _ ⟨_,rfl,rfl⟩ r hr'
    exact ⟨Nat.zero_le _,fun e1 he1=>⟨r,e1,[],rfl,rfl,SqL.of ((AH.AW he1) _ _ AB),SqL.of AB,k _⟩⟩
theorem all_mk {l:W.OpenLaw}{w:World}{K:W.Frag}{mg:Str→Option Value}{fa:Addr}{ad:Ad}(hfa:mg "law" = some (.ref fa)) (T:Tx K mg ad)
  : ∃fd:FuncData,(∀(s:Shared) (v:Value),BindsTo s fd ⟨[v],[]⟩ [("_law_script", v)])/\∀base:Heap,K.In base→base.Ns mainGlobals mg→A9 l.prog w K mg base CX0 depth fa fd ["_law_script"] (Kf K):=by
 have e:=hfa.symm.trans T.UP
 cases e
 obtain ⟨_,_,_,_,_,_,_,_,_,e,_,_⟩:=T.Jh.ex
 exact ⟨ad.Ja,fun s v=>by rw [e];exact .of_eq rfl,fun base _ _=>S8 T⟩
end K14
def PySem.W.Fast.tw6579303094284220215:Unit:=()
def PySem.W.Fast.tw12020524684511541245:Unit:=()
def PySem.W.Fast.tw6914525804823952225:Unit:=()
def PySem.W.Fast.tw3823128057910705831:Unit:=()
def PySem.W.Fast.tw6793284334217542234:Unit:=()
def PySem.W.Fast.tw11046621434589831594:Unit:=()
def PySem.W.Fast.tw17736591944428046958:Unit:=()
def PySem.W.Fast.tw17351687303728697921:Unit:=()
def PySem.W.Fast.tw7714150136074768824:Unit:=()
def PySem.W.Fast.tw7815916575323315313:Unit:=()
def PySem.W.Fast.tw362115401812576614:Unit:=()
def PySem.W.Fast.tw6675461012301534287:Unit:=()
def PySem.W.Fast.tw5729362710348613486:Unit:=()
def PySem.W.Fast.tw9118396728620164574:Unit:=()
def PySem.W.Fast.tw5299092031205719027:Unit:=()
def PySem.W.Fast.tw10157298852623464424:Unit:=()
def PySem.W.Fast.tw11656369074451816342:Unit:=()
def PySem.W.Fast.tw15521706028772179648:Unit:=()
def PySem.W.Fast.tw9998585985242402840:Unit:=()
def PySem.W.Fast.tw5411273842863750872:Unit:=()
def PySem.W.Fast.tw13324856846820712681:Unit:=()
def PySem.W.Fast.tw9425552118898205669:Unit:=()
def PySem.W.Fast.tw1004048903942690412:Unit:=()
def PySem.W.Fast.tw17069663847175082752:Unit:=()
def PySem.W.Fast.tw10378991425421760809:Unit:=()
def PySem.W.Fast.tw13495969973260255705:Unit:=()
def PySem.W.Fast.tw2748903086149911352:Unit:=()
def PySem.W.Fast.tw10845546201629328390:Unit:=()
def PySem.W.Fast.tw71931827013006569:Unit:=()
def PySem.W.Fast.tw6893252689843876251:Unit:=()
def PySem.W.Fast.tw16492439406590851349:Unit:=()
def PySem.W.Fast.tw4905346978470304404:Unit:=()
def PySem.W.Fast.tw4389680780069124502:Unit:=()
def PySem.W.Fast.tw8904692578213143196:Unit:=()
def PySem.W.Fast.tw7749538527171764112:Unit:=()
def PySem.W.Fast.tw13177408853116617255:Unit:=()
def PySem.W.Fast.tw6007655984094722946:Unit:=()
def PySem.W.Fast.tw10761194172838865726:Unit:=()
def PySem.W.Fast.tw9387974503105053698:Unit:=()
def PySem.W.Fast.tw555881929682915022:Unit:=()
def PySem.W.Fast.tw16704830319832966077:Unit:=()
def PySem.W.Fast.tw8597308929455130871:Unit:=()
def PySem.W.Fast.tw16968715797012959488:Unit:=()
def PySem.W.Fast.tw8753435178171363579:Unit:=()
def PySem.W.Fast.tw2623374662490925940:Unit:=()
def PySem.W.Fast.tw4938518098794517383:Unit:=()
def PySem.W.Fast.tw14315384957939001131:Unit:=()
def PySem.W.Fast.tw11749084740170154808:Unit:=()
def PySem.W.Fast.tw11094188970039005376:Unit:=()
def PySem.W.Fast.tw9102024123865667034:Unit:=()
def PySem.W.Fast.tw6378357486375079376:Unit:=()
def PySem.W.Fast.tw11365946020870115185:Unit:=()
def PySem.W.Fast.tw830591752241777009:Unit:=()
def PySem.W.Fast.tw5313251535386487890:Unit:=()
def PySem.W.Fast.tw16167991041801517931:Unit:=()
def PySem.W.Fast.tw9449752454930389847:Unit:=()
def PySem.W.Fast.tw6112765758940671713:Unit:=()
def PySem.W.Fast.tw17251099536471111364:Unit:=()
def PySem.W.Fast.tw2906369305822381504:Unit:=()
def PySem.W.Fast.tw8793780373401945726:Unit:=()
def PySem.W.Fast.tw13115662272551635908:Unit:=()
def PySem.W.Fast.tw812712065787140521:Unit:=()
def PySem.W.Fast.tw734501350348000948:Unit:=()
def PySem.W.Fast.tw1753530310142742504:Unit:=()
def PySem.W.Fast.tw13685096454673701311:Unit:=()
def PySem.W.Fast.tw9949860281651005046:Unit:=()
def PySem.W.Fast.tw18007012358107617253:Unit:=()
def PySem.W.Fast.tw12616691511210909431:Unit:=()
def PySem.W.Fast.tw4217620676957978045:Unit:=()
def PySem.W.Fast.tw6121470310664684946:Unit:=()
def PySem.W.Fast.tw16380454503570904221:Unit:=()
def PySem.W.Fast.tw10092609146376866078:Unit:=()
def PySem.W.Fast.tw6221843690470873271:Unit:=()
def PySem.W.Fast.tw1946118237364352656:Unit:=()
def PySem.W.Fast.tw11554393809461346062:Unit:=()
def PySem.W.Fast.tw6339539605270965600:Unit:=()
def PySem.W.Fast.tw1766017904481864665:Unit:=()
def PySem.W.Fast.tw3714053121061049858:Unit:=()
def PySem.W.Fast.tw10985476741733445557:Unit:=()
open PySem PySem.W PyProof.Rows
set_option maxRecDepth 100000 in
set_option maxHeartbeats 0 in
theorem PySem.Challenge.cw_brooktally_k14_whole_a_group_holds : PySem.Challenge.rw_brooktally_k14_whole_a_group.Holds := by
  w_on; o_law; k_head; (case hw => w_witness2)
  k_fill
  refine L2.O0 (l := PySem.Challenge.rw_brooktally_k14_whole_a_group) (n := 63) (k := K14.depth) (x := "_law_script") (CX := L2.CX0) (sp := K14.Kf) rfl (by decide) rfl ⟨rfl,by decide,by decide⟩ (fun w h Y => PySem.W.kIn_of Y) ?F K14.TK (fun _ _ _ _ z => z)
  case F =>
    intro w mg fa h KX G hmg
    refine' K14.all_mk hmg (K14.To KX G ?Eh ?Ep ?Bo ?Br ?DL ?DR ?Eg ?Dm ?CI ?Bs ?Ei ?Dp ?Ee ?El ?BA ?BP ?CJ ?CP ?Cv ?Cw ?DO ?DU ?DN ?DT ?DM ?DS ?CK ?Cy ?a_Group ?Ao ?A3 ?Bp ?Bt ?BS ?BV ?Bc ?Bd ?BI ?BK ?CH ?BU ?CG ?CO ?CD ?CN ?CC ?CM ?DJ ?DP ?GB ?Eo ?DK ?DQ ?Ef ?Em ?Ct ?CW ?Cu ?Bx ?Jf ?Jh ?pg_Group ?hd_Group ?po_Group ?sa_Group ?Bb ?An ?fn_Group___init__ ?fn_Group_put ?fn_Group_close ?fn_Group_take ?fn_Group_pieces ?mks_Group ?kp_Group ?D8 ?l_TALLIES ?IU ?IT ?BL ?Er ?DE ?Fg ?Ew ?EJ ?LD ?B0 ?Jq ?GC)
    (case Eh | Bo | DL | Eg | CI | Ei | Ee | BA | CJ | Cv | DO | DN | DM | CK | a_Group | Ao | Bp | BS | Bc | BI | CH | CG | CD | CC | DJ | GB | DK | Ef | Ct | Cu | Jf | pg_Group | hd_Group | po_Group | sa_Group | Bb | An | fn_Group___init__ | fn_Group_put | fn_Group_close | fn_Group_take | fn_Group_pieces | mks_Group | kp_Group | D8 | l_TALLIES | IU | IT | BL | Er | DE | Fg | Ew | EJ | LD | B0 | Jq | GC => k_is)
    (case Ep | Br | DR | Dm | Bs | Dp | El | BP | CP | Cw | DU | DT | DS | Cy | A3 | Bt | BV | Bd | BK | BU | CO | CN | CM | DP | Eo | DQ | Em | CW | Bx | Jh => refine' L2.Tc ?l ?c ?k; (case l => k_is); (case c => k_is); (case k => k_is))
