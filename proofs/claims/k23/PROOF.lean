import PyProof.Rows.All
import Wide.All
import OpenK.AllK
import Wide.FinOn
import Lean
import PyProof.EqAt
import PyProof.EqKinds
import PyProof.TupleCall
import PySem.Challenge.RW_brooktally_k23_lines_that_are_no_keep
set_option Elab.async false
set_option linter.all false
set_option maxRecDepth 100000
set_option maxHeartbeats 4000000
namespace L2
open PySem PySem.Spec PyProof.Rows
abbrev Key:=Sum Int Str
def Il:Key→Value→Bool
 | .inl k,v=>Value.isInt k v
 | .inr x,v=>Value.isStrOf x v
def aI (w:World):Key→Int
 | .inl k=>hashInt k
 | .inr x=>hashStr w x
theorem A7:∀{k:Key}{v:Value},Il k v=true→(∃i t,k=Sum.inl i/\v=Value.int i t)\/(∃x t,k=Sum.inr x/\v=Value.str x t)
 | .inl i,v,h=>by
  obtain ⟨t,e⟩:=Value.isInt_shape (k:=i) (v:=v) h
  exact .inl ⟨i,t,rfl,e⟩
 | .inr x,v,h=>by
  obtain ⟨t,e⟩:=Value.isStrOf_shape (x:=x) (v:=v) h
  exact .inr ⟨x,t,rfl,e⟩
theorem T8 (i:Int) (t:Tok):Il (.inl i) (.int i t)=true:=by simp [Il,Value.isInt]
theorem T7 (x:Str) (t:Tok):Il (.inr x) (.str x t)=true:=by simp [Il,Value.isStrOf]
theorem Yy (a b:Int):decide ((Sum.inl a:Key)=Sum.inl b)=(a==b):=by
 by_cases e:a=b
 ·subst e;simp
 ·have h:¬ (Sum.inl a:Key)=Sum.inl b:=fun q=>e (Sum.inl.inj q)
  rw [decide_eq_false h]
  exact (beq_eq_false_iff_ne.mpr e).symm
theorem Yv (a b:Str):decide ((Sum.inr a:Key)=Sum.inr b)=decide (a=b):=by
 by_cases e:a=b
 ·subst e;simp
 ·have h:¬ (Sum.inr a:Key)=Sum.inr b:=fun q=>e (Sum.inr.inj q)
  rw [decide_eq_false h,decide_eq_false e]
theorem Yx (a:Int) (b:Str):decide ((Sum.inl a:Key)=Sum.inr b)=false:=decide_eq_false (fun q=>nomatch q)
theorem Yw (a:Str) (b:Int):decide ((Sum.inr a:Key)=Sum.inl b)=false:=decide_eq_false (fun q=>nomatch q)
def A5 (prog:Program) (w:World):PySem.KeyKind prog w Key where
 is:=Il
 hash:=aI w
 inj:=fun v a b ha hb=>by
  rcases A7 ha with ⟨i,t,rfl,rfl⟩|⟨x,t,rfl,rfl⟩
  ·rcases A7 hb with ⟨j,u,rfl,e⟩|⟨y,u,rfl,e⟩
   ·injection e with e1 _;rw [e1]
   ·exact nomatch e
  ·rcases A7 hb with ⟨j,u,rfl,e⟩|⟨y,u,rfl,e⟩
   ·exact nomatch e
   ·injection e with e1 _;rw [e1]
 byValue:=fun k v h=>by
  rcases A7 h with ⟨i,t,rfl,rfl⟩|⟨x,t,rfl,rfl⟩ <;> rfl
 pyHash:=fun hv h=>by
  rcases A7 hv with ⟨i,t,rfl,rfl⟩|⟨x,t,rfl,rfl⟩
  ·exact wpAny_pyHash_int h
  ·exact wpAny_pyHash_str h
 eqBool:=fun hu hv h=>by
  rcases A7 hu with ⟨i,t,rfl,rfl⟩|⟨x,t,rfl,rfl⟩
  ·rcases A7 hv with ⟨j,u,rfl,rfl⟩|⟨y,u,rfl,rfl⟩
   ·rw [Yy] at h;exact wpAny_eqBool_int h
   ·rw [Yx] at h;exact SeqAt.EqAt.int_str i t y u _ _ _ _ h
  ·rcases A7 hv with ⟨j,u,rfl,rfl⟩|⟨y,u,rfl,rfl⟩
   ·rw [Yw] at h;exact SeqAt.EqAt.str_int x t j u _ _ _ _ h
   ·rw [Yv] at h;exact wpAny_eqBool_str h
 «strs»:=fun k x t v h=>by
  rcases A7 h with ⟨i,u,rfl,e⟩|⟨y,u,rfl,e⟩
  ·exact nomatch e
  ·injection e with e1 _
   subst e1
   cases v <;> rfl
theorem QU (prog:Program) (w:World) (i:Int) (t:Tok):(A5 prog w).is (.inl i) (.int i t)=true:=T8 i t
theorem QT (prog:Program) (w:World) (x:Str) (t:Tok):(A5 prog w).is (.inr x) (.str x t)=true:=T7 x t
end L2
namespace L2
open PySem PySem.Spec PyProof.Rows
inductive V where
 | non|bl (b:Bool)|int (i:Int)|str (x:Str)|byt (b:Array UInt8)|flt (b:UInt64)|ref (a:Addr)|ty (n:String)
 deriving DecidableEq
def RelV:V→Value→Prop
 | .non,u=>u=Value.none
 | .bl b,u=>u=Value.bool b
 | .int i,u=>∃t,u=Value.int i t
 | .str x,u=>∃t,u=Value.str x t
 | .byt b,u=>∃t,u=Value.bytes b t
 | .flt b,u=>∃t,u=Value.float b t
 | .ref a,u=>u=Value.ref a
 | .ty n,u=>u=Value.type n
abbrev Vals:List V→List Value→Prop:=Paired RelV
theorem Vals.length {xs:List V}{us:List Value}(r:Vals xs us):xs.length=us.length:=Paired.length r
theorem Vals.get:∀{xs:List V}{us:List Value}{i:Nat}{x:V},Vals xs us→xs[i]?=some x→∃u,us[i]?=some u/\RelV x u
 | _,_,_,_,.nil,e=>by simp at e
 | _,_,0,_,.cons r _,e=>by simp at e;subst e;exact ⟨_,rfl,r⟩
 | _,_,i+1,x,.cons _ t,e=>by
  obtain ⟨u,h1,h2⟩:=Vals.get (i:=i) (x:=x) t (by simpa using e)
  exact ⟨u,by simpa using h1,h2⟩
theorem Vals.append:∀{xs ys:List V}{us ws:List Value},Vals xs us→Vals ys ws→Vals (xs++ys) (us++ws)
 | _,_,_,_,.nil,s=>s
 | _,_,_,_,.cons r t,s=>.cons r (Vals.append t s)
theorem Vals.take:∀{xs:List V}{us:List Value}(n:Nat),Vals xs us→Vals (xs.take n) (us.take n)
 | _,_,0,_=>.nil
 | _,_,_+1,.nil=>.nil
 | _,_,n+1,.cons r t=>.cons r (Vals.take n t)
theorem Vals.drop:∀{xs:List V}{us:List Value}(n:Nat),Vals xs us→Vals (xs.drop n) (us.drop n)
 | _,_,0,r=>r
 | _,_,_+1,.nil=>.nil
 | _,_,n+1,.cons _ t=>Vals.drop n t
def GY:Option V→Option Value→Prop
 | some v,some u=>RelV v u
 | none,none=>True
 | _,_=>False
def KV {κ:Type}:List (κ×V)→List (κ×Value)→Prop:=Paired fun (p:κ×V) (q:κ×Value)=>p.1=q.1/\RelV p.2 q.2
def kV:Key→V
 | .inl i=>.int i
 | .inr x=>.str x
inductive HO where
 | lst (xs:List V)
 | tup (xs:List V)
 | dK (kvs:List (Key×V))|dT (kvs:List (List Key×V))
 | set (S:Int→Bool) (n:Nat)
 | ins (C dx:Addr) (fs:List (Str×V))
 | own (x:Addr)
 | xd (fs:List (Str×V))
 | met (f x:Addr)
 | rng (lo hi:Int)
 | frz (o:Obj) (u:HO)
 | tbl (ps:Array Value)
 | ext (φ:Heap→Prop)
abbrev Hp:=Addr→Option HO
def upd (H:Hp) (a:Addr) (o:HO):Hp:=fun b=>if b=a then some o else H b
theorem AG {H:Hp}{a:Addr}{o:HO}:upd H a o a=some o:=by unfold upd;rw [if_pos rfl]
theorem AM {H:Hp}{a b:Addr}{o:HO}(h:b≠a):upd H a o b=H b:=by unfold upd;rw [if_neg h]
theorem Z9 {H:Hp}{a b:Addr}{o u:HO}(h:H a=some o) (h':H b=some u) (d:o≠u):a≠b:=by
 intro e;subst e;rw [h] at h';exact d (Option.some.inj h')
theorem Af {H:Hp}{a b:Addr}{o:HO}(h:H a=some o) (h':H b=none):a≠b:=by
 intro e;subst e;rw [h] at h';cases h'
section
variable (P:Program) (w:World)
def BJ (H:Hp) (h:Heap) (a:Addr):HO→Prop
 | .lst xs=>xs.length≤sizeLine/\∃(its:List Value) (n:Nat),Vals xs its/\h.get? a=some { cls:=.type "list", data:=.seq its.toArray n }
 | .tup xs=>xs.length≤sizeLine/\∃its:List Value,Vals xs its/\IsTup h a its.toArray
 | .dK kvs=>kvs.length≤sizeLine/\(a==sysModules)=false/\∃vs,KV kvs vs/\h.DictOf (A5 P w) a vs
 | .dT kvs=>kvs.length≤sizeLine/\(a==sysModules)=false/\∃xs:List (List Key×Addr×Value),
   Paired (fun (p:List Key×V) (q:List Key×Addr×Value)=>p.1=q.1/\H q.2.1=some (.tup (p.1.map kV))/\RelV p.2 q.2.2) kvs xs /\
   ∃o es ep,h.get? a=some o/\o.ExactDict/\o.data=.dict es ep/\es.toList=xs.map (entryOfKey (tupleKind (A5 P w)))/\(xs.map (·.1)).Nodup
 | .set S n=>h.SetOf (intKind P w) a S n
 | .ins C dx fs=>H dx=some (.own a)/\fs.length≤1000/\dx≠a/\h.get? a=some (PySem.W.instObj C dx) /\
   ∃mA,h.Ns1 dx mA/\(∀f,GY (fs.lookup f) (mA f))/\PySem.Within mA (fs.map (·.1))
 | .own _=>∃o,h.get? a=some o
 | .xd fs=>∃mA,h.Ns1 a mA/\∀f,GY (fs.lookup f) (mA f)
 | .rng lo hi=>∃t u v,h.get? a=some { cls:=.type "range", data:=.fields #[.int lo t,.int hi u,.int 1 v] }
 | .frz o u=>h.get? a=some o/\BJ H h a u
 | .tbl ps=>h.get? a=some { cls:=.none,data:=.fields ps }
 | .met f x=>h.get? a=some (PySem.W.methodObj (.ref f) (.ref x))
 | .ext φ=>φ h/\(∃o,h.get? a=some o)/\∀h1 h2:Heap,φ h1→(∀o,h1.get? a=some o→h2.get? a=some o)→φ h2
def HOk (H:Hp) (h:Heap):Prop:=∀a o,H a=some o→BJ P w H h a o
end
section
variable {P:Program}{w:World}{H H':Hp}{h h':Heap}{a:Addr}{o:HO}
theorem BJ.lt (x:BJ P w H h a o):a<h.objs.size:=by
 cases o with
 | lst xs=>obtain ⟨_,_,_,_,e⟩:=x;exact Heap.lt_size e
 | tup xs=>obtain ⟨_,_,_,p⟩:=x;exact p.lt
 | dK kvs=>obtain ⟨_,_,_,_,o,_,_,e,_⟩:=x;exact Heap.lt_size e
 | dT kvs=>obtain ⟨_,_,_,_,o,_,_,e,_⟩:=x;exact Heap.lt_size e
 | set S n=>obtain ⟨o,_,_,_,e,_⟩:=x;exact Heap.lt_size e
 | ins C dx fs=>obtain ⟨_,_,_,e,_⟩:=x;exact Heap.lt_size e
 | own y=>obtain ⟨_,e⟩:=x;exact Heap.lt_size e
 | xd fs=>obtain ⟨_,⟨_,_,_,e,_⟩,_⟩:=x;exact Heap.lt_size e
 | rng lo hi=>obtain ⟨_,_,_,e⟩:=x;exact Heap.lt_size e
 | frz ob u=>obtain ⟨e,_⟩:=x;exact Heap.lt_size e
 | tbl ps=>exact Heap.lt_size (show h.get? a=some _ from x)
 | met f y=>exact Heap.lt_size (show h.get? a=some _ from x)
 | ext φ=>obtain ⟨_,⟨_,e⟩,_⟩:=x;exact Heap.lt_size e
theorem Paired.Yn {α β:Type}{F G:α→β→Prop}:∀{l₁:List α}{l₂:List β},Paired F l₁ l₂→(∀a b,F a b→G a b)→Paired G l₁ l₂
 | _,_,.nil,_=>.nil
 | _,_,.cons r t,f=>.cons (f _ _ r) (Paired.Yn t f)
theorem BJ.KU (x:BJ P w H h a o) (k:∀b u,(b=a\/H b=some (.own a))→h.get? b=some u→h'.get? b=some u)
  (ho:∀b,H b=some (.own a)→H' b=some (.own a)) (ht:∀b xs,H b=some (.tup xs)→H' b=some (.tup xs)):BJ P w H' h' a o:=by
 induction o with
 | lst xs=>obtain ⟨z,its,n,r,e⟩:=x;exact ⟨z,its,n,r,k _ _ (.inl rfl) e⟩
 | tup xs=>obtain ⟨z,its,r,ob,e,c⟩:=x;exact ⟨z,its,r,ob,k _ _ (.inl rfl) e,c⟩
 | dK kvs=>obtain ⟨z,y,vs,r,ob,es,ep,e,c⟩:=x;exact ⟨z,y,vs,r,ob,es,ep,k _ _ (.inl rfl) e,c⟩
 | dT kvs =>
  obtain ⟨z,y,xs,r,ob,es,ep,e,c⟩:=x
  exact ⟨z,y,xs,Paired.Yn r fun p q z=>⟨z.1,ht _ _ z.2.1,z.2.2⟩,ob,es,ep,k _ _ (.inl rfl) e,c⟩
 | set S n=>obtain ⟨ob,es,ep,t,e,c⟩:=x;exact ⟨ob,es,ep,t,k _ _ (.inl rfl) e,c⟩
 | ins C dx fs =>
  obtain ⟨d,z,ne,e,mA,⟨od,es,ep,e2,c⟩,r⟩:=x
  exact ⟨ho _ d,z,ne,k _ _ (.inl rfl) e,mA,⟨od,es,ep,k _ _ (.inr d) e2,c⟩,r⟩
 | own y=>obtain ⟨ob,e⟩:=x;exact ⟨ob,k _ _ (.inl rfl) e⟩
 | xd fs=>obtain ⟨mA,⟨od,es,ep,e,c⟩,r⟩:=x;exact ⟨mA,⟨od,es,ep,k _ _ (.inl rfl) e,c⟩,r⟩
 | rng lo hi=>obtain ⟨t,u,v,e⟩:=x;exact ⟨t,u,v,k _ _ (.inl rfl) e⟩
 | frz ob u ih=>obtain ⟨e,q⟩:=x;exact ⟨k _ _ (.inl rfl) e,ih q⟩
 | tbl ps =>
  have e:h.get? a=some { cls:=.none,data:=.fields ps }:=x
  show h'.get? a=some { cls:=.none,data:=.fields ps }
  exact k a _ (.inl rfl) e
 | met f y =>
  have e:h.get? a=some (PySem.W.methodObj (.ref f) (.ref y)):=x
  show h'.get? a=some (PySem.W.methodObj (.ref f) (.ref y))
  exact k a _ (.inl rfl) e
 | ext φ=>obtain ⟨p,⟨o,e⟩,st⟩:=x;exact ⟨st _ _ p fun o q=>k _ _ (.inl rfl) q,⟨o,k _ _ (.inl rfl) e⟩,st⟩
theorem HOk.lt (x:HOk P w H h) (e:H a=some o):a<h.objs.size:=(x a o e).lt
theorem HOk.fresh (x:HOk P w H h) (e:h.objs.size≤a):H a=none:=by
 cases q:H a with
 | none=>rfl
 | some u=>exact absurd (Nat.lt_of_lt_of_le (x.lt q) e) (Nat.lt_irrefl _)
theorem HOk.kept (x:HOk P w H h) (k:∀b u,h.get? b=some u→h'.get? b=some u):HOk P w H h':=fun a o e =>
 (x a o e).KU (fun b u _ q=>k b u q) (fun _ q=>q) fun _ _ q=>q
theorem HOk.laid (x:HOk P w H h) (k:∀b u,h.get? b=some u→h'.get? b=some u) (hp:h.objs.size≤a) (new:BJ P w (upd H a o) h' a o):HOk P w (upd H a o) h':=fun b u e=>by
 have hn:=x.fresh hp
 by_cases hb:b=a
 ·subst hb;rw [AG] at e;cases e;exact new
 ·rw [AM hb] at e
  exact (x b u e).KU (fun c v _ q=>k c v q) (fun c q=>by rw [AM (Af q hn)];exact q) fun c xs q=>by rw [AM (Af q hn)];exact q
end
def Rd (H:Hp) (a:Addr) (u:HO):Prop:=H a=some u\/∃o,H a=some (.frz o u)
theorem Rd.ok {P:Program}{w:World}{H:Hp}{h:Heap}{a:Addr}{u:HO}(r:Rd H a u) (x:HOk P w H h):BJ P w H h a u:=by
 rcases r with r|⟨o,r⟩
 ·exact x a u r
 ·obtain ⟨_,q⟩:=x a _ r
  exact q
def Mut:Option HO→Prop
 | some (.lst _)=>True
 | some (.dK _)=>True
 | some (.dT _)=>True
 | some (.set _ _)=>True
 | some (.ins _ _ _)=>True
 | some (.ext _)=>True
 | _=>False
section
variable {P:Program}{w:World}{H:Hp}{h h':Heap}{x e:Addr}{o':HO}
theorem HOk.write (ok:HOk P w H h) (mu:Mut (H x)) (he:e=x\/H e=some (.own x)) (k:∀b u,b≠e→h.get? b=some u→h'.get? b=some u) (heo:∃u,h'.get? e=some u)
  (new:BJ P w (upd H x o') h' x o'):HOk P w (upd H x o') h':=fun b u q=>by
 have nown:∀c y,H c=some (.own y)→c≠x:=fun c y r z=>by subst z;rw [r] at mu;exact mu
 have ntup:∀c xs,H c=some (.tup xs)→c≠x:=fun c xs r z=>by subst z;rw [r] at mu;exact mu
 by_cases hb:b=x
 ·subst hb;rw [AG] at q;cases q;exact new
 ·rw [AM hb] at q
  by_cases hbe:b=e
  ·have q':H b=some (.own x):=by
    rcases he with z|z
    ·exact absurd (hbe.trans z) hb
    ·rw [hbe];exact z
   rw [q] at q';cases q'
   obtain ⟨v,hv⟩:=heo
   exact ⟨v,by rw [hbe];exact hv⟩
  ·refine (ok b u q).KU (fun c v hc r=>k c v ?_ r) (fun c r=>by rw [AM (nown c b r)];exact r) fun c xs r=>by rw [AM (ntup c xs r)];exact r
   rcases hc with rfl|hc
   ·exact hbe
   ·rintro rfl
    rcases he with z|z
    ·exact nown c b hc z
    ·rw [hc] at z;cases z;exact hb rfl
end
structure Un (fs ex:List Addr) (H H':Hp) (h h':Heap):Prop where
 keep:∀b o,h.get? b=some o→H b=none→b∉fs→b∉ex→h'.get? b=some o
 slot:∀b o,h.get? b=some o→H b=none→b∈fs→b∉ex→∃sl,h'.get? b=some { o with slots:=sl }
 free:∀b o,h.get? b=some o→H b=none→b∉ex→H' b=none
 there:∀b o,h.get? b=some o→b∉ex→∃o',h'.get? b=some o'
 KP:∀b xs,H b=some (.tup xs)→H' b=some (.tup xs)
 KI:∀b o u,H b=some (.frz o u)→H' b=some (.frz o u)
 KQ:∀b ps,H b=some (.tbl ps)→∃more,H' b=some (.tbl (ps++more))
section
variable {fs fs' ex ex':List Addr}{H H1 H2:Hp}{h h1 h2 h':Heap}{a x e:Addr}{o:HO}
theorem Un.any (u:Un fs ex H H1 h h1) {b:Addr} {ob:Obj} (q:h.get? b=some ob) (n:H b=none) (hx:b∉ex):∃sl,h1.get? b=some { ob with slots:=sl }:=by
 by_cases hb:b∈fs
 ·exact u.slot b ob q n hb hx
 ·exact ⟨ob.slots,u.keep b ob q n hb hx⟩
theorem Un.kept (k:∀b u,h.get? b=some u→h'.get? b=some u):Un fs ex H H h h' :=
 ⟨fun b ob q _ _ _=>k b ob q,fun b ob q _ _ _=>⟨ob.slots,k b ob q⟩,fun _ _ _ n _=>n,fun b ob q _=>⟨ob,k b ob q⟩,fun _ _ q=>q,fun _ _ _ q=>q,fun _ ps q=>⟨#[],by rw [q];simp⟩⟩
theorem Un.refl:Un fs ex H H h h:=Un.kept fun _ _ q=>q
theorem Un.laid (k:∀b u,h.get? b=some u→h'.get? b=some u) (hp:h.objs.size≤a) (hn:H a=none):Un fs ex H (upd H a o) h h' where
 keep:=fun b u q _ _ _=>k b u q
 slot:=fun b u q _ _ _=>⟨u.slots,k b u q⟩
 free:=fun b u q n _=>by rw [AM (Nat.ne_of_lt (Nat.lt_of_lt_of_le (Heap.lt_size q) hp))];exact n
 there:=fun b u q _=>⟨u,k b u q⟩
 KP:=fun b xs q=>by rw [AM (Af q hn)];exact q
 KI:=fun b u xs q=>by rw [AM (Af q hn)];exact q
 KQ:=fun b ps q=>⟨#[],by rw [AM (Af q hn),q];simp⟩
theorem Un.write (mu:Mut (H x)) (he:e=x\/H e=some (.own x)) (k:∀b u,b≠e→h.get? b=some u→h'.get? b=some u) (heo:∃u,h'.get? e=some u):Un fs ex H (upd H x o) h h':=by
 have hx:∀b,H b=none→b≠x:=fun b n z=>by subst z;rw [n] at mu;exact mu
 have hb:∀b,H b=none→b≠e:=fun b n z=>by
  subst z
  rcases he with r|r
  ·exact hx b n r
  ·rw [n] at r;cases r
 have hm:∀b u,H b=some u→¬ Mut (some u)→b≠x:=fun b u q nm z=>by subst z;rw [q] at mu;exact nm mu
 refine ⟨fun b u q n _ _=>k b u (hb b n) q,fun b u q n _ _=>⟨u.slots,k b u (hb b n) q⟩,fun b u q n _=>by rw [AM (hx b n)];exact n,fun b u q _=>?_,
  fun b xs q=>by rw [AM (hm b _ q fun z=>z)];exact q,fun b u xs q=>by rw [AM (hm b _ q fun z=>z)];exact q,fun b ps q=>⟨#[],by rw [AM (hm b _ q fun z=>z),q];simp⟩⟩
 by_cases hbe:b=e
 ·subst hbe;exact heo
 ·exact ⟨u,k b u hbe q⟩
end
def trk (h:Heap) (H:Hp):List Addr:=(List.range h.objs.size).filter fun a=>(H a).isSome
def PX (h:Heap) (H:Hp):Heap:=PySem.W.hideAll h (trk h H)
theorem UA (h:Heap) (H:Hp):(PX h H).objs.size=h.objs.size:=PySem.W.hideAll_size _ _
theorem Vl {h:Heap}{H:Hp}{b:Addr}{o:Obj}(e:h.get? b=some o) (n:H b=none):(PX h H).get? b=some o :=
 PySem.W.hideAll_get _ e fun hm=>by
  have q:(H b).isSome=true:=(List.mem_filter.mp hm).2
  rw [n] at q;simp at q
theorem W3 {h:Heap}{H:Hp}{b:Addr}{o:Obj}(e:(PX h H).get? b=some o):h.get? b=some o/\H b=none:=by
 have e':h.get? b=some o:=PySem.W.of_hideAll (trk h H) e
 refine ⟨e',?_⟩
 cases q:H b with
 | none=>rfl
 | some x =>
  have hm:b∈trk h H:=List.mem_filter.mpr ⟨List.mem_range.mpr (Heap.lt_size e'),by simp [q]⟩
  have z:(PX h H).get? b=none:=PySem.W.hideAll_none (trk h H) hm
  rw [z] at e;cases e
end L2
namespace L2
open PySem PySem.Spec PyProof.Rows
structure Mod (K:PySem.W.Frag) (mg:Str→Option Value) (base:Heap):Prop where
 kin:K.In base
 glob:base.Ns mainGlobals mg
 blt:∃mb,base.Ns builtinsNs mb/\∀x:Str,x ≠ "__name__" → mb x=bootBuiltins x
 nolimit:base.NoLimit
structure Cx where
 prog:Program
 w:World
 K:PySem.W.Frag
 mg:Str→Option Value
 base:Heap
 A:Around
 N:List Str
 s₀:Shared
 H₀:Hp
 env:Env
 outer:List Env
 stack:List Env
 ex:List Addr
 fn:Str→Bool
 calm:Bool
 pn:List (Addr×Obj)
 xe:Value→Shared→Prop
def frs (l:List Env):List Addr:=l.filterMap (·.frame)
abbrev Cx.fs (X:Cx):List Addr:=frs X.outer
def Vis (sc:Scope) (x:Str):Prop:=sc.names.lookup x=some .local\/sc.names.lookup x=some .cell\/sc.names.lookup x=some .free
def Loc (sc:Scope) (x:Str):Prop:=sc.names.lookup x=some .local\/sc.names.lookup x=some .cell
def Look (env:Env) (h:Heap) (m:Str→Option Value) (x:Str) (u:Value):Prop :=
 (env.kindOf x=some .local/\m x=some u)\/((env.kindOf x=some .cell\/env.kindOf x=some .free)/\∃c,env.cells.lookup x=some c/\h.IsCell c (some u))
structure Cx.Ok (X:Cx):Prop where
 mod:Mod X.K X.mg X.base
 kind:X.env.scope.kind=.function
 glob:X.env.globals=mainGlobals
 blt:X.env.builtins=builtinsNs
 above:X.s₀.heap.objs.size≤X.env.locals
 inj:∀x y c,X.env.cells.lookup x=some c→X.env.cells.lookup y=some c→x=y
 has:∀x,(X.env.kindOf x=some .cell\/X.env.kindOf x=some .free)→∃c,X.env.cells.lookup x=some c
 cab:∀x c,X.fn x=true→X.env.cells.lookup x=some c→X.s₀.heap.objs.size≤c
 hd:X.calm=true→X.A.handled=none
 frames:X.A.frames=some X.stack
 stk:X.stack=X.outer\/(X.stack=X.env::X.outer/\X.env.frame=some X.env.locals)
 exf:∀b∈X.ex,b≠X.env.locals/\∀x c,X.env.cells.lookup x=some c→c≠b
 bs:∀b o,X.base.get? b=some o→X.s₀.heap.get? b=some o/\X.H₀ b=none
 bsz:X.base.objs.size≤X.s₀.heap.objs.size
 QS:∀b o,X.base.get? b=some o→b∉X.ex
 Qr:∀b∈X.ex,b∉X.fs
 Io:X.s₀.heap.FunFrames X.base X.outer
 frf:∀b∈X.fs,X.H₀ b=none
structure Inv (X:Cx) (pins:List (Addr×Obj)) (σ:List (Option V)) (H:Hp) (s:Shared):Prop where
 ok:X.Ok
 os:s.os=X.s₀.os
 bare:AllBare s.gens
 base:Un X.fs X.ex X.H₀ H X.s₀.heap s.heap
 loc:∃m,s.heap.Ns X.env.locals m/\∀(i:Nat) (x:Str) (v:V),X.N[i]?=some x→σ[i]?=some (some v)→Vis X.env.scope x→∃u,RelV v u/\Look X.env s.heap m x u
 cell:∀x c,X.env.cells.lookup x=some c→∃v,s.heap.IsCell c v
 free:H X.env.locals=none
 Fy:∀x c,X.env.cells.lookup x=some c→H c=none
 pin:∀p∈X.pn++pins,s.heap.get? p.1=some p.2/\H p.1=none/\p.1≠X.env.locals/\p.1∉X.fs/\∀v,p.2.data≠.cell v
 hok:HOk X.prog X.w H s.heap
 len:σ.length=X.N.length
section
variable {X:Cx}{pins:List (Addr×Obj)}{σ:List (Option V)}{H H':Hp}{s:Shared}{h':Heap}
theorem Cx.Ok.cA (ok:X.Ok) {b:Addr}{o:Obj}(e:X.base.get? b=some o):b∉X.fs:=fun hb=>by
 have:=(ok.Io.mem hb).1
 rw [e] at this;cases this
theorem Inv.bs (I:Inv X pins σ H s):∀b o,X.base.get? b=some o→s.heap.get? b=some o/\H b=none:=fun b o e =>
 ⟨I.base.keep b o (I.ok.bs b o e).1 (I.ok.bs b o e).2 (I.ok.cA e) (I.ok.QS b o e),I.base.free b o (I.ok.bs b o e).1 (I.ok.bs b o e).2 (I.ok.QS b o e)⟩
theorem Inv.bk (I:Inv X pins σ H s):∀b o,X.base.get? b=some o→s.heap.get? b=some o:=fun b o e=>(I.bs b o e).1
theorem Inv.mod (I:Inv X pins σ H s):Mod X.K X.mg X.base:=I.ok.mod
theorem Inv.kIn (I:Inv X pins σ H s):X.K.In s.heap:=I.ok.mod.kin.keeps I.bk
theorem Inv.lt (I:Inv X pins σ H s):X.env.locals<s.heap.objs.size:=let ⟨_,hn,_⟩:=I.loc;hn.lt
theorem Inv.sz (I:Inv X pins σ H s):X.s₀.heap.objs.size≤s.heap.objs.size:=Nat.le_trans I.ok.above (Nat.le_of_lt I.lt)
theorem Inv.bZ (I:Inv X pins σ H s) {a:Addr}(h:s.heap.objs.size≤a):a∉X.fs:=fun hb=>by
 obtain ⟨_,o,ho,_⟩:=I.ok.Io.mem hb
 exact absurd (Nat.lt_of_lt_of_le (Heap.lt_size ho) (Nat.le_trans I.sz h)) (Nat.lt_irrefl _)
theorem Inv.cne (I:Inv X pins σ H s):∀x c,X.env.cells.lookup x=some c→c≠X.env.locals:=fun x c e z=>by
 obtain ⟨v,o,ho,hd⟩:=I.cell x c e
 obtain ⟨m,⟨o',es,ep,ho',hd',_⟩,_⟩:=I.loc
 rw [z,ho'] at ho;cases ho;rw [hd'] at hd;cases hd
theorem Inv.Io (I:Inv X pins σ H s):s.heap.FunFrames X.base X.outer:=by
 have all:∀(l:List Env),(∀b∈frs l,b∈X.fs)→X.s₀.heap.FunFrames X.base l→s.heap.FunFrames X.base l:=by
  intro l
  induction l with
  | nil=>intro _ _;trivial
  | cons env r ih =>
   intro hs hl
   obtain ⟨hk,⟨L,o,hf,hn,ho,hd⟩,hr⟩:=hl
   have hL:L∈X.fs:=hs L (by unfold frs;rw [List.filterMap_cons,hf];exact List.mem_cons_self)
   obtain ⟨sl,e⟩:=I.base.slot L o ho (I.ok.frf L hL) hL fun z=>I.ok.Qr L z hL
   exact ⟨hk,⟨L,_,hf,hn,e,hd⟩,ih (fun b hb=>hs b (by unfold frs;rw [List.filterMap_cons,hf];exact List.mem_cons_of_mem _ hb)) hr⟩
 exact all X.outer (fun _ hb=>hb) I.ok.Io
theorem Inv.stack (I:Inv X pins σ H s):s.heap.FunFrames X.base X.stack:=by
 rcases I.ok.stk with e|⟨e,hf⟩
 ·rw [e];exact I.Io
 ·rw [e]
  obtain ⟨m,hn,_⟩:=I.loc
  refine .cons (by rw [I.ok.kind];decide) hf hn ?_ I.Io
  exact Heap.get?_none_of_le (Nat.le_trans I.ok.bsz I.ok.above)
theorem Inv.Ou (I:Inv X pins σ H s):∀b∈frs X.stack,b∈X.env.locals::X.fs:=fun b hb=>by
 rcases I.ok.stk with e|⟨e,hf⟩
 ·rw [e] at hb;exact List.mem_cons_of_mem _ hb
 ·rw [e] at hb
  unfold frs at hb
  rw [List.filterMap_cons,hf] at hb
  exact hb
theorem Inv.Ov (I:Inv X pins σ H s):∀b∈frs X.stack,H b=none:=fun b hb=>by
 rcases List.mem_cons.mp (I.Ou b hb) with e|hb
 ·rw [e];exact I.free
 ·obtain ⟨_,o,ho,_⟩:=I.ok.Io.mem hb
  exact I.base.free b o ho (I.ok.frf b hb) fun z=>I.ok.Qr b z hb
theorem Inv.step {g':Array GenState}{t':Nat}{d':Drawn}{ch:List Addr}(I:Inv X pins σ H s)
  (hch:∀b∈ch,(b∈X.ex\/X.s₀.heap.objs.size≤b)/\b≠X.env.locals/\(∀x c,X.env.cells.lookup x=some c→c≠b)/\∀p∈X.pn++pins,p.1≠b)
  (keep:∀b o,b≠X.env.locals→b∉X.fs→b∉ch→s.heap.get? b=some o→H b=none→h'.get? b=some o)
  (slot:∀b o,b≠X.env.locals→b∈X.fs→b∉ch→s.heap.get? b=some o→H b=none→∃sl,h'.get? b=some { o with slots:=sl }) (free:∀b o,b∉ch→s.heap.get? b=some o→H b=none→H' b=none)
  (there:∀b o,b∉ch→s.heap.get? b=some o→∃o',h'.get? b=some o')
  (KP:∀b xs,H b=some (.tup xs)→H' b=some (.tup xs)) (KI:∀b o u,H b=some (.frz o u)→H' b=some (.frz o u)) (KQ:∀b ps,H b=some (.tbl ps)→∃more,H' b=some (.tbl (ps++more)))
  (ns:∀m,s.heap.Ns X.env.locals m→h'.Ns X.env.locals m) (hok:HOk X.prog X.w H' h') (hg:AllBare g') :
  Inv X pins σ H' { s with heap:=h',gens:=g',drawn:=d',toks:=t' }:=by
 have neL:∀b o,X.s₀.heap.get? b=some o→b≠X.env.locals:=fun b o e=>Nat.ne_of_lt (Nat.lt_of_lt_of_le (Heap.lt_size e) I.ok.above)
 have neC:∀b o,X.s₀.heap.get? b=some o→b∉X.ex→b∉ch:=fun b o e hx hb=>by
  rcases (hch b hb).1 with z|z
  ·exact hx z
  ·exact absurd (Nat.lt_of_lt_of_le (Heap.lt_size e) z) (Nat.lt_irrefl _)
 have cellK:∀x c,X.env.cells.lookup x=some c→∀v,s.heap.IsCell c v→h'.IsCell c v:=fun x c e v ⟨o,ho,hd⟩=>by
  have nch:c∉ch:=fun z=>(hch c z).2.2.1 x c e rfl
  by_cases hc:c∈X.fs
  ·obtain ⟨sl,q⟩:=slot c o (I.cne x c e) hc nch ho (I.Fy x c e)
   exact ⟨_,q,hd⟩
  ·exact ⟨o,keep c o (I.cne x c e) hc nch ho (I.Fy x c e),hd⟩
 refine ⟨I.ok,I.os,hg,⟨fun b o e n hb hx=>?_,fun b o e n hb hx=>?_,fun b o e n hx=>?_,fun b o e hx=>?_,fun b xs e=>KP b xs (I.base.KP b xs e),fun b o xs e=>KI b o xs (I.base.KI b o xs e),fun b ps e=>?_⟩,?_,fun x c e=>?_,?_,fun x c e=>?_,fun p hp=>?_,hok,I.len⟩
 ·exact keep b o (neL b o e) hb (neC b o e hx) (I.base.keep b o e n hb hx) (I.base.free b o e n hx)
 ·obtain ⟨sl,e1⟩:=I.base.slot b o e n hb hx
  obtain ⟨sl',e2⟩:=slot b _ (neL b o e) hb (neC b o e hx) e1 (I.base.free b o e n hx)
  exact ⟨sl',e2⟩
 ·obtain ⟨o',e1⟩:=I.base.there b o e hx
  exact free b o' (neC b o e hx) e1 (I.base.free b o e n hx)
 ·obtain ⟨o',e1⟩:=I.base.there b o e hx
  exact there b o' (neC b o e hx) e1
 ·obtain ⟨m1,e1⟩:=I.base.KQ b ps e
  obtain ⟨m2,e2⟩:=KQ b _ e1
  exact ⟨m1++m2,by rw [e2,Array.append_assoc]⟩
 ·obtain ⟨m,hn,hl⟩:=I.loc
  refine ⟨m,ns m hn,fun i x v e1 e2 e3=>?_⟩
  obtain ⟨u,r,l⟩:=hl i x v e1 e2 e3
  refine ⟨u,r,?_⟩
  rcases l with l|⟨k,c,e,z⟩
  ·exact .inl l
  ·exact .inr ⟨k,c,e,cellK x c e _ z⟩
 ·obtain ⟨v,z⟩:=I.cell x c e
  exact ⟨v,cellK x c e v z⟩
 ·obtain ⟨m,⟨o,_,_,ho,_⟩,_⟩:=I.loc
  exact free _ o (fun z=>(hch _ z).2.1 rfl) ho I.free
 ·obtain ⟨v,o,ho,hd⟩:=I.cell x c e
  exact free c o (fun z=>(hch c z).2.2.1 x c e rfl) ho (I.Fy x c e)
 ·obtain ⟨e,n,ne,nf,d⟩:=I.pin p hp
  have nch:p.1∉ch:=fun z=>(hch p.1 z).2.2.2 p hp rfl
  exact ⟨keep p.1 p.2 ne nf nch e n,free p.1 p.2 nch e n,ne,nf,d⟩
theorem Inv.un {t':Nat} (I:Inv X pins σ H s) (u:Un X.fs [] H H' s.heap h') (hok:HOk X.prog X.w H' h'):Inv X pins σ H' { s with heap:=h',toks:=t' }:=by
 obtain ⟨m,⟨o,es,ep,ho,r⟩,_⟩:=id I.loc
 obtain ⟨sl,hL⟩:=u.any ho I.free (by simp)
 exact I.step (g':=s.gens) (d':=s.drawn) (ch:=[]) (fun _ z=>nomatch z) (fun b o _ hb _ e n=>u.keep b o e n hb (by simp)) (fun b o _ hb _ e n=>u.slot b o e n hb (by simp)) (fun b o _ e n=>u.free b o e n (by simp)) (fun b o _ e=>u.there b o e (by simp)) u.KP u.KI u.KQ (fun m' hm=>by
  obtain ⟨o',es',ep',ho',r'⟩:=hm
  rw [ho] at ho';cases ho'
  exact ⟨_,es',ep',hL,r'⟩) hok I.bare
theorem Inv.call {g':Array GenState}{t':Nat}{d':Drawn}{ch:List Addr}(I:Inv X pins σ H s) (u:Un (frs X.stack) ch H H' s.heap h') (hok:HOk X.prog X.w H' h') (hg:AllBare g')
  (hch:∀b∈ch,(b∈X.ex\/X.s₀.heap.objs.size≤b)/\b≠X.env.locals/\(∀x c,X.env.cells.lookup x=some c→c≠b)/\∀p∈X.pn++pins,p.1≠b) :
  Inv X pins σ H' { s with heap:=h',gens:=g',drawn:=d',toks:=t' }:=by
 obtain ⟨m,⟨o,es,ep,ho,r⟩,_⟩:=id I.loc
 obtain ⟨sl,hL⟩:=u.any ho I.free fun z=>(hch _ z).2.1 rfl
 exact I.step (ch:=ch) hch (fun b o hL hb hc e n=>u.keep b o e n (fun z=>(List.mem_cons.mp (I.Ou b z)).elim hL hb) hc) (fun b o _ _ hc e n=>u.any e n hc) (fun b o hc e n=>u.free b o e n hc) (fun b o hc e=>u.there b o e hc) u.KP u.KI u.KQ (fun m' hm=>by
  obtain ⟨o',es',ep',ho',r'⟩:=hm
  rw [ho] at ho';cases ho'
  exact ⟨_,es',ep',hL,r'⟩) hok hg
theorem Inv.turned {t':Nat}{it:Addr}(I:Inv X pins σ H s) (k:∀b o,b≠it→s.heap.get? b=some o→h'.get? b=some o) (hn:H it=none) (hL:it≠X.env.locals)
  (h1:it∈X.ex\/X.s₀.heap.objs.size≤it) (h2:∀x c,X.env.cells.lookup x=some c→c≠it) (h3:∀p∈X.pn++pins,p.1≠it):Inv X pins σ H { s with heap:=h',toks:=t' }:=by
 have nit:∀b u,H b=some u→b≠it:=fun b u e z=>by rw [z,hn] at e;cases e
 refine I.step (g':=s.gens) (d':=s.drawn) (ch:=[it]) (fun b hb=>?_) (fun b o _ _ hc e _=>k b o (fun z=>hc (by simp [z])) e) (fun b o _ _ hc e _=>⟨o.slots,k b o (fun z=>hc (by simp [z])) e⟩) (fun _ _ _ _ n=>n)
  (fun b o hc e=>⟨o,k b o (fun z=>hc (by simp [z])) e⟩) (fun _ _ e=>e) (fun _ _ _ e=>e) (fun b ps e=>⟨#[],by rw [e];simp⟩) (fun m hm=>?_) (fun b u e=>?_) I.bare
 ·have e:b=it:=by simpa using hb
  subst e
  exact ⟨h1,hL,h2,h3⟩
 ·obtain ⟨o,es,ep,ho,r⟩:=hm
  exact ⟨o,es,ep,k _ o (Ne.symm hL) ho,r⟩
 ·refine (I.hok b u e).KU (fun c v hc q=>k c v ?_ q) (fun _ q=>q) fun _ _ q=>q
  rcases hc with z|z
  ·rw [z];exact nit b u e
  ·exact nit c _ z
theorem Inv.tok (I:Inv X pins σ H s) (t:Nat):Inv X pins σ H { s with toks:=t }:=I.un (h':=s.heap) (t':=t) Un.refl I.hok
theorem Inv.kept {t':Nat} (I:Inv X pins σ H s) (k:∀b u,s.heap.get? b=some u→h'.get? b=some u):Inv X pins σ H { s with heap:=h',toks:=t' }:=I.un (Un.kept k) (I.hok.kept k)
theorem Inv.laid {a:Addr}{o:HO}{t':Nat}(I:Inv X pins σ H s) (k:∀b u,s.heap.get? b=some u→h'.get? b=some u) (hp:s.heap.objs.size≤a) (new:BJ X.prog X.w (upd H a o) h' a o) :
  Inv X pins σ (upd H a o) { s with heap:=h',toks:=t' }:=I.un (Un.laid k hp (I.hok.fresh hp)) (I.hok.laid k hp new)
theorem Inv.write {x e:Addr}{o:HO}{t':Nat}(I:Inv X pins σ H s) (mu:Mut (H x)) (he:e=x\/H e=some (.own x)) (k:∀b u,b≠e→s.heap.get? b=some u→h'.get? b=some u) (heo:∃u,h'.get? e=some u)
  (new:BJ X.prog X.w (upd H x o) h' x o):Inv X pins σ (upd H x o) { s with heap:=h',toks:=t' }:=I.un (Un.write mu he k heo) (I.hok.write mu he k heo new)
theorem Inv.Kp {pins':List (Addr×Obj)}(I:Inv X pins σ H s) (h:∀p∈pins',s.heap.get? p.1=some p.2/\H p.1=none/\p.1≠X.env.locals/\p.1∉X.fs/\∀v,p.2.data≠.cell v):Inv X pins' σ H s :=
 ⟨I.ok,I.os,I.bare,I.base,I.loc,I.cell,I.free,I.Fy,fun p hp=>(List.mem_append.mp hp).elim (fun z=>I.pin p (List.mem_append_left _ z)) (h p),I.hok,I.len⟩
theorem NP {N:List Str}(hN:N.Nodup) {i j:Nat}{x:Str}(a:N[i]?=some x) (b:N[j]?=some x):i=j:=by
 obtain ⟨h1,e1⟩:=List.getElem?_eq_some_iff.mp a
 obtain ⟨h2,e2⟩:=List.getElem?_eq_some_iff.mp b
 exact (List.getElem_inj hN).mp (e1.trans e2.symm)
theorem OE {M:Model}{A:Around}{E:Value→Shared→Prop}{i:Nat}{x:Str}{v:V}{u:Value}{Q:Unit→Shared→Prop}(I:Inv X pins σ H s) (hN:X.N.Nodup) (hi:X.N[i]?=some x) (hx:Loc X.env.scope x) (r:RelV v u)
  (h:∀s',Inv X pins (σ.set i (some v)) H s'→(∃a,Heap.SameBut a s.heap s'.heap/\(a=X.env.locals\/X.env.cells.lookup x=some a))→Q () s') (hf:X.fn x=true\/X.env.scope.names.lookup x=some .local:=by first|exact .inl rfl|exact .inr rfl|assumption):wpAny M A (storeName X.env x u) Q E s:=by
 obtain ⟨m,hn,hl⟩:=id I.loc
 have hcls:(X.env.scope.kind==.class||(X.env.scope.kind==.module&&X.env.locals != X.env.globals))=false:=by rw [I.ok.kind];rfl
 have hiσ:i < σ.length:=by rw [I.len];exact (List.getElem?_eq_some_iff.mp hi).1
 have cne:=I.cne
 have tracked:∀{a:Addr} {h':Heap},(∃o,s.heap.get? a=some o/\H a=none)→Heap.SameBut a s.heap h'→HOk X.prog X.w H h':=fun {a h'} ha hs b ob e=>by
  obtain ⟨_,_,hfree⟩:=ha
  refine (I.hok b ob e).KU (fun c w' hc q=>(hs.2 c ?_).trans q) (fun _ q=>q) fun _ _ q=>q
  rintro rfl
  rcases hc with rfl|hc
  ·rw [hfree] at e;cases e
  ·rw [hfree] at hc;cases hc
 rcases hx with hk|hk
 ·refine wpAny_storeName_local hk hn (fun h' hn' hs=>?_) hcls
  obtain ⟨oL,_,_,hoL,_⟩:=id hn
  refine h _ ⟨I.ok,I.os,I.bare,⟨fun b o e n hb hx=>?_,fun b o e n hb hx=>?_,I.base.free,fun b o e hx=>?_,I.base.KP,I.base.KI,I.base.KQ⟩,⟨_,hn',fun j y v' e1 e2 e3=>?_⟩,fun y c e=>?_,I.free,I.Fy,fun p hp=>?_,tracked ⟨oL,hoL,I.free⟩ hs,by simpa using I.len⟩ ⟨_,hs,.inl rfl⟩
  ·exact (hs.2 b (Nat.ne_of_lt (Nat.lt_of_lt_of_le (Heap.lt_size e) I.ok.above))).trans (I.base.keep b o e n hb hx)
  ·obtain ⟨sl,e1⟩:=I.base.slot b o e n hb hx
   exact ⟨sl,(hs.2 b (Nat.ne_of_lt (Nat.lt_of_lt_of_le (Heap.lt_size e) I.ok.above))).trans e1⟩
  ·obtain ⟨o',e1⟩:=I.base.there b o e hx
   exact ⟨o',(hs.2 b (Nat.ne_of_lt (Nat.lt_of_lt_of_le (Heap.lt_size e) I.ok.above))).trans e1⟩
  ·by_cases hj:j=i
   ·subst hj
    rw [hi] at e1;cases e1
    rw [List.getElem?_set_self hiσ] at e2
    cases e2
    exact ⟨u,r,.inl ⟨hk,by simp⟩⟩
   ·rw [List.getElem?_set_ne (Ne.symm hj)] at e2
    obtain ⟨u',r',q⟩:=hl j y v' e1 e2 e3
    refine ⟨u',r',?_⟩
    rcases q with ⟨k,e⟩|⟨k,c,e,z⟩
    ·refine .inl ⟨k,?_⟩
     have:y≠x:=fun e=>hj (NP hN e1 (e ▸ hi))
     simp [this,e]
    ·exact .inr ⟨k,c,e,z.sameBut hs (cne y c e)⟩
  ·obtain ⟨w',z⟩:=I.cell y c e
   exact ⟨w',z.sameBut hs (cne y c e)⟩
  ·obtain ⟨e,n,ne,nf,d⟩:=I.pin p hp
   exact ⟨(hs.2 p.1 ne).trans e,n,ne,nf,d⟩
 ·have hfn:X.fn x=true:=by
   rcases hf with z|z
   ·exact z
   ·rw [z] at hk;cases hk
  obtain ⟨c,hc⟩:=I.ok.has x (.inl hk)
  obtain ⟨w',z⟩:=I.cell x c hc
  refine wpAny_storeName_cell I.ok.kind hk hc z (fun h' hc' hs=>?_)
  obtain ⟨oc,hoc,hocd⟩:=id z
  refine h { s with heap:=h' } ⟨I.ok,I.os,I.bare,⟨fun b o e n hb hx=>?_,fun b o e n hb hx=>?_,I.base.free,fun b o e hx=>?_,I.base.KP,I.base.KI,I.base.KQ⟩,⟨m,hn.sameBut hs (Ne.symm (cne x c hc)),fun j y v' e1 e2 e3=>?_⟩,fun y c' e=>?_,I.free,I.Fy,fun p hp=>?_,tracked ⟨oc,hoc,I.Fy x c hc⟩ hs,by simpa using I.len⟩ ⟨c,hs,.inr hc⟩
  ·exact (hs.2 b (Nat.ne_of_lt (Nat.lt_of_lt_of_le (Heap.lt_size e) (I.ok.cab x c hfn hc)))).trans (I.base.keep b o e n hb hx)
  ·obtain ⟨sl,e1⟩:=I.base.slot b o e n hb hx
   exact ⟨sl,(hs.2 b (Nat.ne_of_lt (Nat.lt_of_lt_of_le (Heap.lt_size e) (I.ok.cab x c hfn hc)))).trans e1⟩
  ·obtain ⟨o',e1⟩:=I.base.there b o e hx
   exact ⟨o',(hs.2 b (Nat.ne_of_lt (Nat.lt_of_lt_of_le (Heap.lt_size e) (I.ok.cab x c hfn hc)))).trans e1⟩
  ·by_cases hj:j=i
   ·subst hj
    rw [hi] at e1;cases e1
    rw [List.getElem?_set_self hiσ] at e2
    cases e2
    exact ⟨u,r,.inr ⟨.inl hk,c,hc,hc'⟩⟩
   ·rw [List.getElem?_set_ne (Ne.symm hj)] at e2
    obtain ⟨u',r',q⟩:=hl j y v' e1 e2 e3
    refine ⟨u',r',?_⟩
    rcases q with q|⟨k,c',e,z'⟩
    ·exact .inl q
    ·refine .inr ⟨k,c',e,z'.sameBut hs ?_⟩
     rintro rfl
     exact hj (NP hN e1 (I.ok.inj _ _ _ e hc ▸ hi))
  ·by_cases hcc:c'=c
   ·subst hcc;exact ⟨_,hc'⟩
   ·obtain ⟨w2,z2⟩:=I.cell y c' e
    exact ⟨w2,z2.sameBut hs hcc⟩
  ·obtain ⟨e,n,ne,nf,d⟩:=I.pin p hp
   refine ⟨(hs.2 p.1 ?_).trans e,n,ne,nf,d⟩
   intro q
   rw [q,hoc] at e
   have q':oc=p.2:=Option.some.inj e
   exact d w' (by rw [←q'];exact hocd)
theorem KS {M:Model}{A:Around}{E:Value→Shared→Prop}{i:Nat}{x:Str}{v:V}{u:Value}{Q:Unit→Shared→Prop}(I:Inv X pins σ H s) (hN:X.N.Nodup) (hi:X.N[i]?=some x) (hx:Loc X.env.scope x) (r:RelV v u)
  (h:∀s',Inv X pins (σ.set i (some v)) H s'→Q () s') (hf:X.fn x=true\/X.env.scope.names.lookup x=some .local:=by first|exact .inl rfl|exact .inr rfl|assumption):wpAny M A (storeName X.env x u) Q E s :=
 OE I hN hi hx r (fun s' I' _=>h s' I') hf
theorem Inv.TL {s':Shared}{ch:List Addr}(I:Inv X pins σ H s) (ho:s'.os=s.os) (u:Un (frs X.stack) ch H H' s.heap s'.heap) (hok:HOk X.prog X.w H' s'.heap) (hg:AllBare s'.gens)
  (hch:∀b∈ch,(b∈X.ex\/X.s₀.heap.objs.size≤b)/\b≠X.env.locals/\(∀x c,X.env.cells.lookup x=some c→c≠b)/\∀p∈X.pn++pins,p.1≠b):Inv X pins σ H' s':=by
 obtain ⟨h',g',d',t',o'⟩:=s'
 have e:o'=s.os:=ho
 subst e
 exact I.call (g':=g') (t':=t') (d':=d') u hok hg hch
end
abbrev XK:=Value→Option Addr→Hp→Prop
abbrev St:=List (Option V)
abbrev VK:=V→Hp→Prop
abbrev TE:=St→Hp→VK→Prop
abbrev TT:=St→Hp→(Bool→Hp→Prop)→Prop
abbrev TA:=St→Hp→(List V→Hp→Prop)→Prop
structure Ends where
 nx:St→Hp→Prop
 rt:VK
 bk:St→Hp→Prop:=fun _ _=>False
 ct:St→Hp→Prop:=fun _ _=>False
abbrev TS:=Ends→St→Hp→Prop
def EP (X:Cx) (pins:List (Addr×Obj)) (σ:St) (Q:VK) (u:Value) (s':Shared):Prop:=∃v H',Inv X pins σ H' s'/\RelV v u/\Q v H'
def TP (X:Cx) (pins:List (Addr×Obj)) (σ:St) (Q:Bool→Hp→Prop) (b:Bool) (s':Shared):Prop:=∃H',Inv X pins σ H' s'/\Q b H'
def AP (X:Cx) (pins:List (Addr×Obj)) (σ:St) (Q:List V→Hp→Prop) (us:List Value) (s':Shared):Prop:=∃vs H',Inv X pins σ H' s'/\Vals vs us/\Q vs H'
def SP (X:Cx) (pins:List (Addr×Obj)) (D:Ends) (f:Flow) (s':Shared):Prop :=
 match f with
 | .next=>∃σ' H',Inv X pins σ' H' s'/\D.nx σ' H'
 | .brk=>∃σ' H',Inv X pins σ' H' s'/\D.bk σ' H'
 | .cont=>∃σ' H',Inv X pins σ' H' s'/\D.ct σ' H'
 | .ret u=>∃v σ' H',Inv X pins σ' H' s'/\RelV v u/\D.rt v H'
def PE (X:Cx) (e:Expr) (t:TE):Prop :=
 ∀(pins:List (Addr×Obj)) (s:Shared) (σ:St) (H:Hp) (Q:VK),Inv X pins σ H s→t σ H Q→wpAny (model X.prog X.w) X.A (eval e X.env) (EP X pins σ Q) X.xe s
def PT (X:Cx) (e:Expr) (t:TT):Prop :=
 ∀(pins:List (Addr×Obj)) (s:Shared) (σ:St) (H:Hp) (Q:Bool→Hp→Prop),Inv X pins σ H s→t σ H Q→wpAny (model X.prog X.w) X.A (isTrue e X.env (eval e X.env)) (TP X pins σ Q) X.xe s
def PW (X:Cx) (e:Expr) (t:TT):Prop :=
 ∀(whole:Sem Value) (pins:List (Addr×Obj)) (s:Shared) (σ:St) (H:Hp) (Q:Bool→Hp→Prop),Inv X pins σ H s→t σ H Q→wpAny (model X.prog X.w) X.A (isTrue e X.env whole) (TP X pins σ Q) X.xe s
theorem PW.pt {X:Cx}{e:Expr}{t:TT}(h:PW X e t):PT X e t:=h _
def PA (X:Cx) (es:List Expr) (t:TA):Prop :=
 ∀(pos:Pos) (pins:List (Addr×Obj)) (s:Shared) (σ:St) (H:Hp) (Q:List V→Hp→Prop),Inv X pins σ H s→t σ H Q→wpAny (model X.prog X.w) X.A (spliced (backTo pos (starEach es X.env))) (AP X pins σ Q) X.xe s
def PS (X:Cx) (st:Stmt) (t:TS):Prop :=
 ∀(pins:List (Addr×Obj)) (s:Shared) (σ:St) (H:Hp) (D:Ends),Inv X pins σ H s→t D σ H→wpAny (model X.prog X.w) X.A (exec st X.env) (SP X pins D) X.xe s
def PSs (X:Cx) (st:List Stmt) (t:TS):Prop :=
 ∀(pins:List (Addr×Obj)) (s:Shared) (σ:St) (H:Hp) (D:Ends),Inv X pins σ H s→t D σ H→wpAny (model X.prog X.w) X.A (execs st X.env) (SP X pins D) X.xe s
theorem thn {α:Type}{t:Sem α}{Q Q':α→Shared→Prop}{M:Model}{A:Around}{E:Value→Shared→Prop}{s:Shared}(h:wpAny M A t Q E s) (hQ:∀a s,Q a s→Q' a s):wpAny M A t Q' E s:=wpAny_mono h hQ fun _ _ x=>x
end L2
namespace L2
open PySem PySem.Spec PyProof.Rows
section
variable {X:Cx}
def bH (i:Nat):TE:=fun σ H Q=>∃v,σ[i]?=some (some v)/\Q v H
def tC (v:V):TE:=fun _ H Q=>Q v H
theorem RL {i:Nat}{x:Str}{pos:Pos}(hN:X.N[i]?=some x) (hv:Vis X.env.scope x) (hd:(x==("__debug__" : Str))=false:=by decide) (hcd:(x==("__classdict__" : Str))=false:=by decide):PE X (.Name x pos) (bH i):=by
 intro pins s σ H Q I h
 obtain ⟨v,e,h⟩:=h
 obtain ⟨m,hn,hl⟩:=I.loc
 obtain ⟨u,r,l⟩:=hl i x v hN e hv
 have fin:EP X pins σ Q u s:=⟨v,H,I,r,h⟩
 rcases l with ⟨hk,hm⟩|⟨hk,c,hc,hcell⟩
 ·exact wpAny_Name (wpAny_loadName_local I.ok.kind hk hn hm fin) hd
 ·rcases hk with hk|hk
  ·exact wpAny_Name (wpAny_loadName_cell I.ok.kind hk hc hcell fin) hd
  ·exact wpAny_Name (wpAny_loadName_free I.ok.kind hk hc hcell fin hcd) hd
theorem AD {i j pos}:PE X (.Constant (.int i) j pos) (tC (.int i)):=fun _ _ _ H _ I h=>wpAny_Constant_int ⟨.int i,H,I.tok _,⟨_,rfl⟩,h⟩
theorem VD {b j pos}:PE X (.Constant (.bool b) j pos) (tC (.bl b)):=fun _ _ _ H _ I h=>Constant_bool ⟨.bl b,H,I,rfl,h⟩
theorem Bx {j pos}:PE X (.Constant .none j pos) (tC .non):=fun _ _ _ H _ I h=>Constant_none ⟨.non,H,I,rfl,h⟩
theorem AI {x j pos}:PE X (.Constant (.str x) j pos) (tC (.str x)):=fun _ _ _ H _ I h=>Calls.Constant_str ⟨.str x,H,I.tok _,⟨_,rfl⟩,h⟩
def Gl (X:Cx) (x:Str):Prop:=X.env.kindOf x=some .globalImplicit
theorem Gq {E:Value→Shared→Prop}{pins:List (Addr×Obj)}{s:Shared}{σ:St}{H:Hp}{x:Str}{u:Value}{pos:Pos}{Q:Value→Shared→Prop}(I:Inv X pins σ H s) (hg:Gl X x) (hm:X.mg x=some u) (h:Q u s)
  (hd:(x==("__debug__" : Str))=false:=by decide):wpAny (model X.prog X.w) X.A (eval (.Name x pos) X.env) Q E s :=
 Calls.Name_function_global I.ok.kind hg (Calls.loadGlobal_global (by rw [I.ok.glob];exact I.mod.glob.keeps I.bk) hm h) hd
theorem Ld {E:Value→Shared→Prop}{pins:List (Addr×Obj)}{s:Shared}{σ:St}{H:Hp}{x:Str}{u:Value}{pos:Pos}{Q:Value→Shared→Prop}(I:Inv X pins σ H s) (hg:Gl X x) (hm:X.mg x=none) (hv:bootBuiltins x=some u) (h:Q u s)
  (hn:x ≠ "__name__" := by decide) (hd:(x==("__debug__" : Str))=false:=by decide):wpAny (model X.prog X.w) X.A (eval (.Name x pos) X.env) Q E s:=by
 obtain ⟨mb,h1,h2⟩:=I.mod.blt
 exact Calls.Name_function_global I.ok.kind hg (Calls.loadGlobal_builtin (by rw [I.ok.glob];exact I.mod.glob.keeps I.bk) hm (by rw [I.ok.blt];exact h1.keeps I.bk) ((h2 x hn).trans hv) h) hd
theorem Bg {x:Str}{v:V}{u:Value}{pos:Pos}(hg:Gl X x) (hm:X.mg x=some u) (r:RelV v u) (hd:(x==("__debug__" : Str))=false:=by decide):PE X (.Name x pos) (tC v) :=
 fun _ _ _ H _ I h=>Gq I hg hm ⟨v,H,I,r,h⟩ hd
theorem He {x:Str}{v:V}{u:Value}{pos:Pos}(hg:Gl X x) (hm:X.mg x=none) (hv:bootBuiltins x=some u) (r:RelV v u) (hn:x ≠ "__name__" := by decide) (hd:(x==("__debug__" : Str))=false:=by decide):PE X (.Name x pos) (tC v) :=
 fun _ _ _ H _ I h=>Ld I hg hm hv ⟨v,H,I,r,h⟩ hn hd
variable {a b:Expr}{ta tb:TE}{pos:Pos}
def PC (X:Cx) (op:CmpOp) (a b:Expr) (t:TE):Prop :=
 ∀(pins:List (Addr×Obj)) (s:Shared) (σ:St) (H:Hp) (Q:VK),Inv X pins σ H s→t σ H Q →
  wpAny (model X.prog X.w) X.A (eval a X.env) (fun v s₁=>wpAny (model X.prog X.w) X.A (eval b X.env) (fun u s₂=>wpAny (model X.prog X.w) X.A (compareOp op v u) (EP X pins σ Q) X.xe s₂) X.xe s₁) X.xe s
def tB (t:TE):TT:=fun σ H Q=>t σ H fun x H1=>∃c,x=.bl c/\Q c H1
theorem U9 {op:CmpOp}{t:TE}(h:PC X op a b t) (h1:behindInMarks op b=false:=by first|exact nobehind _ (by decide) (by decide)|rfl):PE X (.Compare a [op] [b] pos) t:=fun pins s σ H Q I hw=>wpAny_Compare1 (h pins s σ H Q I hw) h1
theorem DU {e:Expr}{t:TE}(h:PE X e t) (he:∀whole,isTrue e X.env whole=(do let v ← whole;standAt e.pos;holding [v] (truthy v)):=by intro _;rfl):PT X e (tB t):=by
 intro pins s σ H Q I hw
 refine isTrue_plain (thn (h pins s σ H _ I hw) fun v s1 ⟨x,H1,I1,r1,q1⟩=>?_) (he _)
 obtain ⟨d,rfl,q⟩:=q1
 cases r1
 exact wpAny_truthy_bool ⟨H1,I1,q⟩
variable {tA tB':TT}{rest:List Expr}
def bR (t u:TT):TT:=fun σ H Q=>t σ H fun c H1=>if c=true then u σ H1 Q else Q false H1
def tOr (t u:TT):TT:=fun σ H Q=>t σ H fun c H1=>if c=true then Q true H1 else u σ H1 Q
def bL (t:TT):TT:=fun σ H Q=>t σ H fun c H1=>Q (!c) H1
theorem FZ (ha:PT X a tA):PW X (.BoolOp .And [a] pos) tA:=by
 intro wh pins s σ H Q I h
 refine isTrue_and (thn (ha pins s σ H Q I h) fun c s1 e=>?_)
 cases c with
 | true=>exact isTrue_and_nil e
 | false=>exact e
theorem Ia (ha:PT X a tA):PW X (.BoolOp .Or [a] pos) tA:=by
 intro wh pins s σ H Q I h
 refine isTrue_or (thn (ha pins s σ H Q I h) fun c s1 e=>?_)
 cases c with
 | false=>exact isTrue_or_nil e
 | true=>exact e
theorem Eh (ha:PT X a tA) (hb:PW X (.BoolOp .And (b::rest) pos) tB'):PW X (.BoolOp .And (a::b::rest) pos) (bR tA tB'):=by
 intro wh pins s σ H Q I h
 refine isTrue_and (thn (ha pins s σ H _ I h) fun c s1 ⟨H1,I1,q1⟩=>?_)
 cases c with
 | true=>exact hb wh pins s1 σ H1 Q I1 q1
 | false=>exact ⟨H1,I1,q1⟩
theorem G3 (ha:PT X a tA) (hb:PW X (.BoolOp .Or (b::rest) pos) tB'):PW X (.BoolOp .Or (a::b::rest) pos) (tOr tA tB'):=by
 intro wh pins s σ H Q I h
 refine isTrue_or (thn (ha pins s σ H _ I h) fun c s1 ⟨H1,I1,q1⟩=>?_)
 cases c with
 | true=>exact ⟨H1,I1,q1⟩
 | false=>exact hb wh pins s1 σ H1 Q I1 q1
theorem LX (ha:PT X a tA):PT X (.UnaryOp .Not a pos) (bL tA):=by
 intro pins s σ H Q I h
 exact isTrue_not (ha pins s σ H (fun c H1=>Q (!c) H1) I h)
def ZX (ta tb:TE):TE:=fun σ H Q=>ta σ H fun x H1=>∃c,x=.bl c/\if c=true then tb σ H1 Q else Q (.bl false) H1
def bK (ta tb:TE):TE:=fun σ H Q=>ta σ H fun x H1=>∃c,x=.bl c/\if c=true then Q (.bl true) H1 else tb σ H1 Q
def ZR (ta:TE):TE:=fun σ H Q=>ta σ H fun x H1=>∃c,x=.bl c/\Q (.bl (!c)) H1
theorem Gw {op}{t:TE}(h:PE X a t):PE X (.BoolOp op [a] pos) t:=fun pins s σ H Q I hw=>BoolOp_one (h pins s σ H Q I hw)
theorem Cs (ha:PE X a ta) (hb:PE X (.BoolOp .And (b::rest) pos) tb):PE X (.BoolOp .And (a::b::rest) pos) (ZX ta tb):=by
 intro pins s σ H Q I h
 refine BoolOp_and (thn (ha pins s σ H _ I h) fun v s1 ⟨x,H1,I1,r1,q1⟩=>?_)
 obtain ⟨c,rfl,q1⟩:=q1
 cases r1
 refine wpAny_truthy_bool ?_
 cases c with
 | true=>exact hb pins s1 σ H1 Q I1 q1
 | false=>exact ⟨.bl false,H1,I1,rfl,q1⟩
theorem Zy (ha:PE X a ta) (hb:PE X (.BoolOp .Or (b::rest) pos) tb):PE X (.BoolOp .Or (a::b::rest) pos) (bK ta tb):=by
 intro pins s σ H Q I h
 refine BoolOp_or (thn (ha pins s σ H _ I h) fun v s1 ⟨x,H1,I1,r1,q1⟩=>?_)
 obtain ⟨c,rfl,q1⟩:=q1
 cases r1
 refine wpAny_truthy_bool ?_
 cases c with
 | false=>exact hb pins s1 σ H1 Q I1 q1
 | true=>exact ⟨.bl true,H1,I1,rfl,q1⟩
theorem U2 (ha:PE X a ta):PE X (.UnaryOp .Not a pos) (ZR ta):=by
 intro pins s σ H Q I h
 refine UnaryOp_ (thn (ha pins s σ H _ I h) fun v s1 ⟨x,H1,I1,r1,q1⟩=>?_)
 obtain ⟨c,rfl,q1⟩:=q1
 cases r1
 exact not_of (wpAny_truthy_bool ⟨.bl (!c),H1,I1,rfl,q1⟩)
def tIf (t:TT) (ta tb:TE):TE:=fun σ H Q=>t σ H fun c H1=>if c=true then ta σ H1 Q else tb σ H1 Q
theorem Ff {c:Expr}(hc:PT X c tA) (ha:PE X a ta) (hb:PE X b tb):PE X (.IfExp c a b pos) (tIf tA ta tb):=by
 intro pins s σ H Q I h
 refine wpAny_IfExp (thn (hc pins s σ H _ I h) fun d s1 ⟨H1,I1,q1⟩=>?_)
 cases d with
 | true=>exact ha pins s1 σ H1 Q I1 q1
 | false=>exact hb pins s1 σ H1 Q I1 q1
end
end L2
namespace L2
open PySem PySem.Spec PyProof.Rows
def SqL (K:PySem.W.Frag) (H:Hp) (a:Addr) (xs:List V):Prop :=
 Rd H a (.lst xs) \/
  ∃(o:Obj) (its:Array Value) (n:Nat),K.lookup a=some o/\o.cls=.type "list" /\ o.dict=none/\o.data=.seq its n/\its.size≤sizeLine/\Vals xs its.toList
def SqT (K:PySem.W.Frag) (H:Hp) (a:Addr) (xs:List V):Prop :=
 Rd H a (.tup xs) \/
  ∃(o:Obj) (its:Array Value) (n:Nat),K.lookup a=some o/\o.cls=.type "tuple" /\ o.data=.seq its n/\its.size≤sizeLine/\Vals xs its.toList
def cH:Value→Option V
 | .none=>some .non
 | .bool b=>some (.bl b)
 | .int i _=>some (.int i)
 | .str x _=>some (.str x)
 | .bytes b _=>some (.byt b)
 | .float b _=>some (.flt b)
 | .ref a=>some (.ref a)
 | .type n=>some (.ty n)
 | _=>none
theorem RelV.abs {x:V}{u:Value}(r:RelV x u):cH u=some x:=by
 cases x with
 | non=>cases r;rfl
 | bl _=>cases r;rfl
 | int _=>obtain ⟨t,rfl⟩:=r;rfl
 | str _=>obtain ⟨t,rfl⟩:=r;rfl
 | byt _=>obtain ⟨t,rfl⟩:=r;rfl
 | flt _=>obtain ⟨t,rfl⟩:=r;rfl
 | ref _=>cases r;rfl
 | ty _=>cases r;rfl
theorem RelV.inj {x y:V}{u:Value}(r:RelV x u) (q:RelV y u):x=y:=Option.some.inj (r.abs.symm.trans q.abs)
theorem Vals.inj:∀{xs ys:List V}{us:List Value},Vals xs us→Vals ys us→xs=ys
 | _,_,_,.nil,.nil=>rfl
 | _,_,_,.cons r t,.cons r' t'=>by rw [r.inj r',Vals.inj t t']
section
variable {X:Cx}{pins:List (Addr×Obj)}{σ:St}{H:Hp}{s:Shared}{a:Addr}{xs ys:List V}
theorem SqL.of {K:PySem.W.Frag}(h:H a=some (.lst xs)):SqL K H a xs:=.inl (.inl h)
theorem SqT.of {K:PySem.W.Frag}(h:H a=some (.tup xs)):SqT K H a xs:=.inl (.inl h)
theorem Inv.list (I:Inv X pins σ H s) (h:SqL X.K H a xs):∃its:List Value,Vals xs its/\PlainL s.heap a its.toArray/\xs.length≤sizeLine:=by
 rcases h with h|⟨o,its,n,hk,hc,hd,hs,hz,r⟩
 ·obtain ⟨z,its,n,r,e⟩:=h.ok I.hok
  exact ⟨its,r,⟨_,n,e,rfl,rfl,rfl⟩,z⟩
 ·refine ⟨its.toList,r,⟨o,n,I.kIn a o hk,hc,hd,by simpa using hs⟩,?_⟩
  have e:=r.length
  simp only [Array.length_toList] at e
  omega
theorem Inv.tuple (I:Inv X pins σ H s) (h:SqT X.K H a xs):∃its:List Value,Vals xs its/\IsTup s.heap a its.toArray/\xs.length≤sizeLine:=by
 rcases h with h|⟨o,its,n,hk,hc,hs,hz,r⟩
 ·obtain ⟨z,its,r,p⟩:=h.ok I.hok
  exact ⟨its,r,p,z⟩
 ·refine ⟨its.toList,r,⟨o,I.kIn a o hk,hc,n,by simpa using hs⟩,?_⟩
  have e:=r.length
  simp only [Array.length_toList] at e
  omega
theorem Inv.Qg (I:Inv X pins σ H s) (h:SqL X.K H a xs) (h':SqL X.K H a ys):xs=ys:=by
 obtain ⟨its,r,⟨o,n,e,_,_,d⟩,_⟩:=I.list h
 obtain ⟨its',r',⟨o',n',e',_,_,d'⟩,_⟩:=I.list h'
 rw [e] at e';cases e'
 rw [d] at d'
 injection d' with d1 _
 have:its=its':=by simpa using congrArg Array.toList d1
 subst this
 exact r.inj r'
theorem Inv.TV (I:Inv X pins σ H s) (h:SqT X.K H a xs) (h':SqT X.K H a ys):xs=ys:=by
 obtain ⟨its,r,⟨o,e,_,n,d⟩,_⟩:=I.tuple h
 obtain ⟨its',r',⟨o',e',_,n',d'⟩,_⟩:=I.tuple h'
 rw [e] at e';cases e'
 rw [d] at d'
 injection d' with d1 _
 have:its=its':=by simpa using congrArg Array.toList d1
 subst this
 exact r.inj r'
end
abbrev Cx.Ms (X:Cx) (E:Value→Shared→Prop):Cx:={ X with xe:=E }
abbrev Cx.nox (X:Cx):Cx:=X.Ms fun _ _=>False
theorem Cx.Ok.Ms {X:Cx}(ok:X.Ok) (E:Value→Shared→Prop):(X.Ms E).Ok :=
 ⟨ok.mod,ok.kind,ok.glob,ok.blt,ok.above,ok.inj,ok.has,ok.cab,ok.hd,ok.frames,ok.stk,ok.exf,ok.bs,ok.bsz,ok.QS,ok.Qr,ok.Io,ok.frf⟩
theorem Cx.Ok.Ha {X:Cx}{E:Value→Shared→Prop}(ok:(X.Ms E).Ok):X.Ok :=
 ⟨ok.mod,ok.kind,ok.glob,ok.blt,ok.above,ok.inj,ok.has,ok.cab,ok.hd,ok.frames,ok.stk,ok.exf,ok.bs,ok.bsz,ok.QS,ok.Qr,ok.Io,ok.frf⟩
section
variable {X:Cx}{pins:List (Addr×Obj)}{σ:St}{H:Hp}{s:Shared}{E:Value→Shared→Prop}
theorem Inv.Ms (I:Inv X pins σ H s) (E:Value→Shared→Prop):Inv (X.Ms E) pins σ H s:=⟨I.ok.Ms E,I.os,I.bare,I.base,I.loc,I.cell,I.free,I.Fy,I.pin,I.hok,I.len⟩
theorem Inv.Ha (I:Inv (X.Ms E) pins σ H s):Inv X pins σ H s:=⟨I.ok.Ha,I.os,I.bare,I.base,I.loc,I.cell,I.free,I.Fy,I.pin,I.hok,I.len⟩
theorem SP.Ha {D:Ends}{f:Flow}{s':Shared}(h:SP (X.Ms E) pins D f s'):SP X pins D f s':=by
 cases f with
 | next=>obtain ⟨σ',H',I,q⟩:=h;exact ⟨σ',H',I.Ha,q⟩
 | brk=>obtain ⟨σ',H',I,q⟩:=h;exact ⟨σ',H',I.Ha,q⟩
 | cont=>obtain ⟨σ',H',I,q⟩:=h;exact ⟨σ',H',I.Ha,q⟩
 | ret u=>obtain ⟨v,σ',H',I,r,q⟩:=h;exact ⟨v,σ',H',I.Ha,r,q⟩
theorem PSs.nox {st:List Stmt}{t:TS}(h:PSs X.nox st t):PSs X st t:=fun pins s σ H D I hw =>
 wpAny_mono (h pins s σ H D (I.Ms _) hw) (fun _ _ q=>q.Ha) fun _ _ z=>False.elim z
end
section
variable {X:Cx}{st:Stmt}{rest:List Stmt}{t u:TS}{e:Expr}{te:TE}{pos:Pos}
def ZS:TS:=fun D σ H=>D.nx σ H
def bI (t u:TS):TS:=fun D σ H=>t { D with nx:=u D } σ H
theorem Ab:PSs X [] ZS:=fun _ _ σ H _ I h=>wpAny_execs_nil ⟨σ,H,I,h⟩
theorem AE (h1:PS X st t) (h2:PSs X rest u):PSs X (st::rest) (bI t u):=by
 intro pins s σ H D I h
 refine wpAny_execs_cons (thn (h1 pins s σ H { D with nx:=u D } I h) fun f s1 q=>?_)
 cases f with
 | next =>
  obtain ⟨σ',H',I',q⟩:=q
  exact h2 pins s1 σ' H' D I' q
 | ret v=>exact q
 | brk=>exact q
 | cont=>exact q
theorem AF (h1:PS X st t):PSs X [st] t:=by
 intro pins s σ H D I h
 refine wpAny_execs_cons (thn (h1 pins s σ H D I h) fun f s1 q=>?_)
 cases f with
 | next=>exact wpAny_execs_nil q
 | ret v=>exact q
 | brk=>exact q
 | cont=>exact q
theorem Inv.quiet {pins:List (Addr×Obj)}{σ:St}{H:Hp}{s:Shared}(I:Inv X pins σ H s):interactive X.env=false:=by simp [interactive,I.ok.kind]
def ZU (te:TE):TS:=fun D σ H=>te σ H fun _ H1=>D.nx σ H1
theorem DH (he:PE X e te) (hs:swapsWith e none pos.line X.env=pure false:=by rfl):PS X (.Expr e pos) (ZU te):=by
 intro pins s σ H D I h
 exact wpAny_Expr_any (thn (he pins s σ H _ I h) fun v s1 ⟨x,H1,I1,r1,q1⟩=>⟨σ,H1,I1,q1⟩) I.quiet hs
def bJ (te:TE):TS:=fun D σ H=>te σ H D.rt
theorem AS (he:PE X e te):PS X (.Return (some e) pos) (bJ te):=by
 intro pins s σ H D I h
 exact wpAny_Return_some (thn (he pins s σ H _ I h) fun v s1 ⟨x,H1,I1,r1,q1⟩=>⟨x,σ,H1,I1,r1,q1⟩)
def ZQ:TS:=fun D _ H=>D.rt .non H
theorem Wo:PS X (.Return none pos) ZQ:=fun _ _ σ H _ I h=>wpAny_Return_none ⟨.non,σ,H,I,rfl,h⟩
def bO (c:TT) (t u:TS):TS:=fun D σ H=>c σ H fun b H1=>if b=true then t D σ H1 else u D σ H1
theorem A4 {c:Expr}{a b:List Stmt}{tc:TT}(hc:PT X c tc) (ha:PSs X a t) (hb:PSs X b u):PS X (.If c a b pos) (bO tc t u):=by
 intro pins s σ H D I h
 refine wpAny_If (thn (hc pins s σ H _ I h) fun d s1 ⟨H1,I1,q1⟩=>?_)
 cases d with
 | true=>exact ha pins s1 σ H1 D I1 q1
 | false=>exact hb pins s1 σ H1 D I1 q1
def YC:TS:=fun _ _ _=>False
theorem OJ {sts:List Stmt}:PSs X sts YC:=fun _ _ _ _ _ _ h=>h.elim
end
abbrev TG:=V→St→Hp→(St→Hp→Prop)→Prop
abbrev TGs:=List V→St→Hp→(St→Hp→Prop)→Prop
def PG (X:Cx) (target:Expr) (t:TG):Prop :=
 ∀(pins:List (Addr×Obj)) (s:Shared) (σ:St) (H:Hp) (v:V) (u:Value) (Q:St→Hp→Prop),Inv X pins σ H s→RelV v u→t v σ H Q →
  wpAny (model X.prog X.w) X.A (assign target X.env u) (fun _ s'=>∃σ' H',Inv X pins σ' H' s'/\Q σ' H') X.xe s
def PGs (X:Cx) (ts:List Expr) (t:TGs):Prop :=
 ∀(pins:List (Addr×Obj)) (s:Shared) (σ:St) (H:Hp) (vs:List V) (us:List Value) (Q:St→Hp→Prop),Inv X pins σ H s→Vals vs us→t vs σ H Q →
  wpAny (model X.prog X.w) X.A (assignInOrder ((assignEach ts X.env).map (·.2)) us) (fun _ s'=>∃σ' H',Inv X pins σ' H' s'/\Q σ' H') X.xe s
section
variable {X:Cx}{pos:Pos}
def GN (i:Nat):TG:=fun v σ H Q=>Q (σ.set i (some v)) H
theorem Kq {i:Nat}{x:Str}(hN:X.N.Nodup) (hi:X.N[i]?=some x) (hx:Loc X.env.scope x) (hf:X.fn x=true\/X.env.scope.names.lookup x=some .local:=by first|exact .inl rfl|exact .inr rfl|assumption):PG X (.Name x pos) (GN i):=by
 intro pins s σ H v u Q I r h
 exact wpAny_assign_Name (KS I hN hi hx r (fun s' I'=>⟨_,H,I',h⟩) hf)
def aT:TGs:=fun vs σ H Q=>vs=[]/\Q σ H
def Vn (t:TG) (u:TGs):TGs:=fun vs σ H Q=>∃v r,vs=v::r/\t v σ H fun σ' H'=>u r σ' H' Q
theorem O5:PGs X [] aT:=by
 intro pins s σ H vs us Q I r h
 obtain ⟨e,h⟩:=h
 subst e
 cases r
 exact assignInOrder_nil ⟨σ,H,I,h⟩
theorem G7 {e:Expr}{es:List Expr}{t:TG}{u:TGs}(h1:PG X e t) (h2:PGs X es u)
  (hs:(assignEach (e::es) X.env).map (·.2)=assign e X.env::(assignEach es X.env).map (·.2):=by rfl):PGs X (e::es) (Vn t u):=by
 intro pins s σ H vs us Q I r h
 obtain ⟨v,vr,e1,h⟩:=h
 subst e1
 cases r with
 | cons r rr =>
  rw [hs]
  refine assignInOrder_cons (thn (h1 pins s σ H _ _ _ I r h) fun _ s1 ⟨σ1,H1,I1,q1⟩=>?_)
  exact h2 pins s1 σ1 H1 _ _ Q I1 rr q1
def aS (K:PySem.W.Frag) (n:Nat) (t:TGs):TG:=fun v σ H Q=>∃a xs,v=.ref a/\SqT K H a xs/\xs.length=n/\t xs σ H Q
theorem RK {es:List Expr}{k:Nat}{t:TGs}{n:Nat}(hc:X.calm=true) (h:PGs X es t)
  (hn:(assignEach es X.env).length=n:=by rfl) (hst:(assignEach es X.env).findIdx? (·.1)=none:=by rfl):PG X (.Tuple es k pos) (aS X.K n t):=by
 intro pins s σ H v u Q I r hw
 obtain ⟨a,xs,e1,hq,hl,hw⟩:=hw
 subst e1
 cases r
 obtain ⟨its,rv,ht,hz⟩:=I.tuple hq
 refine assign_Tuple_tuple (I.ok.hd hc) ht (by simp [hn,←hl,rv.length]) hst fun h' hx=>?_
 have I1:Inv X pins σ H { s with heap:=h' }:=I.kept (t':=s.toks) fun b o e=>hx b o (Nat.ne_of_lt (Heap.lt_size e)) e
 exact h pins _ σ H xs _ Q I1 (by simpa using rv) hw
def WL (te:TE) (g:TG):TS:=fun D σ H=>te σ H fun x H1=>g x σ H1 D.nx
theorem Yc {i:Nat}{x:Str}{e:Expr}{te:TE}{pos':Pos}(hN:X.N.Nodup) (hi:X.N[i]?=some x) (hx:Loc X.env.scope x) (he:PE X e te) (hs:swapsWith e (some (.Name x pos')) pos.line X.env=pure false:=by rfl) (hf:X.fn x=true\/X.env.scope.names.lookup x=some .local:=by first|exact .inl rfl|exact .inr rfl|assumption) :
  PS X (.Assign [.Name x pos'] e pos) (WL te (GN i)):=by
 intro pins s σ H D I h
 refine wpAny_Assign_Name (thn (he pins s σ H _ I h) fun v s1 ⟨y,H1,I1,r1,q1⟩=>?_) hs
 exact KS I1 hN hi hx r1 (fun s2 I2=>⟨_,H1,I2,q1⟩) hf
end
section
variable {X:Cx}{pos:Pos}
def Uc (c:TT) (tb:TS):TS:=fun D σ H=>∃W:Nat→St→Hp→Prop,(∃m,W m σ H)/\∀m σ H,W m σ H →
 c σ H fun b H1=>if b=true then ∃N:St→Hp→Prop,(∀σ' H',N σ' H'→∃m',m'<m/\W m' σ' H')/\tb { D with nx:=N,ct:=N,bk:=D.nx } σ H1 else D.nx σ H1
theorem QF {c:Expr}{body:List Stmt}{tc:TT}{tb:TS}(hp:PassesOwn (model X.prog X.w) X.A X.env X.xe) (hc:PT X c tc) (hb:PSs X body tb):PS X (.While c body [] pos) (Uc tc tb):=by
 intro pins s σ H D I h
 obtain ⟨W,⟨m0,w0⟩,turn⟩:=h
 refine wpAny_While (codeAny_whileLoop (fun n s'=>∃σ' H',Inv X pins σ' H' s'/\W n σ' H') ?_ m0 ⟨σ,H,I,w0⟩)
 rintro n s1 ⟨σ1,H1,I1,w1⟩
 refine wpAny_passesOwn hp (thn (hc pins s1 σ1 H1 _ I1 (turn n σ1 H1 w1)) fun b s2 ⟨H2,I2,q2⟩=>?_)
 cases b with
 | true =>
  obtain ⟨N,hN,q2⟩:=q2
  rw [if_pos rfl]
  refine wpAny_passesOwn hp (thn (hb pins s2 σ1 H2 _ I2 q2) fun f s3 q3=>?_)
  cases f with
  | next =>
   obtain ⟨σ3,H3,I3,n3⟩:=q3
   obtain ⟨m',hm,w3⟩:=hN σ3 H3 n3
   exact ⟨m',hm,σ3,H3,I3,w3⟩
  | cont =>
   obtain ⟨σ3,H3,I3,n3⟩:=q3
   obtain ⟨m',hm,w3⟩:=hN σ3 H3 n3
   exact ⟨m',hm,σ3,H3,I3,w3⟩
  | brk=>exact q3
  | ret v=>exact q3
 | false =>
  rw [if_neg Bool.false_ne_true]
  exact wpAny_execs_nil ⟨σ1,H2,I2,q2⟩
end
structure It where
 go:Nat→Hp→Prop
 yld:Nat→Hp→V→Hp→Prop
 stop:Nat→Hp→Prop
def SD (X:Cx) (pins:List (Addr×Obj)) (H:Hp) (b:Addr):Prop :=
 H b=none/\b≠X.env.locals/\b∉X.fs/\(b∈X.ex\/X.s₀.heap.objs.size≤b)/\(∀x c,X.env.cells.lookup x=some c→c≠b)/\∀p∈X.pn++pins,p.1≠b
theorem Inv.Rq {X:Cx}{pins:List (Addr×Obj)}{σ:St}{H H':Hp}{s:Shared}{b:Addr}(I:Inv X pins σ H s) (hb:s.heap.objs.size≤b) (hn:H' b=none):SD X pins H' b:=by
 refine ⟨hn,Nat.ne_of_gt (Nat.lt_of_lt_of_le I.lt hb),I.bZ hb,.inr (Nat.le_trans I.sz hb),fun x c e z=>?_,fun p hp z=>?_⟩
 ·obtain ⟨v,q⟩:=I.cell x c e
  exact absurd (Nat.lt_of_lt_of_le q.lt (by rw [z];exact hb)) (Nat.lt_irrefl _)
 ·exact absurd (Nat.lt_of_lt_of_le (Heap.lt_size (I.pin p hp).1) (by rw [z];exact hb)) (Nat.lt_irrefl _)
structure Turn (P:Program) (w:World) (K:PySem.W.Frag) (tg:Expr) (J:It) (fp:List Addr) (it:Addr) (tn:Nat→Heap→Prop):Prop where
 mem:it∈fp
 obj:∀i h,tn i h→∀b∈fp,∃o,h.get? b=some o/\∀v,o.data≠.cell v
 keep:∀i h h',tn i h→(∀b∈fp,∀o,h.get? b=some o→h'.get? b=some o)→tn i h'
 item:∀(X:Cx),X.prog=P→X.w=w→X.K=K→X.calm=true→∀(i:Nat) (pins:List (Addr×Obj)) (s:Shared) (σ:St) (H:Hp) (E:Value→Shared→Prop),Inv X pins σ H s→(∀b∈fp,SD X pins H b)→tn i s.heap→J.go i H →
  wpAny (model P w) X.A (pyNext (.ref it)) (fun r s1=>∃u,r=some u /\
   wpAny (model P w) X.A (letOwnedTupleGo tg (.ref it) u) (fun _ s2=>∃x H',Inv X pins σ H' s2/\RelV x u/\J.yld i H x H'/\tn (i+1) s2.heap/\∀b∈fp,H' b=none) E s1) E s
 done:∀(X:Cx),X.prog=P→X.w=w→X.K=K→X.calm=true→∀(i:Nat) (pins:List (Addr×Obj)) (s:Shared) (σ:St) (H:Hp) (E:Value→Shared→Prop),Inv X pins σ H s→(∀b∈fp,SD X pins H b)→tn i s.heap→J.stop i H →
  wpAny (model P w) X.A (pyNext (.ref it)) (fun r s1=>r=none/\Inv X pins σ H s1) E s
 self:∀(A:Around) (i:Nat) (s:Shared) (Q:Value→Shared→Prop) (E:Value→Shared→Prop),tn i s.heap→Q (.ref it) s→wpAny (model P w) A (pyIter (.ref it)) Q E s
abbrev TI:=St→Hp→(It→Hp→Prop)→Prop
def PIE (X:Cx) (pins:List (Addr×Obj)) (σ:St) (tg:Expr) (R:It→Hp→Prop) (itv:Value) (s2:Shared):Prop :=
 ∃(it:Addr) (fp:List Addr) (tn:Nat→Heap→Prop) (J:It) (H':Hp),itv=.ref it/\Inv X pins σ H' s2/\Turn X.prog X.w X.K tg J fp it tn/\tn 0 s2.heap/\(∀b∈fp,SD X pins H' b)/\R J H'
def PI (X:Cx) (tg iter:Expr) (wi:TI):Prop :=
 ∀(pins:List (Addr×Obj)) (s:Shared) (σ:St) (H:Hp) (R:It→Hp→Prop),Inv X pins σ H s→wi σ H R →
  wpAny (model X.prog X.w) X.A (eval iter X.env) (fun v s1=>wpAny (model X.prog X.w) X.A (pyIter v) (PIE X pins σ tg R) X.xe s1) X.xe s
theorem Qo {M:Model}{A:Around}{E:Value→Shared→Prop}{s:Shared}{tg:Expr}{it:Addr}{u:Value}{o:Obj}{n:String}{vs:Array Value}{Q:Unit→Shared→Prop}(ho:s.heap.get? it=some o) (hc:o.cls=.type n) (hd:o.data=.fields vs)
    (hn:["enumerate", "zip", "dict_itemiterator", "dict_reverseitemiterator", "odict_iterator", "itertools.zip_longest", "itertools.pairwise"].contains n=false) (hQ:Q () s):wpAny M A (letOwnedTupleGo tg (.ref it) u) Q E s:=by
  unfold letOwnedTupleGo
  cases tg <;> first
    | exact wpAny_pure hQ
    | (cases u <;> first
        | exact wpAny_pure hQ
        | (refine wpAny_bind (wpAny_load ho ?_)
           rw [hc,hd]
           show wpAny M A (if (["enumerate", "zip", "dict_itemiterator", "dict_reverseitemiterator", "odict_iterator", "itertools.zip_longest", "itertools.pairwise"].contains n&&vs[0]?==some (rawInt _))=true then _ else _) Q E s
           rw [if_neg (by intro h;rw [hn,Bool.false_and] at h;cases h)]
           exact wpAny_pure hQ))
def Itl (K:PySem.W.Frag) (a:Addr):It :=
 ⟨fun i H=>∃xs x,SqL K H a xs/\xs[i]?=some x,fun i H x H'=>H'=H/\∀xs,SqL K H a xs→xs[i]?=some x,fun i H=>∃xs,SqL K H a xs/\xs.length≤i⟩
def Itt (K:PySem.W.Frag) (a:Addr):It :=
 ⟨fun i H=>∃xs x,SqT K H a xs/\xs[i]?=some x,fun i H x H'=>H'=H/\∀xs,SqT K H a xs→xs[i]?=some x,fun i H=>∃xs,SqT K H a xs/\xs.length≤i⟩
def Itr (lo:Int) (n:Nat):It:=⟨fun i _=>i<n,fun i H x H'=>H'=H/\x=.int (lo+i),fun i _=>n≤i⟩
theorem TR {P:Program}{w:World}{K:PySem.W.Frag}{tg:Expr}(a it:Addr):Turn P w K tg (Itl K a) [it] it (fun i h=>h.IsListIter it a i) where
 mem:=by simp
 obj:=fun i h st b hb=>by
  have e:b=it:=by simpa using hb
  subst e
  obtain ⟨o,e,c,d⟩:=st
  exact ⟨o,e,fun v z=>by rw [d] at z;cases z⟩
 keep:=fun i h h' st k=>st.at fun o e=>k it (by simp) o e
 item:=by
  intro X hP hw hK hc i pins s σ H E I hf st hg
  subst hP hw hK
  obtain ⟨xs,x,hq,hx⟩:=hg
  obtain ⟨its,rv,p,hz⟩:=I.list hq
  obtain ⟨u,hu,ru⟩:=rv.get hx
  obtain ⟨f0,f1,f2,f3,f4,f5⟩:=hf it (by simp)
  refine wpAny_pyNext_list_item st p.isList (x:=u) (by simpa using hu) fun h' st' sb=>?_
  have I1:Inv X pins σ H { s with heap:=h' }:=I.turned (t':=s.toks) (fun b o hb e=>(sb.2 b hb).trans e) f0 f1 f3 f4 f5
  obtain ⟨o,e,c,d⟩:=id st'
  exact ⟨u,rfl,Qo (s:={ s with heap:=h' }) e c d (by decide) ⟨x,H,I1,ru,⟨rfl,fun ys hy=>by rw [I.Qg hy hq];exact hx⟩,st',fun b hb=>(hf b hb).1⟩⟩
 done:=by
  intro X hP hw hK hc i pins s σ H E I hf st hg
  subst hP hw hK
  obtain ⟨xs,hq,hx⟩:=hg
  obtain ⟨its,rv,p,hz⟩:=I.list hq
  obtain ⟨f0,f1,f2,f3,f4,f5⟩:=hf it (by simp)
  have hl:=rv.length
  exact wpAny_pyNext_list_end (I.ok.hd hc) st p.isList (by simp;omega) fun h' eb=>⟨rfl,I.turned (t':=s.toks) (fun b o hb e=>eb b o hb e) f0 f1 f3 f4 f5⟩
 self:=fun _ _ _ _ _ st h=>wpAny_pyIter_listiter st h
theorem RA {P:Program}{w:World}{K:PySem.W.Frag}{tg:Expr}(a it:Addr):Turn P w K tg (Itt K a) [it] it (fun i h=>h.IsTupleIter it a i) where
 mem:=by simp
 obj:=fun i h st b hb=>by
  have e:b=it:=by simpa using hb
  subst e
  obtain ⟨o,e,c,d⟩:=st
  exact ⟨o,e,fun v z=>by rw [d] at z;cases z⟩
 keep:=fun i h h' st k=>st.at fun o e=>k it (by simp) o e
 item:=by
  intro X hP hw hK hc i pins s σ H E I hf st hg
  subst hP hw hK
  obtain ⟨xs,x,hq,hx⟩:=hg
  obtain ⟨its,rv,p,hz⟩:=I.tuple hq
  obtain ⟨u,hu,ru⟩:=rv.get hx
  obtain ⟨f0,f1,f2,f3,f4,f5⟩:=hf it (by simp)
  refine wpAny_pyNext_tuple_item st (show s.heap.IsTuple a its.toArray from p) (x:=u) (by simpa using hu) fun h' st' sb=>?_
  have I1:Inv X pins σ H { s with heap:=h' }:=I.turned (t':=s.toks) (fun b o hb e=>(sb.2 b hb).trans e) f0 f1 f3 f4 f5
  obtain ⟨o,e,c,d⟩:=id st'
  exact ⟨u,rfl,Qo (s:={ s with heap:=h' }) e c d (by decide) ⟨x,H,I1,ru,⟨rfl,fun ys hy=>by rw [I.TV hy hq];exact hx⟩,st',fun b hb=>(hf b hb).1⟩⟩
 done:=by
  intro X hP hw hK hc i pins s σ H E I hf st hg
  subst hP hw hK
  obtain ⟨xs,hq,hx⟩:=hg
  obtain ⟨its,rv,p,hz⟩:=I.tuple hq
  obtain ⟨f0,f1,f2,f3,f4,f5⟩:=hf it (by simp)
  have hl:=rv.length
  exact wpAny_pyNext_tuple_end (I.ok.hd hc) st (show s.heap.IsTuple a its.toArray from p) (by simp;omega) fun h' eb=>⟨rfl,I.turned (t':=s.toks) (fun b o hb e=>eb b o hb e) f0 f1 f3 f4 f5⟩
 self:=fun _ _ _ _ _ st h=>wpAny_pyIter_tupleiter st h
theorem RB {P:Program}{w:World}{K:PySem.W.Frag}{tg:Expr}(it:Addr) (lo:Int) (n:Nat):Turn P w K tg (Itr lo n) [it] it (fun i h=>IsRangeIter h it (lo+(i:Nat) * 1) ((n:Int)-(i:Nat)) 1) where
 mem:=by simp
 obj:=fun i h st b hb=>by
  have e:b=it:=by simpa using hb
  subst e
  exact ⟨_,st,fun v z=>by
   have z':Data.fields _=Data.cell v:=z
   cases z'⟩
 keep:=fun i h h' st k=>k it (by simp) _ st
 item:=by
  intro X hP hw hK hc i pins s σ H E I hf st hg
  subst hP hw hK
  obtain ⟨f0,f1,f2,f3,f4,f5⟩:=hf it (by simp)
  have W:=Walks.range (prog:=X.prog) (w:=X.w) (I.ok.hd hc) it lo 1 n
  refine W.item i s _ _ hg st fun v h' tk hv st' kk=>?_
  obtain ⟨t,rfl⟩:=hv
  have I1:Inv X pins σ H { s with heap:=h',toks:=tk }:=I.turned (fun b o hb e=>kk b o (by simpa using hb) e) f0 f1 f3 f4 f5
  refine ⟨_,rfl,Qo (s:={ s with heap:=h',toks:=tk }) (n := "range_iterator") st' rfl rfl (by decide) ⟨.int (lo+i),H,I1,⟨t,?_⟩,⟨rfl,rfl⟩,st',fun b hb=>(hf b hb).1⟩⟩
  rw [Int.mul_one]
 done:=by
  intro X hP hw hK hc i pins s σ H E I hf st hg
  subst hP hw hK
  obtain ⟨f0,f1,f2,f3,f4,f5⟩:=hf it (by simp)
  exact wpAny_pyNext_range_end (I.ok.hd hc) st (by have:n≤i:=hg;omega) fun h' eb=>⟨rfl,I.turned (t':=s.toks) (fun b o hb e=>eb b o hb e) f0 f1 f3 f4 f5⟩
 self:=fun _ _ _ _ _ st h=>wpAny_pyIter_rangeiter st h
end L2
namespace L2
open PySem PySem.Spec PyProof.Rows
section
variable {X:Cx}{tg:Expr}
def Xw (K:PySem.W.Frag) (tl:TE):TI:=fun σ H R=>tl σ H fun x H1=>∃a,x=.ref a/\(∃xs,SqL K H1 a xs)/\R (Itl K a) H1
def aO (K:PySem.W.Frag) (tl:TE):TI:=fun σ H R=>tl σ H fun x H1=>∃a,x=.ref a/\(∃xs,SqT K H1 a xs)/\R (Itt K a) H1
theorem Sg {l:Expr}{tl:TE}(hl:PE X l tl):PI X tg l (Xw X.K tl):=by
 intro pins s σ H R I h
 refine thn (hl pins s σ H _ I h) fun v s1 ⟨x,H1,I1,r1,q1⟩=>?_
 obtain ⟨a,e,⟨xs,hq⟩,q⟩:=q1
 subst e
 cases r1
 obtain ⟨its,rv,p,hz⟩:=I1.list hq
 refine wpAny_pyIter_list p.isList ?_
 refine ⟨s1.heap.objs.size,[s1.heap.objs.size],_,_,H1,rfl,I1.kept (t':=s1.toks) fun b o e=>Heap.get?_push_of_some _ e,TR a _,⟨_,Heap.get?_push_size _ rfl,rfl,rfl⟩,fun b hb=>?_,q⟩
 have e:b=s1.heap.objs.size:=by simpa using hb
 subst e
 exact I1.Rq (Nat.le_refl _) (I1.hok.fresh (Nat.le_refl _))
theorem U0 {l:Expr}{tl:TE}(hl:PE X l tl):PI X tg l (aO X.K tl):=by
 intro pins s σ H R I h
 refine thn (hl pins s σ H _ I h) fun v s1 ⟨x,H1,I1,r1,q1⟩=>?_
 obtain ⟨a,e,⟨xs,hq⟩,q⟩:=q1
 subst e
 cases r1
 obtain ⟨its,rv,p,hz⟩:=I1.tuple hq
 refine wpAny_pyIter_tuple (show s1.heap.IsTuple a its.toArray from p) ?_
 refine ⟨s1.heap.objs.size,[s1.heap.objs.size],_,_,H1,rfl,I1.kept (t':=s1.toks) fun b o e=>Heap.get?_push_of_some _ e,RA a _,⟨_,Heap.get?_push_size _ rfl,rfl,rfl⟩,fun b hb=>?_,q⟩
 have e:b=s1.heap.objs.size:=by simpa using hb
 subst e
 exact I1.Rq (Nat.le_refl _) (I1.hok.fresh (Nat.le_refl _))
theorem QD {pins:List (Addr×Obj)}{σ:St}{H:Hp}{s:Shared}{R:It→Hp→Prop}{E:Value→Shared→Prop}{lo hi:Int}{t u v:Tok}{tk:Nat}(I:Inv X pins σ H s) (h1:-(2 ^ 62)≤lo) (h2:lo<2 ^ 62) (h3:-(2 ^ 62)≤hi) (h4:hi<2 ^ 62)
  (q:R (Itr lo (hi-lo).toNat) H):wpAny (model X.prog X.w) X.A (pyIter (.ref s.heap.objs.size)) (PIE X pins σ tg R) E { s with heap:=s.heap.push { cls:=.type "range", data:=.fields #[.int lo t,.int hi u,.int 1 v] },toks:=tk }:=by
 refine wpAny_pyIter_range (IsRange.new ..) (small_one h1 h2 h3 h4) ?_
 have I1:Inv X pins σ H { s with heap:=s.heap.push { cls:=.type "range", data:=.fields #[.int lo t,.int hi u,.int 1 v] },toks:=tk }:=I.kept fun b o e=>Heap.get?_push_of_some _ e
 refine ⟨(s.heap.push { cls:=.type "range", data:=.fields #[.int lo t,.int hi u,.int 1 v] }).objs.size,[(s.heap.push { cls:=.type "range", data:=.fields #[.int lo t,.int hi u,.int 1 v] }).objs.size],_,_,H,rfl,
  I1.kept (t':=tk) fun b o e=>Heap.get?_push_of_some _ e,RB _ lo (hi-lo).toNat,?_,fun b hb=>?_,q⟩
 ·have e1:lo+((0:Nat):Int) * 1=lo:=by simp
  have e2:(((hi-lo).toNat:Nat):Int)-((0:Nat):Int)=Builtin.Range.rangeSize lo hi 1:=by rw [rangeSize_one];split <;> omega
  show IsRangeIter _ _ (lo+((0:Nat):Int) * 1) ((((hi-lo).toNat:Nat):Int)-((0:Nat):Int)) 1
  rw [e1,e2]
  exact Heap.get?_push_size _ rfl
 ·have e:b=(s.heap.push { cls:=.type "range", data:=.fields #[.int lo t,.int hi u,.int 1 v] }).objs.size:=by simpa using hb
  subst e
  exact I1.Rq (Nat.le_refl _) (I1.hok.fresh (Nat.le_refl _))
def aQ (ta:TA):TI:=fun σ H R=>ta σ H fun vs H1=>∃j:Int,vs=[.int j]/\-(2 ^ 62)≤j/\j<2 ^ 62/\R (Itr 0 j.toNat) H1
def aP (ta:TA):TI:=fun σ H R=>ta σ H fun vs H1=>∃i j:Int,vs=[.int i,.int j]/\(-(2 ^ 62)≤i/\i<2 ^ 62/\-(2 ^ 62)≤j/\j<2 ^ 62)/\R (Itr i (j-i).toNat) H1
theorem JK {a:Expr}{ta:TA}{p pos:Pos}(hg:Gl X "range") (hm:X.mg "range" = none) (ha:PA X [a] ta) (hs:starEach [a] X.env=[(false,eval a X.env)]:=by rfl):PI X tg (.Call (.Name "range" p) [a] [] pos) (aQ ta):=by
 intro pins s σ H R I h
 refine Call_ (Ld I hg hm boot_range (PyProof.Rows.callWith_type1 (thn (ha pos pins s σ H _ I h) fun us s1 ⟨vs,H1,I1,r1,q1⟩=>?_) hs rfl))
 obtain ⟨j,e,q1,q2,q⟩:=q1
 subst e
 cases r1 with
 | cons r rr =>
  cases rr
  obtain ⟨t,rfl⟩:=r
  exact call_range_1 (QD I1 (by omega) (by omega) q1 q2 (by simpa using q))
theorem Te {a b:Expr}{ta:TA}{p pos:Pos}(hg:Gl X "range") (hm:X.mg "range" = none) (ha:PA X [a,b] ta) (hs:starEach [a,b] X.env=[(false,eval a X.env),(false,eval b X.env)]:=by rfl) (hs2:starEach [b] X.env=[(false,eval b X.env)]:=by rfl) :
  PI X tg (.Call (.Name "range" p) [a,b] [] pos) (aP ta):=by
 intro pins s σ H R I h
 refine Call_ (Ld I hg hm boot_range (PyProof.Rows.callWith_type1 (thn (ha pos pins s σ H _ I h) fun us s1 ⟨vs,H1,I1,r1,q1⟩=>?_) (by rw [hs,hs2]) (by rw [hs2];rfl)))
 obtain ⟨i,j,e,⟨q1,q2,q3,q4⟩,q⟩:=q1
 subst e
 cases r1 with
 | cons r rr =>
  cases rr with
  | cons r' rr =>
   cases rr
   obtain ⟨t,rfl⟩:=r
   obtain ⟨t',rfl⟩:=r'
   exact call_range_2 (QD I1 q1 q2 q3 q4 q)
def bP (wi:TI) (g:TG) (tb:TS):TS:=fun D σ H=>wi σ H fun J H1=>∃W:Nat→Nat→St→Hp→Prop,(∃m,W 0 m σ H1)/\∀i m σ H,W i m σ H →
 (J.stop i H/\D.nx σ H)\/(J.go i H/\∃N:St→Hp→Prop,(∀σ' H',N σ' H'→∃m',m'<m/\W (i+1) m' σ' H')/\∀x H',J.yld i H x H'→g x σ H' fun σ2 H2=>tb { D with nx:=N,ct:=N,bk:=D.nx } σ2 H2)
def NF (fp:List Addr) (h:Heap):List (Addr×Obj):=fp.filterMap fun b=>(h.get? b).map fun o=>(b,o)
theorem KD {fp:List Addr}{h:Heap}{b:Addr}{o:Obj}(hb:b∈fp) (e:h.get? b=some o):(b,o)∈NF fp h:=List.mem_filterMap.mpr ⟨b,hb,by rw [e];rfl⟩
theorem Ts {fp:List Addr}{h:Heap}{p:Addr×Obj}(hp:p∈NF fp h):p.1∈fp/\h.get? p.1=some p.2:=by
 obtain ⟨b,hb,e⟩:=List.mem_filterMap.mp hp
 cases q:h.get? b with
 | none=>rw [q] at e;cases e
 | some o =>
  rw [q] at e
  have e':(b,o)=p:=Option.some.inj e
  subst e'
  exact ⟨hb,q⟩
theorem Inv.pinned {pins:List (Addr×Obj)}{σ:St}{H:Hp}{s:Shared}{fp:List Addr}(I:Inv X pins σ H s) (hf:∀b∈fp,SD X pins H b) (ho:∀b∈fp,∃o,s.heap.get? b=some o/\∀v,o.data≠.cell v):Inv X (pins++NF fp s.heap) σ H s :=
 I.Kp fun p hp=>(List.mem_append.mp hp).elim (fun z=>I.pin p (List.mem_append_right _ z)) fun z=>by
  obtain ⟨hb,e⟩:=Ts z
  obtain ⟨f0,f1,f2,_⟩:=hf p.1 hb
  obtain ⟨o,e',d⟩:=ho p.1 hb
  rw [e] at e';cases e'
  exact ⟨e,f0,f1,f2,d⟩
theorem Inv.Mu {pins pl:List (Addr×Obj)}{σ:St}{H:Hp}{s:Shared}(I:Inv X (pins++pl) σ H s):Inv X pins σ H s:=I.Kp fun p hp=>I.pin p (List.mem_append_right _ (List.mem_append_left _ hp))
theorem Df {iter:Expr}{body:List Stmt}{wi:TI}{g:TG}{tb:TS}{pos:Pos}(hp:PassesOwn (model X.prog X.w) X.A X.env X.xe) (hc:X.calm=true) (hi:PI X tg iter wi) (hg:PG X tg g) (hb:PSs X body tb)
  (hs:∀x,foldedSetIterable iter X.env x=pure x:=by intro _;rfl):PS X (.For tg iter body [] pos) (bP wi g tb):=by
 intro pins s σ H D I h
 refine wpAny_For (thn (hi pins s σ H _ I h) fun v s1 h1=>thn h1 fun itv s2 h2=>?_) hs
 obtain ⟨it,fp,tn,J,H2,e,I2,T,st2,f2,W,⟨m0,w0⟩,turn⟩:=h2
 subst e
 have stat:∀{H':Hp},(∀b∈fp,H' b=none)→∀b∈fp,SD X pins H' b:=fun hn b hb=>⟨hn b hb,(f2 b hb).2⟩
 refine codeAny_forLoop_any (fun n s'=>∃i σ' H',Inv X pins σ' H' s'/\tn i s'.heap/\(∀b∈fp,H' b=none)/\W i n σ' H') ?_ m0 ⟨0,σ,H2,I2,st2,fun b hb=>(f2 b hb).1,w0⟩
 rintro n s3 ⟨i,σ3,H3,I3,st3,fr3,w3⟩
 rcases turn i n σ3 H3 w3 with ⟨stop,qn⟩|⟨go,N,hN,step⟩
 ·refine wpAny_passesOwn hp (thn (T.done X rfl rfl rfl hc i pins s3 σ3 H3 X.xe I3 (stat fr3) st3 stop) fun r s4 ⟨hr,I4⟩=>?_)
  subst hr
  exact wpAny_execs_nil ⟨σ3,H3,I4,qn⟩
 ·refine wpAny_passesOwn hp (thn (T.item X rfl rfl rfl hc i pins s3 σ3 H3 X.xe I3 (stat fr3) st3 go) fun r s4 ⟨u,hr,h4⟩=>?_)
  subst hr
  refine wpAny_passesOwn hp (thn h4 fun _ s5 ⟨x,H5,I5,r5,y5,st5,fr5⟩=>?_)
  have I5':=I5.pinned (stat fr5) (T.obj _ _ st5)
  refine wpAny_passesOwn hp (thn (hg _ s5 σ3 H5 x u _ I5' r5 (step x H5 y5)) fun _ s6 ⟨σ6,H6,I6,q6⟩=>?_)
  refine wpAny_passesOwn hp (thn (hb _ s6 σ6 H6 _ I6 q6) fun f s7 q7=>?_)
  have again:∀{σ7:St} {H7:Hp},Inv X (pins++NF fp s5.heap) σ7 H7 s7→N σ7 H7→∃m,m<n/\∃i σ' H',Inv X pins σ' H' s7/\tn i s7.heap/\(∀b∈fp,H' b=none)/\W i m σ' H':=fun {σ7 H7} I7 n7=>by
   obtain ⟨m',hm,w7⟩:=hN σ7 H7 n7
   refine ⟨m',hm,i+1,σ7,H7,I7.Mu,T.keep _ _ _ st5 fun b hb o e=>(I7.pin (b,o) (List.mem_append_right _ (List.mem_append_right _ (KD hb e)))).1,fun b hb=>?_,w7⟩
   obtain ⟨o,e,d⟩:=T.obj _ _ st5 b hb
   exact (I7.pin (b,o) (List.mem_append_right _ (List.mem_append_right _ (KD hb e)))).2.1
  cases f with
  | next=>obtain ⟨σ7,H7,I7,n7⟩:=q7;exact again I7 n7
  | cont=>obtain ⟨σ7,H7,I7,n7⟩:=q7;exact again I7 n7
  | brk=>obtain ⟨σ7,H7,I7,q7⟩:=q7;exact ⟨σ7,H7,I7.Mu,q7⟩
  | ret v=>obtain ⟨x7,σ7,H7,I7,r7,q7⟩:=q7;exact ⟨x7,σ7,H7,I7.Mu,r7,q7⟩
end
theorem HJ {K:PySem.W.Frag}{a:Addr}{xs:List V}{g:TG}{tb:TS}{D:Ends}{σ:St}{H:Hp}(Pv:Nat→St→Hp→Prop) (h0:Pv 0 σ H) (hl:∀i σ H,i≤xs.length→Pv i σ H→SqL K H a xs)
  (hs:∀i x σ H,xs[i]?=some x→Pv i σ H→g x σ H fun σ2 H2=>tb { D with nx:=Pv (i+1),ct:=Pv (i+1),bk:=D.nx } σ2 H2) (hd:∀σ H,Pv xs.length σ H→D.nx σ H) :
  ∃W:Nat→Nat→St→Hp→Prop,(∃m,W 0 m σ H)/\∀i m σ H,W i m σ H →
   ((Itl K a).stop i H/\D.nx σ H)\/((Itl K a).go i H/\∃N:St→Hp→Prop,(∀σ' H',N σ' H'→∃m',m'<m/\W (i+1) m' σ' H')/\∀x H',(Itl K a).yld i H x H'→g x σ H' fun σ2 H2=>tb { D with nx:=N,ct:=N,bk:=D.nx } σ2 H2):=by
 refine ⟨fun i m σ H=>m=xs.length-i/\i≤xs.length/\Pv i σ H,⟨xs.length,by simp,Nat.zero_le _,h0⟩,?_⟩
 rintro i m σ H ⟨rfl,hi,p⟩
 have q:=hl i σ H hi p
 by_cases hlt:i<xs.length
 ·refine .inr ⟨⟨xs,xs[i],q,by simp [hlt]⟩,Pv (i+1),fun σ' H' p'=>⟨xs.length-(i+1),by omega,rfl,hlt,p'⟩,fun x H' y=>?_⟩
  obtain ⟨e,y⟩:=y
  subst e
  exact hs i x σ _ (y xs q) p
 ·have e:i=xs.length:=by omega
  subst e
  exact .inl ⟨⟨xs,q,Nat.le_refl _⟩,hd σ H p⟩
theorem HI {lo:Int}{n:Nat}{g:TG}{tb:TS}{D:Ends}{σ:St}{H:Hp}(Pv:Nat→St→Hp→Prop) (h0:Pv 0 σ H)
  (hs:∀i σ H,i<n→Pv i σ H→g (.int (lo+i)) σ H fun σ2 H2=>tb { D with nx:=Pv (i+1),ct:=Pv (i+1),bk:=D.nx } σ2 H2) (hd:∀σ H,Pv n σ H→D.nx σ H) :
  ∃W:Nat→Nat→St→Hp→Prop,(∃m,W 0 m σ H)/\∀i m σ H,W i m σ H →
   ((Itr lo n).stop i H/\D.nx σ H)\/((Itr lo n).go i H/\∃N:St→Hp→Prop,(∀σ' H',N σ' H'→∃m',m'<m/\W (i+1) m' σ' H')/\∀x H',(Itr lo n).yld i H x H'→g x σ H' fun σ2 H2=>tb { D with nx:=N,ct:=N,bk:=D.nx } σ2 H2):=by
 refine ⟨fun i m σ H=>m=n-i/\i≤n/\Pv i σ H,⟨n,by simp,Nat.zero_le _,h0⟩,?_⟩
 rintro i m σ H ⟨rfl,hi,p⟩
 by_cases hlt:i<n
 ·refine .inr ⟨hlt,Pv (i+1),fun σ' H' p'=>⟨n-(i+1),by omega,rfl,hlt,p'⟩,fun x H' y=>?_⟩
  obtain ⟨e,y⟩:=y
  subst e y
  exact hs i σ _ hlt p
 ·have e:i=n:=by omega
  subst e
  exact .inl ⟨Nat.le_refl _,hd σ H p⟩
theorem UT {c:TT}{tb:TS}{D:Ends}{σ:St}{H:Hp}(Pv:St→Hp→Prop) (μ:St→Hp→Nat) (h0:Pv σ H)
  (hs:∀σ H,Pv σ H→c σ H fun b H1=>if b=true then tb { D with nx:=fun σ' H'=>Pv σ' H'/\μ σ' H' < μ σ H,ct:=fun σ' H'=>Pv σ' H'/\μ σ' H' < μ σ H,bk:=D.nx } σ H1 else D.nx σ H1)
  (mono:∀σ H Q Q',(∀b H1,Q b H1→Q' b H1)→c σ H Q→c σ H Q'):Uc c tb D σ H:=by
 refine ⟨fun m σ H=>m=μ σ H/\Pv σ H,⟨_,rfl,h0⟩,?_⟩
 rintro m σ H ⟨rfl,p⟩
 refine mono σ H _ _ (fun b H1 q=>?_) (hs σ H p)
 cases b with
 | true=>exact ⟨_,fun σ' H' ⟨p',l⟩=>⟨_,l,rfl,p'⟩,q⟩
 | false=>exact q
end L2
namespace L2
open PySem PySem.Spec PyProof.Rows
abbrev R2:=V→V→Hp→VK→Prop
def OpR (X:Cx) (f:Value→Value→Sem Value) (r:R2):Prop :=
 ∀(pins:List (Addr×Obj)) (s:Shared) (σ:St) (H:Hp) (x y:V) (v u:Value) (Q:VK),Inv X pins σ H s→RelV x v→RelV y u→r x y H Q →
  wpAny (model X.prog X.w) X.A (f v u) (EP X pins σ Q) X.xe s
def UnR (X:Cx) (f:Value→Sem Value) (r:V→Hp→VK→Prop):Prop :=
 ∀(pins:List (Addr×Obj)) (s:Shared) (σ:St) (H:Hp) (x:V) (v:Value) (Q:VK),Inv X pins σ H s→RelV x v→r x H Q →
  wpAny (model X.prog X.w) X.A (f v) (EP X pins σ Q) X.xe s
def DT (X:Cx) (f:Value) (r:List V→Hp→VK→Prop):Prop :=
 ∀(pins:List (Addr×Obj)) (s:Shared) (σ:St) (H:Hp) (xs:List V) (us:List Value) (Q:VK),Inv X pins σ H s→Vals xs us→r xs H Q →
  wpAny (model X.prog X.w) X.A (call f us) (EP X pins σ Q) X.xe s
def tOp (r:R2) (ta tb:TE):TE:=fun σ H Q=>ta σ H fun x H1=>tb σ H1 fun y H2=>r x y H2 Q
def tUn (r:V→Hp→VK→Prop) (ta:TE):TE:=fun σ H Q=>ta σ H fun x H1=>r x H1 Q
def rI (C:Int→Int→Prop) (g:Int→Int→V):R2:=fun x y H Q=>∃i j,x=.int i/\y=.int j/\C i j/\Q (g i j) H
def rI0 (g:Int→Int→V):R2:=fun x y H Q=>∃i j,x=.int i/\y=.int j/\Q (g i j) H
def rU (g:Int→V):V→Hp→VK→Prop:=fun x H Q=>∃i,x=.int i/\Q (g i) H
section
variable {X:Cx}{a b c:Expr}{ta tb tc:TE}{pos:Pos}
theorem Y6 (ha:PE X a ta) (hb:PE X b tb) {pins:List (Addr×Obj)}{s:Shared}{σ:St}{H:Hp}{R:V→V→Hp→Prop}(I:Inv X pins σ H s)
  (h:ta σ H fun x H1=>tb σ H1 fun y H2=>R x y H2) {Q:Value→Shared→Prop} {f:Value→Value→Sem Value}
  (hf:∀v u s2 x y H2,Inv X pins σ H2 s2→RelV x v→RelV y u→R x y H2→wpAny (model X.prog X.w) X.A (f v u) Q X.xe s2) :
  wpAny (model X.prog X.w) X.A (eval a X.env) (fun v s₁=>wpAny (model X.prog X.w) X.A (eval b X.env) (fun u s₂=>wpAny (model X.prog X.w) X.A (f v u) Q X.xe s₂) X.xe s₁) X.xe s:=by
 refine thn (ha pins s σ H _ I h) fun v s1 ⟨x,H1,I1,r1,q1⟩=>?_
 refine thn (hb pins s1 σ H1 _ I1 q1) fun u s2 ⟨y,H2,I2,r2,q2⟩=>?_
 exact hf v u s2 x y H2 I2 r1 r2 q2
theorem AN {op:Operator}{r:R2}(ho:OpR X (binaryOp op) r) (ha:PE X a ta) (hb:PE X b tb):PE X (.BinOp a op b pos) (tOp r ta tb):=by
 intro pins s σ H Q I h
 exact wpAny_BinOp (Y6 ha hb I h fun v u s2 x y H2 I2 rx ry q=>ho pins s2 σ H2 x y v u Q I2 rx ry q)
theorem Sh {op:UnaryOp}{r:V→Hp→VK→Prop}(ho:UnR X (unaryOp op) r) (ha:PE X a ta):PE X (.UnaryOp op a pos) (tUn r ta):=by
 intro pins s σ H Q I h
 exact UnaryOp_ (thn (ha pins s σ H _ I h) fun v s1 ⟨x,H1,I1,r1,q1⟩=>ho pins s1 σ H1 x v Q I1 r1 q1)
theorem opI {f:Value→Value→Sem Value}{C:Int→Int→Prop}{g:Int→Int→Int}
  (rule:∀(i j:Int) (t u:Tok) (s:Shared) (Q:Value→Shared→Prop) (E:Value→Shared→Prop),C i j→Q (.int (g i j) s.toks) { s with toks:=s.toks+1 }→wpAny (model X.prog X.w) X.A (f (.int i t) (.int j u)) Q E s) :
  OpR X f (rI C fun i j=>.int (g i j)):=by
 intro pins s σ H x y v u Q I rx ry h
 obtain ⟨i,j,rfl,rfl,hc,q⟩:=h
 obtain ⟨t,rfl⟩:=rx
 obtain ⟨t',rfl⟩:=ry
 exact rule i j t t' s _ _ hc ⟨.int (g i j),H,I.tok _,⟨_,rfl⟩,q⟩
theorem Z5 {f:Value→Value→Sem Value}{g:Int→Int→Int}
  (rule:∀(i j:Int) (t u:Tok) (s:Shared) (Q:Value→Shared→Prop) (E:Value→Shared→Prop),Q (.int (g i j) s.toks) { s with toks:=s.toks+1 }→wpAny (model X.prog X.w) X.A (f (.int i t) (.int j u)) Q E s) :
  OpR X f (rI0 fun i j=>.int (g i j)):=by
 intro pins s σ H x y v u Q I rx ry h
 obtain ⟨i,j,rfl,rfl,q⟩:=h
 obtain ⟨t,rfl⟩:=rx
 obtain ⟨t',rfl⟩:=ry
 exact rule i j t t' s _ _ ⟨.int (g i j),H,I.tok _,⟨_,rfl⟩,q⟩
theorem Wx {f:Value→Value→Sem Value}{g:Int→Int→Bool}
  (rule:∀(i j:Int) (t u:Tok) (s:Shared) (Q:Value→Shared→Prop) (E:Value→Shared→Prop),Q (.bool (g i j)) s→wpAny (model X.prog X.w) X.A (f (.int i t) (.int j u)) Q E s) :
  OpR X f (rI0 fun i j=>.bl (g i j)):=by
 intro pins s σ H x y v u Q I rx ry h
 obtain ⟨i,j,rfl,rfl,q⟩:=h
 obtain ⟨t,rfl⟩:=rx
 obtain ⟨t',rfl⟩:=ry
 exact rule i j t t' s _ _ ⟨.bl (g i j),H,I,rfl,q⟩
def Xi (i j:Int):Prop:=0<j/\j<1073741824
def cJ (i j:Int):Prop:=0≤j/\j≤1000000/\i.natAbs<2 ^ 64
def Xh (i j:Int):Prop:=(-(2 ^ 64)<i/\i<2 ^ 64)\/(-(2 ^ 64)<j/\j<2 ^ 64)
theorem Xh.ok {i j:Int}(h:Xh i j):IntMulOk i j:=by
 rcases h with ⟨h1,h2⟩|⟨h1,h2⟩
 ·exact .of_left (intBits_le_64 h1 h2)
 ·exact .of_right (intBits_le_64 h1 h2)
theorem Yi:OpR X (binaryOp .Add) (rI0 fun i j=>.int (i+j)):=Z5 fun _ _ _ _ _ _ _ q=>add_int q
theorem Yf:OpR X (binaryOp .Sub) (rI0 fun i j=>.int (i-j)):=Z5 fun _ _ _ _ _ _ _ q=>sub_int q
theorem Yg:OpR X (binaryOp .Mult) (rI Xh fun i j=>.int (i * j)):=opI fun _ _ _ _ _ _ _ hc q=>mul_int q hc.ok
theorem Wv:OpR X (binaryOp .FloorDiv) (rI Xi fun i j=>.int (i / j)):=opI fun i j _ _ _ _ _ hc q=>by
 have h1:(0:Int)<j:=hc.1
 have h2:j<1073741824:=hc.2
 exact floordiv_int (by omega) (by rw [Int.fdiv_eq_ediv_of_nonneg i (by omega)];exact q) (.inl (PyProof.noPylong_small (by omega)))
theorem Yh:OpR X (binaryOp .Mod) (rI (fun _ j=>0<j) fun i j=>.int (i % j)):=opI fun i j _ _ _ _ _ hc q=>by
 have h1:(0:Int)<j:=hc
 exact mod_int' (by omega) (by rw [Int.fmod_eq_emod_of_nonneg i (by omega)];exact q)
theorem NG:OpR X (binaryOp .Pow) (rI cJ fun i j=>.int (i ^ j.toNat)):=opI fun _ _ _ _ _ _ _ hc q=>pow_int_small hc.1 hc.2.1 hc.2.2 q
theorem unI {f:Value→Sem Value}{g:Int→Int}
  (rule:∀(i:Int) (t:Tok) (s:Shared) (Q:Value→Shared→Prop) (E:Value→Shared→Prop),Q (.int (g i) s.toks) { s with toks:=s.toks+1 }→wpAny (model X.prog X.w) X.A (f (.int i t)) Q E s) :
  UnR X f (rU fun i=>.int (g i)):=by
 intro pins s σ H x v Q I rx h
 obtain ⟨i,rfl,q⟩:=h
 obtain ⟨t,rfl⟩:=rx
 exact rule i t s _ _ ⟨.int (g i),H,I.tok _,⟨_,rfl⟩,q⟩
theorem X9:UnR X (unaryOp .USub) (rU fun i=>.int (-i)):=unI fun _ _ _ _ _ q=>neg_int q
end
def Zo:V→V→Bool
 | .non,.non=>true|.non,.int _=>true|.int _,.non=>true|.non,.bl _=>true|.bl _,.non=>true|.non,.str _=>true|.str _,.non=>true
 | .int _,.int _=>true|.bl _,.bl _=>true|.str _,.str _=>true|.byt _,.byt _=>true
 | .int _,.str _=>true|.str _,.int _=>true|.bl _,.str _=>true|.str _,.bl _=>true
 | _,_=>false
def rEq:R2:=fun x y H Q=>Zo x y=true/\Q (.bl (decide (x=y))) H
def rNe:R2:=fun x y H Q=>Zo x y=true/\Q (.bl (!decide (x=y))) H
theorem TF {i j:Int}:decide (V.int i=V.int j)=(i==j):=by
 rw [Bool.eq_iff_iff]
 simp
theorem V0 {i j:Bool}:decide (V.bl i=V.bl j)=(i==j):=by
 rw [Bool.eq_iff_iff]
 simp
theorem TC {i j:Str}:decide (V.str i=V.str j)=(i==j):=by
 rw [Bool.eq_iff_iff]
 simp
theorem TH {i j:Array UInt8}:decide (V.byt i=V.byt j)=(i.toList==j.toList):=by
 rw [Bool.eq_iff_iff]
 cases i
 cases j
 simp
section
variable {X:Cx}{a b c:Expr}{ta tb tc:TE}{pos:Pos}
theorem Aq {pins:List (Addr×Obj)}{σ:St}{H:Hp}{s:Shared}{Q:VK}{k k':Bool}(I:Inv X pins σ H s) (q:Q (.bl k) H) (e:k=k'):EP X pins σ Q (.bool k') s:=by
 subst e
 exact ⟨.bl k,H,I,rfl,q⟩
theorem Cj:OpR X (compareOp .Eq) rEq:=by
 intro pins s σ H x y v u Q I rx ry h
 obtain ⟨hs,q⟩:=h
 cases x with
 | non =>
  cases rx
  cases y with
  | non=>cases ry;exact PySem.EqNone.eq_none_none (Aq I q (by simp))
  | bl j=>cases ry;exact PySem.EqNone.eq_none_bool (Aq I q (by simp))
  | int j=>obtain ⟨t',rfl⟩:=ry;exact PySem.EqNone.eq_none_int (Aq I q (by simp))
  | str j=>obtain ⟨t',rfl⟩:=ry;exact PySem.EqNone.eq_none_str (Aq I q (by simp))
  | _=>exact absurd (show false=true from hs) Bool.false_ne_true
 | bl i =>
  cases rx
  cases y with
  | non=>cases ry;exact PySem.EqNone.eq_bool_none (Aq I q (by simp))
  | bl j=>cases ry;exact eq_bool (Aq I q V0)
  | str j=>obtain ⟨t',rfl⟩:=ry;exact PySem.EqMixed.eq_bool_str (Aq I q (by simp))
  | _=>exact absurd (show false=true from hs) Bool.false_ne_true
 | int i =>
  obtain ⟨t,rfl⟩:=rx
  cases y with
  | non=>cases ry;exact PySem.EqNone.eq_int_none (Aq I q (by simp))
  | int j=>obtain ⟨t',rfl⟩:=ry;exact eq_int (Aq I q TF)
  | str j=>obtain ⟨t',rfl⟩:=ry;exact PySem.EqMixed.eq_int_str (Aq I q (by simp))
  | _=>exact absurd (show false=true from hs) Bool.false_ne_true
 | str i =>
  obtain ⟨t,rfl⟩:=rx
  cases y with
  | non=>cases ry;exact PySem.EqNone.eq_str_none (Aq I q (by simp))
  | bl j=>cases ry;exact PySem.EqMixed.eq_str_bool (Aq I q (by simp))
  | int j=>obtain ⟨t',rfl⟩:=ry;exact PySem.EqMixed.eq_str_int (Aq I q (by simp))
  | str j=>obtain ⟨t',rfl⟩:=ry;exact eq_str (Aq I q TC)
  | _=>exact absurd (show false=true from hs) Bool.false_ne_true
 | byt i =>
  obtain ⟨t,rfl⟩:=rx
  cases y with
  | byt j=>obtain ⟨t',rfl⟩:=ry;exact PySem.W.eq_bytes (Aq I q TH)
  | _=>exact absurd (show false=true from hs) Bool.false_ne_true
 | _=>cases y <;> exact absurd (show false=true from hs) Bool.false_ne_true
theorem Jk:OpR X (compareOp .NotEq) rNe:=by
 intro pins s σ H x y v u Q I rx ry h
 obtain ⟨hs,q⟩:=h
 cases x with
 | non =>
  cases rx
  cases y with
  | non=>cases ry;exact PySem.EqNone.ne_none_none (Aq I q (by simp))
  | bl j=>cases ry;exact PySem.EqNone.ne_none_bool (Aq I q (by simp))
  | int j=>obtain ⟨t',rfl⟩:=ry;exact PySem.EqNone.ne_none_int (Aq I q (by simp))
  | str j=>obtain ⟨t',rfl⟩:=ry;exact PySem.EqNone.ne_none_str (Aq I q (by simp))
  | _=>exact absurd (show false=true from hs) Bool.false_ne_true
 | bl i =>
  cases rx
  cases y with
  | non=>cases ry;exact PySem.EqNone.ne_bool_none (Aq I q (by simp))
  | bl j=>cases ry;exact ne_bool (Aq I q (congrArg not V0))
  | str j=>obtain ⟨t',rfl⟩:=ry;exact PySem.EqMixed.ne_bool_str (Aq I q (by simp))
  | _=>exact absurd (show false=true from hs) Bool.false_ne_true
 | int i =>
  obtain ⟨t,rfl⟩:=rx
  cases y with
  | non=>cases ry;exact PySem.EqNone.ne_int_none (Aq I q (by simp))
  | int j=>obtain ⟨t',rfl⟩:=ry;exact ne_int (Aq I q (congrArg not TF))
  | str j=>obtain ⟨t',rfl⟩:=ry;exact PySem.EqMixed.ne_int_str (Aq I q (by simp))
  | _=>exact absurd (show false=true from hs) Bool.false_ne_true
 | str i =>
  obtain ⟨t,rfl⟩:=rx
  cases y with
  | non=>cases ry;exact PySem.EqNone.ne_str_none (Aq I q (by simp))
  | bl j=>cases ry;exact PySem.EqMixed.ne_str_bool (Aq I q (by simp))
  | int j=>obtain ⟨t',rfl⟩:=ry;exact PySem.EqMixed.ne_str_int (Aq I q (by simp))
  | str j=>obtain ⟨t',rfl⟩:=ry;exact ne_str (Aq I q (congrArg not TC))
  | _=>exact absurd (show false=true from hs) Bool.false_ne_true
 | byt i =>
  obtain ⟨t,rfl⟩:=rx
  cases y with
  | byt j=>obtain ⟨t',rfl⟩:=ry;exact PySem.W.ne_bytes (Aq I q (congrArg not TH))
  | _=>exact absurd (show false=true from hs) Bool.false_ne_true
 | _=>cases y <;> exact absurd (show false=true from hs) Bool.false_ne_true
theorem Z2:OpR X (compareOp .Lt) (rI0 fun i j=>.bl (decide (i<j))):=Wx fun _ _ _ _ _ _ _ q=>lt_int q
theorem Z3:OpR X (compareOp .LtE) (rI0 fun i j=>.bl (decide (i≤j))):=Wx fun _ _ _ _ _ _ _ q=>le_int q
theorem Z4:OpR X (compareOp .Gt) (rI0 fun i j=>.bl (decide (j<i))):=Wx fun _ _ _ _ _ _ _ q=>gt_int q
theorem Sn:OpR X (compareOp .GtE) (rI0 fun i j=>.bl (decide (j≤i))):=Wx fun _ _ _ _ _ _ _ q=>ge_int q
theorem Tf:OpR X (compareOp .In) (fun x y H Q=>∃i j,x=.str i/\y=.str j/\Q (.bl (!(Builtin.Str.occurrences j i 0 j.length 1).isEmpty)) H):=by
 intro pins s σ H x y v u Q I rx ry h
 obtain ⟨i,j,rfl,rfl,q⟩:=h
 obtain ⟨t,rfl⟩:=rx
 obtain ⟨t',rfl⟩:=ry
 exact in_str (Aq I q rfl)
theorem VF:OpR X (compareOp .Is) (fun x y H Q=>y=.non/\Q (.bl (decide (x=.non))) H):=by
 intro pins s σ H x y v u Q I rx ry h
 obtain ⟨rfl,q⟩:=h
 cases ry
 refine is_none_gen (Aq I q ?_)
 cases x <;> first
  | (cases rx;rfl)
  | (obtain ⟨t,rfl⟩:=rx;rfl)
theorem Sl:OpR X (compareOp .IsNot) (fun x y H Q=>y=.non/\Q (.bl (!decide (x=.non))) H):=by
 intro pins s σ H x y v u Q I rx ry h
 obtain ⟨rfl,q⟩:=h
 cases ry
 refine isnot_none_gen (Aq I q ?_)
 cases x <;> first
  | (cases rx;rfl)
  | (obtain ⟨t,rfl⟩:=rx;rfl)
theorem Ku:OpR X (compareOp .NotIn) (fun x y H Q=>∃i j,x=.str i/\y=.str j/\Q (.bl (!(!(Builtin.Str.occurrences j i 0 j.length 1).isEmpty))) H):=by
 intro pins s σ H x y v u Q I rx ry h
 obtain ⟨i,j,rfl,rfl,q⟩:=h
 obtain ⟨t,rfl⟩:=rx
 obtain ⟨t',rfl⟩:=ry
 exact notIn_str (Aq I q rfl)
theorem AX (b:Expr) {op:CmpOp}(h:op≠.In:=by decide) (h2:op≠.NotIn:=by decide):behindInMarks op b=false:=by
 have e1:(op==CmpOp.In)=false:=by cases op <;> first|rfl|exact absurd rfl h
 have e2:(op==CmpOp.NotIn)=false:=by cases op <;> first|rfl|exact absurd rfl h2
 cases b <;> simp [behindInMarks,e1,e2]
theorem Fc {op:CmpOp}{r:R2}(ho:OpR X (compareOp op) r) (ha:PE X a ta) (hb:PE X b tb) (hm:behindInMarks op b=false):PE X (.Compare a [op] [b] pos) (tOp r ta tb):=by
 intro pins s σ H Q I h
 exact wpAny_Compare1 (Y6 ha hb I h fun v u s2 x y H2 I2 rx ry q=>ho pins s2 σ H2 x y v u Q I2 rx ry q) hm
def Xk (t:TE):TT:=fun σ H Q=>t σ H fun x H'=>∃k,x=.bl k/\Q k H'
theorem AQ {op:CmpOp}{r:R2}(ho:OpR X (compareOp op) r) (ha:PE X a ta) (hb:PE X b tb) (hm:behindInMarks op b=false):PT X (.Compare a [op] [b] pos) (Xk (tOp r ta tb)):=by
 intro pins s σ H Q I h
 refine wpAny_isTrue_Compare1 (thn (ha pins s σ H _ I h) fun v s1 ⟨x,H1,I1,r1,q1⟩=>thn (hb pins s1 σ H1 _ I1 q1) fun u s2 ⟨y,H2,I2,r2,q2⟩ =>
  thn (ho pins s2 σ H2 x y v u _ I2 r1 r2 q2) fun c s3 ⟨z,H3,I3,r3,k,e,q3⟩=>?_) hm
 subst e
 cases r3
 exact wpAny_truthy_bool ⟨H3,I3,q3⟩
def Ud (r r':R2) (ta tb tc:TE):TE:=fun σ H Q=>ta σ H fun x H1=>tb σ H1 fun y H2=>r x y H2 fun z H3=>∃k,z=.bl k /\
 (if k=true then tc σ H3 fun w' H4=>r' y w' H4 Q else Q (.bl false) H3)
theorem Ks {op op':CmpOp}{r r':R2}(ho:OpR X (compareOp op) r) (ho':OpR X (compareOp op') r') (ha:PE X a ta) (hb:PE X b tb) (hc:PE X c tc)
  (hm:lastMarks [op,op'] [b,c]=false:=by with_unfolding_all rfl):PE X (.Compare a [op,op'] [b,c] pos) (Ud r r' ta tb tc):=by
 intro pins s σ H Q I h
 refine Compare_chain (thn (ha pins s σ H _ I h) fun v s1 ⟨x,H1,I1,r1,q1⟩=>chain_link (thn (hb pins s1 σ H1 _ I1 q1) fun u s2 ⟨y,H2,I2,r2,q2⟩ =>
  thn (ho pins s2 σ H2 x y v u _ I2 r1 r2 q2) fun d s3 ⟨z,H3,I3,r3,k,e,q3⟩=>?_)) hm
 subst e
 cases r3
 refine wpAny_truthy_bool ?_
 cases k with
 | false=>exact ite_ff ⟨.bl false,H3,I3,rfl,q3⟩
 | true=>exact ite_tt (chain_last (thn (hc pins s3 σ H3 _ I3 q3) fun w' s4 ⟨z',H4,I4,r4,q4⟩=>ho' pins s4 σ H4 y z' u w' Q I4 r2 r4 q4))
theorem Uv {op op':CmpOp}{r r':R2}(ho:OpR X (compareOp op) r) (ho':OpR X (compareOp op') r') (ha:PE X a ta) (hb:PE X b tb) (hc:PE X c tc)
  (hm:lastMarks [op,op'] [b,c]=false:=by with_unfolding_all rfl):PT X (.Compare a [op,op'] [b,c] pos) (Xk (Ud r r' ta tb tc)):=by
 intro pins s σ H Q I h
 refine isTrue_chain (thn (ha pins s σ H _ I h) fun v s1 ⟨x,H1,I1,r1,q1⟩=>test_link (thn (hb pins s1 σ H1 _ I1 q1) fun u s2 ⟨y,H2,I2,r2,q2⟩ =>
  thn (ho pins s2 σ H2 x y v u _ I2 r1 r2 q2) fun d s3 ⟨z,H3,I3,r3,k,e,q3⟩=>?_)) hm
 subst e
 cases r3
 refine wpAny_truthy_bool ?_
 cases k with
 | false =>
  obtain ⟨k',e',q'⟩:=q3
  cases e'
  exact ite_ff ⟨H3,I3,q'⟩
 | true =>
  refine ite_tt (test_last (thn (hc pins s3 σ H3 _ I3 q3) fun w' s4 ⟨z',H4,I4,r4,q4⟩=>thn (ho' pins s4 σ H4 y z' u w' _ I4 r2 r4 q4) fun d' s5 ⟨z2,H5,I5,r5,k2,e2,q5⟩=>?_))
  subst e2
  cases r5
  exact wpAny_truthy_bool ⟨H5,I5,q5⟩
theorem NU:(sizeLine:Nat)<2 ^ 63:=by rw [sizeLine_eq];decide
theorem Hf:OpR X (binaryOp .Add) (fun x y H Q=>∃i j,x=.str i/\y=.str j/\i.length+j.length≤sizeLine/\Q (.str (i++j)) H):=by
 intro pins s σ H x y v u Q I rx ry h
 obtain ⟨i,j,rfl,rfl,hz,q⟩:=h
 obtain ⟨t,rfl⟩:=rx
 obtain ⟨t',rfl⟩:=ry
 exact add_str (fun t' tk=>⟨.str (i++j),H,I.tok _,⟨_,rfl⟩,q⟩) hz
theorem vals1 {x:V}{us:List Value}(r:Vals [x] us):∃u,us=[u]/\RelV x u:=by
 cases r with
 | cons r1 r2=>cases r2;exact ⟨_,rfl,r1⟩
theorem vals2 {x y:V}{us:List Value}(r:Vals [x,y] us):∃u w',us=[u,w']/\RelV x u/\RelV y w':=by
 cases r with
 | cons r1 r2 =>
  cases r2 with
  | cons r3 r4=>cases r4;exact ⟨_,_,rfl,r1,r3⟩
theorem Ac:DT X (.type "str") (fun xs H Q=>∃i,xs=[.int i]/\i.natAbs.log2<1920/\Q (.str (toString i)) H):=by
 intro pins s σ H xs us Q I r h
 obtain ⟨i,rfl,hz,q⟩:=h
 obtain ⟨u,rfl,t,rfl⟩:=vals1 r
 exact PySem.P.str_of_int hz ⟨.str _,H,I.tok _,⟨_,rfl⟩,q⟩
end
end L2
namespace L2
open PySem PySem.Spec PyProof.Rows
structure R9 (h:Heap) (x dx C:Addr) (mA:Str→Option Value):Prop where
 obj:h.get? x=some (PySem.W.instObj C dx)
 ns:h.Ns1 dx mA
 ne:dx≠x
theorem OP {h:Heap}{dx:Addr}{mA:Str→Option Value}(n:h.Ns1 dx mA):∃od,h.get? dx=some od/\∀name,PySem.W.lookIn name od=some (mA name):=by
 obtain ⟨o,es,ep,ho,hd,hk,_,hm⟩:=n
 refine ⟨o,ho,fun name=>?_⟩
 have e:=hm name
 unfold nsFind findBy at e
 rw [←Array.find?_toList] at e
 unfold PySem.W.lookIn
 rw [hd]
 dsimp only
 split
 ·rename_i y q
  rw [q] at e
  exact congrArg some e
 ·rename_i q
  rw [q] at e
  have a:es.toList.any (·.refKey)=false:=by
   rw [List.any_eq_false]
   intro y hy
   obtain ⟨z,t,hkey⟩:=hk y (Array.mem_toList_iff.mp hy)
   simp [DictEntry.refKey,hkey]
  have a':¬ es.toList.any (·.refKey)=true:=by rw [a];exact Bool.false_ne_true
  rw [if_neg a']
  exact congrArg some e
theorem R9.look {h:Heap}{x dx C:Addr}{mA:Str→Option Value}(I:R9 h x dx C mA):∃od,PySem.W.InstAt h x (PySem.W.instObj C dx) C (some od)/\∀name,PySem.W.lookIn name od=some (mA name) :=
 let ⟨od,ho,hl⟩:=OP I.ns
 ⟨od,⟨I.obj,rfl,rfl,ho⟩,hl⟩
section
variable {prog:Program}{w:World}{A:Around}{E:Value→Shared→Prop}{s:Shared}{K:PySem.W.Frag}{x dx C f:Addr}{mA:Str→Option Value}{name:Str}{v:Value}
theorem get_map {expr:Bool}{Q:Value→Shared→Prop}(X:K.In s.heap) (I:R9 s.heap x dx C mA) (hg:PySem.W.plainGet K C name=true) (hh:PySem.W.hasDictIn K C=true)
  (ha:PySem.W.findIn K (.ref C) name=some none) (hv:mA name=some v) (hv':PySem.W.handedIn v=true) (h:Q v { s with toks:=s.toks+1 }) :
  wpAny (model prog w) A (getAttr (.ref x) name expr) Q E s:=by
 obtain ⟨od,J,hl⟩:=I.look
 exact PySem.W.get_value X J (PySem.W.plainGet_of hg).1 (PySem.W.findObj_own hh ha rfl (by rw [hl,hv])) hv' h
theorem Vm {pl:Sem Bool}{Q:Value×List Value→Shared→Prop}(X:K.In s.heap) (I:R9 s.heap x dx C mA) (hg:PySem.W.plainGet K C name=true)
  (hf:PySem.W.findIn K (.ref C) name=some (some (.ref f))) (ht:PySem.W.isFn K (.ref f)=true) (hv:mA name=none) (h:Q (.ref f,[.ref x]) s) :
  wpAny (model prog w) A (getMethod (.ref x) name pl) Q E s:=by
 obtain ⟨od,J,hl⟩:=I.look
 exact PySem.W.method_fn X J (PySem.W.plainGet_of hg).1 (PySem.W.plainGet_of hg).2 hf (beq_iff_eq.mp ht) (by show (PySem.W.lookIn name od).map (·.isSome)=some false;rw [hl,hv];rfl) h
theorem Wb {ns:List Str}{Q:Unit→Shared→Prop}(X:K.In s.heap) (I:R9 s.heap x dx C mA)
  (hs:PySem.W.findIn K (.ref C) "__setattr__" = some (some (.builtin "object.__setattr__"))) (hp:PySem.W.plainOver K C=true) (ht:PySem.W.takerIn K C name=some none) (hh:PySem.W.hasDictIn K C=true)
  (hw:PySem.Within mA ns) (hsz:ns.length≤sizeLine)
  (h:∀h',R9 h' x dx C (fun y=>if y=name then some v else mA y)→Heap.SameBut dx s.heap h'→Q () { s with heap:=h',toks:=s.toks+2 }) :
  wpAny (model prog w) A (setAttr (.ref x) name v) Q E s:=by
 obtain ⟨od,J,hl⟩:=I.look
 refine PySem.W.set_plain X J hs (PySem.W.osa_open (s:={ s with toks:=s.toks+1 }) (r:=none) X J hp ht fun b=>?_)
 obtain ⟨cd,hc,hd'⟩:=PySem.W.any_some hh
 have hx:s.heap.get? x=some ⟨.ref C,some dx,.plain,#[]⟩:=I.obj
 refine wpAny_bind (wpAny_pure (wpAny_bind (wpAny_bind (wpAny_loadPart hx (wpAny_bind (PySem.W.Looks.here (s:={ s with toks:=s.toks+1 }) (PySem.W.looks_clsIn X hc) ?_))))))
 rw [hd']
 refine wpAny_pure (a:=some dx) (wpAny_bind (wpAny_pure (wpAny_bind ?_)))
 refine wpAny_nsSet1 (s:={ s with toks:=s.toks+1 }) I.ns fun h' hn2 hs2=>?_
 obtain ⟨oD,esD,epD,hoD,hdD,hcD⟩:=hn2.count (PySem.Within.cons name v hw)
 refine wpAny_bind (wpAny_lookBehind hoD (by rw [hdD];exact pastItsLine_dict (Nat.le_trans hcD (by rw [List.length_cons];omega))) ?_)
 exact wpAny_pure (h _ ⟨(hs2.2 _ (Ne.symm I.ne)).trans I.obj,hn2,I.ne⟩ hs2)
theorem VY {R:Result→Shared→Prop}{vs:List Value}{kw:List (Str×Value)}(X:K.In s.heap) (hm:PySem.W.makesIn K C=true)
  (hi:PySem.W.findIn K (.ref C) "__init__" = some (some (.ref f))) (hf:PySem.W.typeIn K (.ref f)=some (.type "function"))
  (h:codeAny (model prog w) (A.under (.builtin "type.__call__" ⟨.ref C::vs,kw⟩)) (.call (.ref f) ⟨.ref (s.heap.objs.size+1)::vs,kw⟩) (PySem.W.InitBack (s.heap.objs.size+1) R)
   { s with heap:=(s.heap.push PySem.W.emptyDict).push (PySem.W.instObj C s.heap.objs.size) }) :
  codeAny (model prog w) A (.call (.ref C) ⟨vs,kw⟩) R s:=by
 obtain ⟨hh,g,d,t,os⟩:=s
 exact PySem.W.make_core (PySem.W.makes_of X hm) (PySem.W.looks_findIn X hi) (fun self=>PySem.W.bind_fn X self hf) (.inl rfl) h
end
def G6 (f:Str) (v:V):List (Str×V)→List (Str×V)
 | []=>[(f,v)]
 | (g,x)::r=>if g=f then (g,v)::r else (g,x)::G6 f v r
theorem MS (f g:Str) (v:V):∀fs:List (Str×V),(G6 f v fs).lookup g=if g=f then some v else fs.lookup g
 | []=>by
  show List.lookup g [(f,v)]=_
  by_cases h:g=f
  ·have hb:(g==f)=true:=beq_iff_eq.mpr h
   simp only [List.lookup,hb,if_pos h]
  ·have hb:(g==f)=false:=beq_eq_false_iff_ne.mpr h
   simp only [List.lookup,hb,if_neg h]
 | (k,x)::r=>by
  have ih:=MS f g v r
  rw [show G6 f v ((k,x)::r)=(if k=f then (k,v)::r else (k,x)::G6 f v r) from rfl]
  by_cases hk:k=f
  ·rw [if_pos hk]
   by_cases h:g=k
   ·have hb:(g==k)=true:=beq_iff_eq.mpr h
    simp only [List.lookup,hb,if_pos (h.trans hk)]
   ·have hb:(g==k)=false:=beq_eq_false_iff_ne.mpr h
    simp only [List.lookup,hb,if_neg (fun e:g=f=>h (e.trans hk.symm))]
  ·rw [if_neg hk]
   by_cases h:g=k
   ·have hb:(g==k)=true:=beq_iff_eq.mpr h
    simp only [List.lookup,hb,if_neg (fun e:g=f=>hk (h.symm.trans e))]
   ·have hb:(g==k)=false:=beq_eq_false_iff_ne.mpr h
    simp only [List.lookup,hb]
    exact ih
theorem Lg (f:Str) (v:V):∀fs:List (Str×V),f∈(G6 f v fs).map (·.1)/\∀g,g∈fs.map (·.1)→g∈(G6 f v fs).map (·.1)
 | []=>⟨by simp [G6],fun g h=>by simp at h⟩
 | (k,x)::r=>by
  obtain ⟨i1,i2⟩:=Lg f v r
  rw [show G6 f v ((k,x)::r)=(if k=f then (k,v)::r else (k,x)::G6 f v r) from rfl]
  by_cases hk:k=f
  ·rw [if_pos hk]
   subst hk
   exact ⟨by simp,fun g h=>by simpa using h⟩
  ·rw [if_neg hk]
   refine ⟨?_,fun g h=>?_⟩
   ·rw [List.map_cons]
    exact List.mem_cons_of_mem _ i1
   ·rw [List.map_cons] at h ⊢
    rcases List.mem_cons.mp h with e|e
    ·exact List.mem_cons.mpr (.inl e)
    ·exact List.mem_cons_of_mem _ (i2 g e)
theorem MT (f:Str) (v:V):∀fs:List (Str×V),(G6 f v fs).length≤fs.length+1
 | []=>by simp [G6]
 | (k,x)::r=>by
  have ih:=MT f v r
  rw [show G6 f v ((k,x)::r)=(if k=f then (k,v)::r else (k,x)::G6 f v r) from rfl]
  by_cases hk:k=f
  ·rw [if_pos hk,List.length_cons,List.length_cons];omega
  ·rw [if_neg hk,List.length_cons,List.length_cons];omega
theorem GY.some_of {v:V}{o:Option Value}(r:GY (some v) o):∃u,o=some u/\RelV v u:=by
 cases o with
 | none=>exact (show False from r).elim
 | some u=>exact ⟨u,rfl,r⟩
theorem GY.none_of {o:Option Value}(r:GY none o):o=none:=by
 cases o with
 | none=>rfl
 | some u=>exact (show False from r).elim
theorem OV {v:V}{u:Value}(r:RelV v u):PySem.W.handedIn u=true:=by
 cases v with
 | non=>cases (show u=Value.none from r);rfl
 | bl b=>cases (show u=Value.bool b from r);rfl
 | int i=>obtain ⟨t,e⟩:=(show ∃t,u=Value.int i t from r);cases e;rfl
 | str x=>obtain ⟨t,e⟩:=(show ∃t,u=Value.str x t from r);cases e;rfl
 | byt b=>obtain ⟨t,e⟩:=(show ∃t,u=Value.bytes b t from r);cases e;rfl
 | flt b=>obtain ⟨t,e⟩:=(show ∃t,u=Value.float b t from r);cases e;rfl
 | ref a=>cases (show u=Value.ref a from r);rfl
 | ty n=>cases (show u=Value.type n from r);rfl
section
variable {P:Program}{w:World}{H H':Hp}{h h':Heap}{a C dx:Addr}{fs fs':List (Str×V)}
theorem Mp (hok:HOk P w H h) (e:H a=some (.ins C dx fs)):∃mA,R9 h a dx C mA/\(∀f,GY (fs.lookup f) (mA f))/\PySem.Within mA (fs.map (·.1))/\fs.length≤1000/\H dx=some (.own a):=by
 obtain ⟨d,z,ne,ob,mA,n,r,q⟩:=(show BJ P w H h a (.ins C dx fs) from hok a _ e)
 exact ⟨mA,⟨ob,n,ne⟩,r,q,z,d⟩
end
structure Cls (K:PySem.W.Frag) (C:Addr):Prop where
 pg:PySem.W.plainGet K C Str.empty=true
 hd:PySem.W.hasDictIn K C=true
 po:PySem.W.plainOver K C=true
 sa:PySem.W.findIn K (.ref C) "__setattr__" = some (some (.builtin "object.__setattr__"))
theorem Cls.get {K:PySem.W.Frag}{C:Addr}(c:Cls K C) (f:Str):PySem.W.plainGet K C f=true:=c.pg
def CM (K:PySem.W.Frag) (C:Addr) (f:Str):Prop:=PySem.W.findIn K (.ref C) f=some none
theorem CM.ZO {K:PySem.W.Frag}{C:Addr}{f:Str}(n:CM K C f):PySem.W.takerIn K C f=some none:=by
 unfold PySem.W.takerIn
 rw [show PySem.W.findIn K (.ref C) f=some none from n]
 rfl
structure Meth (K:PySem.W.Frag) (C:Addr) (m:Str) (f:Addr):Prop where
 at_:PySem.W.findIn K (.ref C) m=some (some (.ref f))
 fn:PySem.W.isFn K (.ref f)=true
 kp:PySem.W.keepIn K (.ref f)=true
section
variable {X:Cx}{pins:List (Addr×Obj)}{σ:St}{H:Hp}{s:Shared}{a C dx:Addr}{fs:List (Str×V)}{f:Str}{v:V}{A:Around}{E:Value→Shared→Prop}
theorem Rp {b:Bool}{Q:Value→Shared→Prop}(I:Inv X pins σ H s) (e:H a=some (.ins C dx fs)) (c:Cls X.K C) (n:CM X.K C f) (l:fs.lookup f=some v)
  (h:∀u s',Inv X pins σ H s'→RelV v u→Q u s'):wpAny (model X.prog X.w) A (getAttr (.ref a) f b) Q E s:=by
 obtain ⟨mA,O,r,_,_,_⟩:=Mp I.hok e
 obtain ⟨u,hu,ru⟩:=GY.some_of (v:=v) (o:=mA f) (by rw [←l];exact r f)
 exact get_map I.kIn O (c.get f) c.hd n hu (OV ru) (h u _ (I.tok _) ru)
theorem Nc {m:Str}{g:Addr}{pl:Sem Bool}{Q:Value×List Value→Shared→Prop}(I:Inv X pins σ H s) (e:H a=some (.ins C dx fs)) (c:Cls X.K C) (k:Meth X.K C m g) (l:fs.lookup m=none)
  (h:Q (.ref g,[.ref a]) s):wpAny (model X.prog X.w) A (getMethod (.ref a) m pl) Q E s:=by
 obtain ⟨mA,O,r,_,_,_⟩:=Mp I.hok e
 have hn:mA m=none:=GY.none_of (by rw [←l];exact r m)
 exact Vm I.kIn O (c.get m) k.at_ k.fn hn h
theorem RF {y:V}{u:Value}{Q:Unit→Shared→Prop}(I:Inv X pins σ H s) (e:H a=some (.ins C dx fs)) (c:Cls X.K C) (n:CM X.K C f) (hl:fs.length<1000) (ry:RelV y u)
  (h:∀s',Inv X pins σ (upd H a (.ins C dx (G6 f y fs))) s'→Q () s'):wpAny (model X.prog X.w) A (setAttr (.ref a) f u) Q E s:=by
 obtain ⟨mA,O,r,wi,_,ho⟩:=Mp I.hok e
 have hz:(fs.map (·.1)).length≤sizeLine:=by rw [List.length_map,sizeLine_eq];omega
 refine Wb I.kIn O c.sa c.po n.ZO c.hd wi hz fun h' O' sb=>h _ ?_
 have hd:∃o,h'.get? dx=some o:=let ⟨o,_,_,e',_⟩:=O'.ns;⟨o,e'⟩
 refine I.write (x:=a) (e:=dx) (by rw [e];exact True.intro) (.inr ho) (fun b q hb z=>(sb.2 b hb).trans z) hd ?_
 refine ⟨by rw [AM O.ne];exact ho,?_,O.ne,O'.obj,_,O'.ns,fun g=>?_,fun g hg=>?_⟩
 ·have:=MT f y fs;omega
 ·show GY ((G6 f y fs).lookup g) (if g=f then some u else mA g)
  rw [MS]
  by_cases q:g=f
  ·rw [if_pos q,if_pos q];exact ry
  ·rw [if_neg q,if_neg q];exact r g
 ·by_cases q:g=f
  ·rw [q];exact (Lg f y fs).1
  ·refine (Lg f y fs).2 g (wi g fun z=>hg ?_)
   show (if g=f then some u else mA g)=none
   rw [if_neg q];exact z
theorem Inv.made (I:Inv X pins σ H s):Inv X pins σ (upd (upd H s.heap.objs.size (.own (s.heap.objs.size+1))) (s.heap.objs.size+1) (.ins C s.heap.objs.size []))
  { s with heap:=(s.heap.push PySem.W.emptyDict).push (PySem.W.instObj C s.heap.objs.size) }:=by
 have e1:(s.heap.push PySem.W.emptyDict).get? s.heap.objs.size=some PySem.W.emptyDict:=Heap.get?_push_size s.heap rfl
 have e2:((s.heap.push PySem.W.emptyDict).push (PySem.W.instObj C s.heap.objs.size)).get? (s.heap.objs.size+1)=some (PySem.W.instObj C s.heap.objs.size):=by
  have:=Heap.get?_push_size (s.heap.push PySem.W.emptyDict) (o:=PySem.W.instObj C s.heap.objs.size) rfl
  rwa [Heap.size_push] at this
 have e3:(s.heap.push PySem.W.emptyDict).Ns s.heap.objs.size (fun _=>none):=⟨PySem.W.emptyDict,#[],_,e1,rfl,(fun e he=>absurd he (by simp)),fun _=>rfl⟩
 have I1:=I.laid (a:=s.heap.objs.size) (o:=.own (s.heap.objs.size+1)) (h':=s.heap.push PySem.W.emptyDict) (t':=s.toks) (fun b u q=>Heap.get?_push_of_some _ q) (Nat.le_refl _) ⟨_,e1⟩
 refine I1.laid (a:=s.heap.objs.size+1) (o:=.ins C s.heap.objs.size []) (t':=s.toks) (fun b u q=>Heap.get?_push_of_some _ q) (Nat.le_of_eq (Heap.size_push _ _)) ?_
 have ne:s.heap.objs.size≠s.heap.objs.size+1:=Nat.ne_of_lt (Nat.lt_succ_self _)
 refine ⟨by rw [AM ne,AG],Nat.zero_le _,ne,e2,fun _=>none,(Heap.Ns1.of_empty e3).at fun o q=>Heap.get?_push_of_some _ q,fun _=>True.intro,fun y hy=>absurd rfl hy⟩
theorem TM {prog:Program}{w:World}{env:Env}{e:Expr}{f:Str}{pos:Pos}{s:Shared}{Q:Value→Shared→Prop}(hb:attributeBase e f env (eval e env)=eval e env)
  (h:wpAny (model prog w) A (eval e env) (fun o s₁=>wpAny (model prog w) A (getAttr o f true) Q E s₁) E s):wpAny (model prog w) A (eval (.Attribute e f pos) env) Q E s :=
 Attribute_any_ h (by rw [arm_eval_Attribute,hb])
end
def bQ (K:PySem.W.Frag) (ta:TE) (f:Str):TE:=fun σ H Q=>ta σ H fun x H1=>∃a C dx fs v,x=.ref a/\H1 a=some (.ins C dx fs)/\Cls K C/\CM K C f/\fs.lookup f=some v/\Q v H1
def bU (K:PySem.W.Frag) (ta tv:TE) (f:Str):TS:=fun D σ H=>tv σ H fun y H1=>ta σ H1 fun x H2=>∃a C dx fs,x=.ref a/\H2 a=some (.ins C dx fs)/\Cls K C/\CM K C f/\fs.length<1000 /\
 D.nx σ (upd H2 a (.ins C dx (G6 f y fs)))
section
variable {X:Cx}{o e value:Expr}{f:Str}{pos pos' tpos:Pos}{ta tv:TE}
theorem Cr (he:PE X e ta) (hb:attributeBase e f X.env (eval e X.env)=eval e X.env):PE X (.Attribute e f pos) (bQ X.K ta f):=by
 intro pins s σ H Q I h
 refine TM hb (thn (he pins s σ H _ I h) fun u s1 ⟨x,H1,I1,rx,a,C,dx,fs,v,ex,ea,c,n,l,q⟩=>?_)
 subst ex
 obtain rfl:u=Value.ref a:=rx
 exact Rp I1 ea c n l fun u' s2 I2 ru=>⟨v,H1,I2,ru,q⟩
theorem DV (ha:PE X o ta) (hv:PE X value tv) (hs:swapsWith value (some (.Attribute o f pos')) pos.line X.env=pure false):PS X (.Assign [.Attribute o f pos'] value pos) (bU X.K ta tv f):=by
 intro pins s σ H D I h
 refine plainObj_wpAny_Assign_Attribute (thn (hv pins s σ H _ I h) fun u s1 ⟨y,H1,I1,ry,q⟩=>thn (ha pins s1 σ H1 _ I1 q) fun ov s2 ⟨x,H2,I2,rx,a,C,dx,fs,ex,ea,c,n,l,q2⟩=>?_) hs
 subst ex
 obtain rfl:ov=Value.ref a:=rx
 exact RF I2 ea c n l ry fun s3 I3=>⟨σ,_,I3,q2⟩
end
section
variable {X:Cx}{pins:List (Addr×Obj)}{σ:St}{H:Hp}{s:Shared}{A:Around}{E:Value→Shared→Prop}{Q:Value→Shared→Prop}{c:Value}{b:Bool}
inductive LJ (K:PySem.W.Frag) (H:Hp):V→Value→Prop where
 | non:LJ K H .non (.type "NoneType")
 | bl (x:Bool):LJ K H (.bl x) (.type "bool")
 | int (i:Int):LJ K H (.int i) (.type "int")
 | str (x:Str):LJ K H (.str x) (.type "str")
 | flt (x:UInt64):LJ K H (.flt x) (.type "float")
 | lst {a:Addr} {xs:List V} (e:H a=some (.lst xs)):LJ K H (.ref a) (.type "list")
 | frz {a:Addr} {o:Obj} {xs:List V} (e:H a=some (.frz o (.lst xs))):LJ K H (.ref a) (.type "list")
 | tup {a:Addr} {xs:List V} (e:H a=some (.tup xs)):LJ K H (.ref a) (.type "tuple")
 | dK {a:Addr} {kvs:List (Key×V)} (e:H a=some (.dK kvs)):LJ K H (.ref a) (.type "dict")
 | dT {a:Addr} {kvs:List (List Key×V)} (e:H a=some (.dT kvs)):LJ K H (.ref a) (.type "dict")
 | ins {a C dx:Addr} {fs:List (Str×V)} (e:H a=some (.ins C dx fs)) (cl:Cls K C) (ha:PySem.W.findIn K (.ref C) "__class__" = some (some (.builtin "object.__class__")))
   (hn:PySem.W.specialIn K (.builtin "object.__class__") "__get__" = some (some (.builtin "getset_descriptor.__get__"))) (htk:PySem.W.takesIn K (.builtin "object.__class__")=some true)
   (hm:PySem.W.mroIn K C (.type "object")=some true):LJ K H (.ref a) (.ref C)
theorem T9 {x:V} {u t:Value} (I:Inv X pins σ H s) (rx:RelV x u) (ty:LJ X.K H x t) (e:PySem.W.kitOne X.K t c=some b) (h:∀tk,Q (.bool b) { s with toks:=tk }) :
  wpAny (model X.prog X.w) A (call (.builtin "isinstance") [u,c]) Q E s:=by
 cases ty with
 | non=>cases (show u=Value.none from rx);exact PySem.W.kia_one PySem.W.kitx_none I.kIn True.intro e (fun z=>nomatch z) h
 | bl y=>cases (show u=Value.bool y from rx);exact PySem.W.kia_one PySem.W.kitx_bool I.kIn True.intro e (fun z=>nomatch z) h
 | int i=>obtain ⟨t,q⟩:=(show ∃t,u=Value.int i t from rx);cases q;exact PySem.W.kia_one PySem.W.kitx_int I.kIn True.intro e (fun z=>nomatch z) h
 | str y=>obtain ⟨t,q⟩:=(show ∃t,u=Value.str y t from rx);cases q;exact PySem.W.kia_one PySem.W.kitx_str I.kIn True.intro e (fun z=>nomatch z) h
 | flt y=>obtain ⟨t,q⟩:=(show ∃t,u=Value.float y t from rx);cases q;exact PySem.W.kia_one PySem.W.kitx_float I.kIn True.intro e (fun z=>nomatch z) h
 | @lst a xs ea =>
  cases (show u=Value.ref a from rx)
  obtain ⟨_,_,n,_,h1⟩:=(show BJ X.prog X.w H s.heap a (.lst xs) from I.hok a _ ea)
  exact PySem.W.kia_one PySem.W.kitx_list I.kIn ⟨_,h1,rfl⟩ e (fun z=>nomatch z) h
 | @frz a ob xs ea =>
  cases (show u=Value.ref a from rx)
  obtain ⟨_,_,_,n,_,h1⟩:=(show BJ X.prog X.w H s.heap a (.frz ob (.lst xs)) from I.hok a _ ea)
  exact PySem.W.kia_one PySem.W.kitx_list I.kIn ⟨_,h1,rfl⟩ e (fun z=>nomatch z) h
 | @tup a xs ea =>
  cases (show u=Value.ref a from rx)
  obtain ⟨_,_,_,p⟩:=(show BJ X.prog X.w H s.heap a (.tup xs) from I.hok a _ ea)
  obtain ⟨o,h1,h2,_⟩:=p
  exact PySem.W.kia_one PySem.W.kitx_tuple I.kIn ⟨o,h1,h2⟩ e (fun z=>nomatch z) h
 | @dK a kvs ea =>
  cases (show u=Value.ref a from rx)
  obtain ⟨_,_,vs,_,p⟩:=(show BJ X.prog X.w H s.heap a (.dK kvs) from I.hok a _ ea)
  obtain ⟨o,es,ep,h1,h2,_⟩:=p
  exact PySem.W.kia_one PySem.W.kitx_dict I.kIn ⟨o,h1,h2.1⟩ e (fun z=>nomatch z) h
 | @dT a kvs ea =>
  cases (show u=Value.ref a from rx)
  obtain ⟨_,_,xs,_,o,es,ep,h1,h2,_⟩:=(show BJ X.prog X.w H s.heap a (.dT kvs) from I.hok a _ ea)
  exact PySem.W.kia_one PySem.W.kitx_dict I.kIn ⟨o,h1,h2.1⟩ e (fun z=>nomatch z) h
 | @ins a C dx fs ea cl ha hn htk hm =>
  cases (show u=Value.ref a from rx)
  obtain ⟨mA,O,_⟩:=Mp I.hok ea
  obtain ⟨od,J,_⟩:=O.look
  exact PySem.W.kia_one (PySem.W.kitx_own (cl.get _) cl.hd ha hn htk hm) I.kIn J e (fun z=>nomatch z) h
end
end L2
namespace L2
open PySem PySem.Spec PyProof.Rows
structure Co (k:Nat) (A:Around):Prop where
 hd:A.handled=none
 dp:A.depth+3 * k+5<recursionLimit
 un:A.units+16 * k+200<cLine
theorem Co.mono {j k:Nat}{A:Around}(r:Co k A) (h:j≤k):Co j A:=⟨r.hd,by have:=r.dp;omega,by have:=r.un;omega⟩
theorem Co.deeper {k:Nat}{A:Around}(r:Co (k+1) A) (env:Env):Co k (A.deeper env) :=
 ⟨r.hd,by have:=r.dp;show A.depth+1+3 * k+5<_;omega,by have:=r.un;show A.units+3+16 * k+200<_;omega⟩
theorem Ra {A:Around}{C:Addr}{us:List Value}{kw:List (Str×Value)}:(A.under (.builtin "type.__call__" ⟨.ref C::us,kw⟩)).depth=A.depth+1:=by
 first|rfl|simp [Around.under,Code.weight,Code.isCreation,Code.isGuard,Code.isCaller,Code.frames,Code.isFrame,guardIds]
theorem RZ {A:Around}{C:Addr}{us:List Value}{kw:List (Str×Value)}:(A.under (.builtin "type.__call__" ⟨.ref C::us,kw⟩)).units=A.units+1:=by
 first|rfl|simp [Around.under,Code.cUnits,Code.frames,Code.isFrame]
theorem Co.make {k:Nat}{A:Around}(r:Co (k+1) A) (C:Addr) (us:List Value) (kw:List (Str×Value)):Co k (A.under (.builtin "type.__call__" ⟨.ref C::us,kw⟩)) :=
 ⟨r.hd,by have:=r.dp;rw [Ra];omega,by have:=r.un;rw [RZ];omega⟩
theorem Co.depth {k:Nat}{A:Around}(r:Co k A):A.depth<recursionLimit:=by have:=r.dp;omega
theorem Co.Gu {k:Nat}{A:Around}(r:Co k A):A.units<cLine:=by have:=r.un;omega
def Oq:TA:=fun _ H Q=>Q [] H
def Ls (ta:TE) (tr:TA):TA:=fun σ H Q=>ta σ H fun x H1=>tr σ H1 fun xs H2=>Q (x::xs) H2
section
variable {X:Cx}{e:Expr}{es:List Expr}{te:TE}{t:TA}{pos:Pos}
theorem AB:PA X [] Oq:=fun _ _ _ _ H Q I h=>Calls.spliced_nil ⟨[],H,I,.nil,h⟩
theorem AA (ha:PE X e te) (hr:PA X es t) (hs:starEach (e::es) X.env=(false,eval e X.env)::starEach es X.env:=by rfl):PA X (e::es) (Ls te t):=by
 intro pos pins s σ H Q I h
 rw [hs]
 show wpAny _ _ (spliced ((false,eval e X.env)::backTo pos (starEach es X.env))) _ _ s
 refine Calls.spliced_cons (thn (ha pins s σ H _ I h) fun u s1 ⟨x,H1,I1,r1,q1⟩=>?_)
 exact thn (hr pos pins s1 σ H1 _ I1 q1) fun us s2 ⟨xs,H2,I2,r2,q2⟩=>⟨x::xs,H2,I2,.cons r1 r2,q2⟩
def WK (t:TA):TE:=fun σ H Q=>t σ H fun xs H1=>xs.length≤sizeLine/\∀p,H1 p=none→Q (.ref p) (upd H1 p (.tup xs))
def bM (t:TA):TE:=fun σ H Q=>t σ H fun xs H1=>xs.length≤sizeLine/\∀p,H1 p=none→Q (.ref p) (upd H1 p (.lst xs))
theorem Av {x1}(h:PA X es t):PE X (.Tuple es x1 pos) (WK t):=by
 intro pins s σ H Q I hq
 refine wpAny_Tuple_spliced (thn (h pos pins s σ H _ I hq) fun us s1 ⟨xs,H1,I1,r,z,q⟩=>⟨by rw [←r.length];exact z,?_⟩)
 have hf:H1 s1.heap.objs.size=none:=I1.hok.fresh (Nat.le_refl _)
 refine ⟨.ref s1.heap.objs.size,upd H1 s1.heap.objs.size (.tup xs),I1.laid (t':=s1.toks) (fun b u e=>Heap.get?_push_of_some _ e) (Nat.le_refl _) ?_,rfl,q _ hf⟩
 exact ⟨z,us,r,⟨_,Heap.get?_push_size _ rfl,rfl,_,rfl⟩⟩
theorem Ak (h:PA X es t):PE X (.List es pos) (bM t):=by
 intro pins s σ H Q I hq
 refine wpAny_List_spliced (thn (h pos pins s σ H _ I hq) fun us s1 ⟨xs,H1,I1,r,z,q⟩=>⟨by rw [←r.length];exact z,?_⟩)
 have hf:H1 s1.heap.objs.size=none:=I1.hok.fresh (Nat.le_refl _)
 refine ⟨.ref s1.heap.objs.size,upd H1 s1.heap.objs.size (.lst xs),I1.laid (t':=s1.toks) (fun b u e=>Heap.get?_push_of_some _ e) (Nat.le_refl _) ?_,rfl,q _ hf⟩
 exact ⟨z,us,0,r,Heap.get?_push_size _ rfl⟩
end
abbrev Sp:=List V→Hp→VK→XK→Prop
abbrev CXT:=List Env→Hp→Shared→XK→Value→Shared→Prop
structure Q6 (P:Program) (w:World) (K:PySem.W.Frag) (mg:Str→Option Value) (base:Heap) (A:Around) (outer:List Env) (s:Shared) (H:Hp):Prop where
 frames:A.frames=some outer
 mod:Mod K mg base
 bs:∀b o,base.get? b=some o→s.heap.get? b=some o/\H b=none
 bsz:base.objs.size≤s.heap.objs.size
 Io:s.heap.FunFrames base outer
 frf:∀b∈frs outer,H b=none
 hok:HOk P w H s.heap
 bare:AllBare s.gens
def CE (outer:List Env) (P:Program) (w:World) (H:Hp) (s:Shared) (Q:VK) (u:Value) (s':Shared):Prop :=
 ∃v H',s'.os=s.os/\AllBare s'.gens/\Un (frs outer) [] H H' s.heap s'.heap/\HOk P w H' s'.heap/\RelV v u/\Q v H'
def CR (CX:CXT) (outer:List Env) (P:Program) (w:World) (H:Hp) (s:Shared) (Q:VK) (E:XK) (r:Result) (s':Shared):Prop :=
 match r with
 | .ok (.ret u)=>CE outer P w H s Q u s'
 | .ok _=>False
 | .error e=>CX outer H s E e s'
structure Ao (P:Program) (w:World) (K:PySem.W.Frag) (mg:Str→Option Value) (base:Heap) (CX:CXT) (k:Nat) (f:Addr) (fd:FuncData) (ps:List Str) (sp:Sp):Prop where
 len:∀vs H Q E,sp vs H Q E→vs.length=ps.length
 run:∀(A:Around) (outer:List Env) (s:Shared) (H:Hp) (args:Args) (us:List Value) (vs:List V) (Q:VK) (E:XK),Co k A→Q6 P w K mg base A outer s H→BindsTo s fd args (ps.zip us)→Vals vs us→sp vs H Q E →
  codeAny (model P w) A (.call (.ref f) args) (CR CX outer P w H s Q E) s
theorem Q6.make {P:Program}{w:World}{K:PySem.W.Frag}{mg:Str→Option Value}{base:Heap}{A:Around}{outer:List Env}{s:Shared}{H:Hp}(e:Q6 P w K mg base A outer s H) (C:Addr) (us:List Value) (kw:List (Str×Value)) :
  Q6 P w K mg base (A.under (.builtin "type.__call__" ⟨.ref C::us,kw⟩)) outer s H:=⟨by first|exact e.frames|(simpa [Around.under,Code.envs,Code.isFrame,pushEnvs] using e.frames),e.mod,e.bs,e.bsz,e.Io,e.frf,e.hok,e.bare⟩
section
variable {X:Cx}{pins:List (Addr×Obj)}{σ:St}{H:Hp}{s s':Shared}
theorem Inv.Vu (I:Inv X pins σ H s):Q6 X.prog X.w X.K X.mg X.base X.A X.stack s H :=
 ⟨I.ok.frames,I.ok.mod,I.bs,Nat.le_trans I.ok.bsz I.sz,I.stack,I.Ov,I.hok,I.bare⟩
theorem Inv.after {Q:VK}{u:Value}(I:Inv X pins σ H s) (h:CE X.stack X.prog X.w H s Q u s'):EP X pins σ Q u s':=by
 obtain ⟨v,H',os,bare,un,hok,r,q⟩:=h
 obtain ⟨hh,g,d,t,os'⟩:=s'
 obtain rfl:os'=s.os:=os
 exact ⟨v,H',I.call (h':=hh) (g':=g) (d':=d) (t':=t) (ch:=[]) un hok bare (fun b z=>absurd z (by simp)),r,q⟩
end
def Pz (sp:Sp) (dvs:List V) (E:XK) (t:TA):TE:=fun σ H Q=>t σ H fun vs H1=>sp (vs++dvs) H1 Q E
def Xl (C:Addr) (m:Str) (sp:Sp) (dvs:List V) (E:XK) (ta:TE) (t:TA):TE:=fun σ H Q=>ta σ H fun x H1=>∃a dx fs,x=.ref a/\H1 a=some (.ins C dx fs)/\fs.lookup m=none /\
 t σ H1 fun vs H2=>sp (x::(vs++dvs)) H2 Q E
def Xm (C:Addr) (sp:Sp) (dvs:List V) (E:XK) (t:TA):TE:=fun σ H Q=>t σ H fun vs H1=>∀x dx,H1 x=none→H1 dx=none→dx≠x →
 sp (.ref x::(vs++dvs)) (upd (upd H1 dx (.own x)) x (.ins C dx [])) (fun v H2=>v=.non/\Q (.ref x) H2) E
def Binds (K:PySem.W.Frag) (fd:FuncData) (ps:List Str) (ds:List Value):Prop :=
 ∀(s:Shared) (us:List Value),K.In s.heap→(us++ds).length=ps.length→BindsTo s fd ⟨us,[]⟩ (ps.zip (us++ds))
theorem Binds.all {K:PySem.W.Frag}{fd:FuncData}{ps:List Str}(h:∀us:List Value,us.length=ps.length→bindArgs fd ⟨us,[]⟩=pure (ps.zip us)):Binds K fd ps []:=fun s us _ hl=>by
 rw [List.append_nil] at hl ⊢
 exact .of_eq (h us hl)
def Passes (CX:CXT) (X:Cx) (E:XK):Prop:=∀(pins:List (Addr×Obj)) (σ:St) (H:Hp) (s:Shared) (e:Value) (s':Shared),Inv X pins σ H s→CX X.stack H s E e s'→X.xe e s'
section
variable {X:Cx}{CX:CXT}{k:Nat}{f C:Addr}{fd:FuncData}{ps:List Str}{sp:Sp}{dvs:List V}{ds:List Value}{E:XK}{x m:Str}{p pos apos:Pos}{e o:Expr}{es:List Expr}{ta:TE}{t:TA}
theorem O1 {pins:List (Addr×Obj)}{σ:St}{H:Hp}{s:Shared}{Q:VK}{us:List Value}{vs:List V}(F:Ao X.prog X.w X.K X.mg X.base CX k f fd ps sp) (hr:Co k X.A) (hb:Binds X.K fd ps ds) (hd:Vals dvs ds) (hx:Passes CX X E)
  (I:Inv X pins σ H s) (r:Vals vs us) (h:sp (vs++dvs) H Q E):wpAny (model X.prog X.w) X.A (call (.ref f) us) (EP X pins σ Q) X.xe s:=by
 have r2:Vals (vs++dvs) (us++ds):=r.append hd
 have hl:(us++ds).length=ps.length:=by rw [←r2.length];exact F.len _ _ _ _ h
 refine wpAny_call (codeAny_mono (F.run X.A X.stack s H ⟨us,[]⟩ (us++ds) (vs++dvs) Q E hr I.Vu (hb s us I.kIn hl) r2 h) fun r s' hq=>?_)
 cases r with
 | error e=>exact hx pins σ H s e s' I hq
 | ok fl =>
  cases fl with
  | ret u=>exact I.after hq
  | next=>exact False.elim hq
  | brk=>exact False.elim hq
  | cont=>exact False.elim hq
theorem Sj (F:Ao X.prog X.w X.K X.mg X.base CX k f fd ps sp) (hr:Co k X.A) (hg:Gl X x) (hm:X.mg x=some (.ref f)) (hk:PySem.W.keepIn X.K (.ref f)=true) (hb:Binds X.K fd ps ds) (hd:Vals dvs ds) (hx:Passes CX X E)
  (ha:PA X (e::es) t) (hdb:(x==("__debug__" : Str))=false:=by decide) (he:starEach (e::es) X.env=(false,eval e X.env)::starEach es X.env:=by rfl) (hpl:(backTo pos (starEach es X.env)).any (·.1)=false:=by rfl) :
  PE X (.Call (.Name x p) (e::es) [] pos) (Pz sp dvs E t):=by
 intro pins s σ H Q I h
 refine wpAny_Call_Name_kw (Gq I hg hm ?_ hdb)
 refine PySem.W.callWith_K (h₀:=X.base) I.ok.mod.kin hk (thn (ha pos pins s σ H _ I h) fun us s1 ⟨vs,H1,I1,r,q⟩=>⟨I1.kIn,?_⟩) he hpl
 exact O1 F hr hb hd hx I1 r q
theorem VC (F:Ao X.prog X.w X.K X.mg X.base CX k f fd ps sp) (hr:Co k X.A) (hg:Gl X x) (hm:X.mg x=some (.ref f)) (hk:PySem.W.keepIn X.K (.ref f)=true) (hb:Binds X.K fd ps ds) (hd:Vals dvs ds) (hx:Passes CX X E)
  (hdb:(x==("__debug__" : Str))=false:=by decide):PE X (.Call (.Name x p) [] [] pos) (Pz sp dvs E Oq):=by
 intro pins s σ H Q I h
 refine wpAny_Call_Name_kw (Gq I hg hm ?_ hdb)
 exact PySem.W.callWith_K0 I.kIn hk (O1 (us:=[]) F hr hb hd hx I .nil h)
theorem Ws {pl:Sem Bool}(he:PE X o ta) (c:Cls X.K C) (hm:Meth X.K C m f) (F:Ao X.prog X.w X.K X.mg X.base CX k f fd ps sp) (hr:Co k X.A) (hb:Binds X.K fd ps ds) (hd:Vals dvs ds) (hx:Passes CX X E) (ha:PA X (e::es) t)
  (hst:starEach (e::es) X.env=(false,eval e X.env)::starEach es X.env:=by rfl) (hpl:(backTo pos (starEach es X.env)).any (·.1)=false:=by rfl)
  (ht:eval (.Call (.Attribute o m apos) (e::es) [] pos) X.env=(do
   let ov ← eval o X.env
   standAt apos.atName
   let (f,first) ← holding [ov] (getMethod ov m pl)
   callWith pos f first (backTo pos (starEach (e::es) X.env)) (backToKw pos (keywordEach [] X.env))):=by rfl) :
  PE X (.Call (.Attribute o m apos) (e::es) [] pos) (Xl C m sp dvs E ta t):=by
 intro pins s σ H Q I h
 refine PySem.W.methodCall_KW (pl:=pl) (thn (he pins s σ H _ I h) fun u s1 ⟨x,H1,I1,rx,a,dx,fs,ex,ea,l,q⟩=>?_) ht
 subst ex
 obtain rfl:u=Value.ref a:=rx
 refine Nc I1 ea c hm l ?_
 refine PySem.W.callWith_K (first:=[.ref a]) (h₀:=X.base) I.ok.mod.kin hm.kp (thn (ha pos pins s1 σ H1 _ I1 q) fun us s2 ⟨vs,H2,I2,r,q2⟩=>⟨I2.kIn,?_⟩) hst hpl
 exact O1 (us:=.ref a::us) (vs:=.ref a::vs) F hr hb hd hx I2 (.cons rfl r) q2
theorem QG {pl:Sem Bool}(he:PE X o ta) (c:Cls X.K C) (hm:Meth X.K C m f) (F:Ao X.prog X.w X.K X.mg X.base CX k f fd ps sp) (hr:Co k X.A) (hb:Binds X.K fd ps ds) (hd:Vals dvs ds) (hx:Passes CX X E)
  (ht:eval (.Call (.Attribute o m apos) [] [] pos) X.env=(do
   let ov ← eval o X.env
   standAt apos.atName
   let (f,first) ← holding [ov] (getMethod ov m pl)
   callWith pos f first (backTo pos (starEach [] X.env)) (backToKw pos (keywordEach [] X.env))):=by rfl) :
  PE X (.Call (.Attribute o m apos) [] [] pos) (Xl C m sp dvs E ta Oq):=by
 intro pins s σ H Q I h
 refine PySem.W.methodCall_KW (pl:=pl) (thn (he pins s σ H _ I h) fun u s1 ⟨x,H1,I1,rx,a,dx,fs,ex,ea,l,q⟩=>?_) ht
 subst ex
 obtain rfl:u=Value.ref a:=rx
 refine Nc I1 ea c hm l ?_
 exact PySem.W.callWith_K0 (first:=[.ref a]) I1.kIn hm.kp (O1 (us:=[.ref a]) (vs:=[.ref a]) F hr hb hd hx I1 (.cons rfl .nil) q)
structure Mk (K:PySem.W.Frag) (C f:Addr):Prop where
 makes:PySem.W.makesIn K C=true
 init:PySem.W.findIn K (.ref C) "__init__" = some (some (.ref f))
 fn:PySem.W.isFn K (.ref f)=true
 kp:PySem.W.keepIn K (.ref C)=true
theorem QB {pins:List (Addr×Obj)}{σ:St}{H:Hp}{s:Shared}{Q:VK}{us:List Value}{vs:List V}(M:Mk X.K C f) (F:Ao X.prog X.w X.K X.mg X.base CX k f fd ps sp) (hr:Co (k+1) X.A) (hb:Binds X.K fd ps ds) (hd:Vals dvs ds)
  (hx:Passes CX X E) (I:Inv X pins σ H s) (r:Vals vs us)
  (h:∀x dx,H x=none→H dx=none→dx≠x→sp (.ref x::(vs++dvs)) (upd (upd H dx (.own x)) x (.ins C dx [])) (fun v H2=>v=.non/\Q (.ref x) H2) E) :
  wpAny (model X.prog X.w) X.A (call (.ref C) us) (EP X pins σ Q) X.xe s:=by
 have hq:=h (s.heap.objs.size+1) s.heap.objs.size (I.hok.fresh (Nat.le_succ _)) (I.hok.fresh (Nat.le_refl _)) (Nat.ne_of_lt (Nat.lt_succ_self _))
 have I2:=Inv.made (C:=C) I
 have r2:Vals (V.ref (s.heap.objs.size+1)::(vs++dvs)) (Value.ref (s.heap.objs.size+1)::(us++ds)):=.cons rfl (r.append hd)
 have hl:(Value.ref (s.heap.objs.size+1)::us++ds).length=ps.length:=by
  have e:=r2.length
  rw [F.len _ _ _ _ hq] at e
  exact e.symm
 refine wpAny_call (VY (f:=f) I.kIn M.makes M.init (beq_iff_eq.mp M.fn) (codeAny_mono (F.run _ X.stack _ _ ⟨Value.ref (s.heap.objs.size+1)::us,[]⟩ (Value.ref (s.heap.objs.size+1)::(us++ds)) _ _ E (hr.make C us [])
  (I2.Vu.make C us []) (hb _ (Value.ref (s.heap.objs.size+1)::us) I2.kIn hl) r2 hq) fun r s' hq'=>?_))
 cases r with
 | error e=>exact hx pins σ _ _ e s' I2 hq'
 | ok fl =>
  cases fl with
  | ret u =>
   obtain ⟨v,H',I3,rv,ev,q3⟩:=I2.after hq'
   subst ev
   exact ⟨rv,⟨V.ref (s.heap.objs.size+1),H',I3,rfl,q3⟩⟩
  | next=>exact False.elim hq'
  | brk=>exact False.elim hq'
  | cont=>exact False.elim hq'
theorem Mm (M:Mk X.K C f) (F:Ao X.prog X.w X.K X.mg X.base CX k f fd ps sp) (hr:Co (k+1) X.A) (hg:Gl X x) (hm:X.mg x=some (.ref C)) (hb:Binds X.K fd ps ds) (hd:Vals dvs ds) (hx:Passes CX X E)
  (ha:PA X (e::es) t) (hdb:(x==("__debug__" : Str))=false:=by decide) (he:starEach (e::es) X.env=(false,eval e X.env)::starEach es X.env:=by rfl) (hpl:(backTo pos (starEach es X.env)).any (·.1)=false:=by rfl) :
  PE X (.Call (.Name x p) (e::es) [] pos) (Xm C sp dvs E t):=by
 intro pins s σ H Q I h
 refine wpAny_Call_Name_kw (Gq I hg hm ?_ hdb)
 refine PySem.W.callWith_K (h₀:=X.base) I.ok.mod.kin M.kp (thn (ha pos pins s σ H _ I h) fun us s1 ⟨vs,H1,I1,r,q⟩=>⟨I1.kIn,?_⟩) he hpl
 exact QB M F hr hb hd hx I1 r q
theorem QH (M:Mk X.K C f) (F:Ao X.prog X.w X.K X.mg X.base CX k f fd ps sp) (hr:Co (k+1) X.A) (hg:Gl X x) (hm:X.mg x=some (.ref C)) (hb:Binds X.K fd ps ds) (hd:Vals dvs ds) (hx:Passes CX X E)
  (hdb:(x==("__debug__" : Str))=false:=by decide):PE X (.Call (.Name x p) [] [] pos) (Xm C sp dvs E Oq):=by
 intro pins s σ H Q I h
 refine wpAny_Call_Name_kw (Gq I hg hm ?_ hdb)
 exact PySem.W.callWith_K0 I.kIn M.kp (QB (us:=[]) M F hr hb hd hx I .nil h)
end
section
variable {X:Cx}{CX:CXT}{k:Nat}{f C:Addr}{fd:FuncData}{ps ks:List Str}{sp:Sp}{E:XK}{x m:Str}{p pos apos kpos:Pos}{e o:Expr}{es:List Expr}{kws:List Keyword}{te ta:TE}{t tk:TA}{nm:Option Str}
variable {g:List Value→List Value→List Value}{gV:List V→List V→List V}
end
structure AR (N P:List Str) (sc:Scope):Prop where
 kind:sc.kind=.function
 co:sc.isCoroutine=false
 gen:sc.isGenerator=false
 nd:N.Nodup
 pre:N.take P.length=P
 par:∀x∈P,sc.names.lookup x=some .local\/sc.names.lookup x=some .cell
 Ym:∀y∈sc.names,y.2≠.free
theorem Oc {kindOf:Str→Option NameKind}{x:Str}:∀{binds:List (Str×Value)}{m:Str→Option Value},(∀v,(x,v)∉binds)→bindL kindOf binds m x=m x
 | [],_,_=>rfl
 | (n,v)::r,m,h=>by
  unfold bindL
  rw [Oc fun w hw=>h w (List.mem_cons_of_mem _ hw)]
  split
  ·have:x≠n:=by rintro rfl;exact h v List.mem_cons_self
   simp [this]
  ·rfl
theorem Oe {kindOf:Str→Option NameKind}{x:Str}:∀{binds:List (Str×Value)}{m:Str→Option Value},(∀v,(x,v)∉binds)→bindC kindOf binds m x=m x
 | [],_,_=>rfl
 | (n,v)::r,m,h=>by
  unfold bindC
  rw [Oe fun w hw=>h w (List.mem_cons_of_mem _ hw)]
  split
  ·rfl
  ·have:x≠n:=by rintro rfl;exact h v List.mem_cons_self
   simp [this]
theorem Od {kindOf:Str→Option NameKind}{x:Str}{v:Value}:∀{P:List Str}{vs:List Value}{i:Nat}{m:Str→Option Value},P.Nodup→P[i]?=some x→vs[i]?=some v→kindOf x=some .local →
  bindL kindOf (P.zip vs) m x=some v
 | [],_,_,_,_,h,_,_=>by simp at h
 | _::_,[],_,_,_,_,h,_=>by simp at h
 | p::P,w::vs,0,m,nd,h1,h2,hk=>by
  simp at h1 h2;subst h1;subst h2
  show bindL kindOf ((p,w)::P.zip vs) m p=_
  unfold bindL
  rw [Oc fun v hv=>(List.nodup_cons.mp nd).1 (List.of_mem_zip hv).1,if_pos hk]
  simp
 | p::P,w::vs,i+1,m,nd,h1,h2,hk=>by
  show bindL kindOf ((p,w)::P.zip vs) m x=_
  unfold bindL
  exact Od (i:=i) (List.nodup_cons.mp nd).2 (by simpa using h1) (by simpa using h2) hk
theorem Of {kindOf:Str→Option NameKind}{x:Str}{v:Value}:∀{P:List Str}{vs:List Value}{i:Nat}{m:Str→Option Value},P.Nodup→P[i]?=some x→vs[i]?=some v→kindOf x≠some .local →
  bindC kindOf (P.zip vs) m x=some v
 | [],_,_,_,_,h,_,_=>by simp at h
 | _::_,[],_,_,_,_,h,_=>by simp at h
 | p::P,w::vs,0,m,nd,h1,h2,hk=>by
  simp at h1 h2;subst h1;subst h2
  show bindC kindOf ((p,w)::P.zip vs) m p=_
  unfold bindC
  rw [Oe fun v hv=>(List.nodup_cons.mp nd).1 (List.of_mem_zip hv).1,if_neg hk]
  simp
 | p::P,w::vs,i+1,m,nd,h1,h2,hk=>by
  show bindC kindOf ((p,w)::P.zip vs) m x=_
  unfold bindC
  exact Of (i:=i) (List.nodup_cons.mp nd).2 (by simpa using h1) (by simpa using h2) hk
def start (N:List Str) (vs:List V):St:=vs.map some++List.replicate (N.length-vs.length) none
def Di (CX:CXT) (P:Program) (w:World) (K:PySem.W.Frag) (mg:Str→Option Value) (base:Heap) (N:List Str) (qual:Str) (scope:Scope) (f:Addr) (cd:Value) (A:Around) (outer:List Env) (s:Shared) (H:Hp) (E:XK):Cx where
 prog:=P
 w:=w
 K:=K
 mg:=mg
 base:=base
 A:=A.deeper (envOfC qual scope s.heap.objs.size f cd)
 N:=N
 s₀:=s
 H₀:=H
 env:=envOfC qual scope s.heap.objs.size f cd
 outer:=outer
 stack:=envOfC qual scope s.heap.objs.size f cd::outer
 ex:=[]
 calm:=true
 fn:=fun _=>true
 pn:=[]
 xe:=fun e s'=>wpAny (model P w) (A.deeper (envOfC qual scope s.heap.objs.size f cd)) (leaving (envOfC qual scope s.heap.objs.size f cd) e) (fun _ s''=>CX outer H s E e s'') (fun e' s''=>CX outer H s E e' s'') s'
theorem Qw {sc:Scope}{n:Nat}{x:Str}(h:sc.names.lookup x=some .cell):∃c,(cellsFrom n sc.names []).lookup x=some c:=by
 have q:=PySem.W.cellsFrom_some sc.names n [] (.inl h)
 exact Option.isSome_iff_exists.mp q
theorem OU {CX:CXT}{P:Program}{w:World}{K:PySem.W.Frag}{mg:Str→Option Value}{base:Heap}{N ps:List Str}{qual:Str}{scope:Scope}{f:Addr}{cd:Value}{A:Around}{outer:List Env}{s s1:Shared}{H:Hp}{E:XK}{us:List Value}{vs:List V}
  (S:AR N ps scope) (hd:A.handled=none) (e0:Q6 P w K mg base A outer s H) (hl:vs.length=ps.length) (r:Vals vs us)
  (x:InCallC s s.heap.objs.size (bindL (envOfC qual scope s.heap.objs.size f cd).kindOf (ps.zip us) fun _=>none) (cellsFrom (s.heap.objs.size+1) scope.names []) (bindC (envOfC qual scope s.heap.objs.size f cd).kindOf (ps.zip us) fun _=>none) s1) :
  Inv (Di CX P w K mg base N qual scope f cd A outer s H E) [] (start N vs) H s1:=by
 have hpl:ps.length≤N.length:=by have:=congrArg List.length S.pre;rw [List.length_take] at this;omega
 obtain ⟨h1,tk,rfl,hk⟩:=x.done
 have noA:∀b:Addr,b∉(Di CX P w K mg base N qual scope f cd A outer s H E).ex:=fun b z=>absurd (show b∈([]:List Addr) from z) (by simp)
 refine ⟨⟨e0.mod,S.kind,rfl,rfl,Nat.le_refl _,fun y z c h1 h2=>?_,fun y hy=>?_,fun y c _ h=>?_,fun _=>hd,Around.frames_deeper e0.frames,.inr ⟨rfl,rfl⟩,fun b z=>absurd z (noA b),e0.bs,e0.bsz,fun b _ _=>noA b,fun b z=>absurd z (noA b),e0.Io,e0.frf⟩,
  rfl,e0.bare,Un.kept hk,⟨_,x.toInCall.ns,fun i y v h1 h2 h3=>?_⟩,fun y c h=>⟨_,x.cell y c h⟩,e0.hok.fresh (Nat.le_refl _),fun y c h=>?_,fun p hp=>absurd (show p∈([]:List (Addr×Obj)) from hp) (by simp),e0.hok.kept hk,?_⟩
 ·exact name_of_addr x.apart (PySem.mem_of_lookup h1) (PySem.mem_of_lookup h2)
 ·have hy:scope.names.lookup y=some .cell\/scope.names.lookup y=some .free:=hy
  rcases hy with hy|hy
  ·exact Qw hy
  ·exact absurd rfl (S.Ym _ (PySem.mem_of_lookup hy))
 ·exact Nat.le_of_lt (x.above y c (PySem.mem_of_lookup h))
 ·have hi:i<vs.length:=by
   unfold start at h2
   by_cases hi:i<vs.length
   ·exact hi
   ·rw [List.getElem?_append_right (by simpa using hi)] at h2
    rw [List.getElem?_replicate] at h2
    split at h2 <;> cases h2
  have ha:vs[i]?=some v:=by
   unfold start at h2
   rw [List.getElem?_append_left (by simpa using hi),List.getElem?_map] at h2
   cases e:vs[i]? with
   | none=>rw [e] at h2;cases h2
   | some a=>rw [e] at h2;cases h2;rfl
  obtain ⟨u,hu,rv⟩:=r.get ha
  have hp:ps[i]?=some y:=by
   rw [←S.pre,List.getElem?_take_of_lt (by omega)];exact h1
  have ndP:ps.Nodup:=by rw [←S.pre];exact S.nd.sublist (List.take_sublist _ _)
  refine ⟨u,rv,?_⟩
  rcases S.par y (List.mem_of_getElem? hp) with k|k
  ·exact .inl ⟨k,Od ndP hp hu k⟩
  ·obtain ⟨c,e⟩:=Qw (n:=s.heap.objs.size+1) k
   refine .inr ⟨.inl k,c,e,?_⟩
   have q:=x.cell y c e
   rw [Of ndP hp hu (by show scope.names.lookup y≠_;rw [k];decide)] at q
   exact q
 ·exact e0.hok.fresh (Nat.le_of_lt (x.above y c (PySem.mem_of_lookup h)))
 ·unfold start
  show _=N.length
  rw [List.length_append,List.length_map,List.length_replicate]
  omega
theorem Xx {CX:CXT}{P:Program}{w:World}{K:PySem.W.Frag}{mg:Str→Option Value}{base:Heap}{k:Nat}{f:Addr}{name qual:Str}{params:Arguments}{body:List Stmt}{scope:Scope}{dV kV doc pm cdv ct oc:Value}{an od:Option Addr}
  {osl:Array (Option Value)} {N ps:List Str} {sp:Sp} (lk:K.lookup f=some ⟨oc,od,.func (PySem.W.fnOf name qual params body scope dV kV doc pm an cdv ct),osl⟩) (hcd:PySem.W.codeIn K cdv qual=true) (S:AR N ps scope)
  (len:∀vs H Q E,sp vs H Q E→vs.length=ps.length)
  (hbody:∀(A:Around) (outer:List Env) (s:Shared) (H:Hp) (vs:List V) (Q:VK) (E:XK),Co k (A.deeper (envOfC qual scope s.heap.objs.size f cdv))→sp vs H Q E →
   ∃t,PSs (Di CX P w K mg base N qual scope f cdv A outer s H E) body t/\t { nx:=fun _ H'=>Q .non H',rt:=Q } (start N vs) H) :
  Ao P w K mg base CX (k+1) f (PySem.W.fnOf name qual params body scope dV kV doc pm an cdv ct) ps sp:=by
 refine ⟨len,fun A outer s H args us vs Q E hr e0 hb r hsp=>?_⟩
 have hl:=len _ _ _ _ hsp
 have KX:K.In s.heap:=e0.mod.kin.keeps fun b o e=>(e0.bs b o e).1
 have lim:s.heap.NoLimit:=e0.mod.nolimit.keeps fun b o e=>(e0.bs b o e).1
 have hkind:∀y∈ps.zip us,scope.names.lookup y.1=some .local\/(scope.names.lookup y.1=some .cell/\((cellsFrom (s.heap.objs.size+1) scope.names []).lookup y.1).isSome=true):=fun ⟨n,v⟩ hy=>by
  rcases S.par n (List.of_mem_zip hy).1 with q|q
  ·exact .inl q
  ·exact .inr ⟨q,PySem.W.cellsFrom_some _ _ _ (.inl q)⟩
 refine codeAny_call_function hr.depth (KX _ _ lk) rfl S.co S.gen rfl (PySem.W.codeRec_of KX hcd) (hb _ _ _ _ ?_)
 refine wpAny_newFunctionEnv_cells S.kind hkind fun env he s1 x=>?_
 subst he
 refine ⟨lim.keeps x.toInCall.keep,codeAny_func ?_⟩
 obtain ⟨t,ht,hq⟩:=hbody A outer s H vs Q E (hr.deeper _) hsp
 have I:Inv (Di CX P w K mg base N qual scope f cdv A outer s H E) [] (start N vs) H s1:=OU S hr.hd e0 hl r x
 refine wpAny_mono (ht [] s1 (start N vs) H _ I hq) (fun fl s' hs=>?_) fun e s' hs=>hs
 have fin:∀{σ':St} {H':Hp} {v:V} {u:Value},Inv (Di CX P w K mg base N qual scope f cdv A outer s H E) [] σ' H' s'→RelV v u→Q v H'→CE outer P w H s Q u s' :=
  fun {σ' H' v u} J rv q=>⟨v,H',J.os,J.bare,J.base,J.hok,rv,q⟩
 cases fl with
 | ret u =>
  obtain ⟨v,σ',H',J,rv,q⟩:=hs
  exact fin J rv q
 | next =>
  obtain ⟨σ',H',J,q⟩:=hs
  exact fin (v:=V.non) (u:=Value.none) J rfl q
 | brk =>
  obtain ⟨_,_,_,q⟩:=hs
  exact False.elim q
 | cont =>
  obtain ⟨_,_,_,q⟩:=hs
  exact False.elim q
end L2
namespace L2
open PySem PySem.Spec PyProof.Rows
section
variable {X:Cx}{x:Str}{p pos:Pos}{e:Expr}{es:List Expr}{t:TA}{id T:String}{r:List V→Hp→VK→Prop}
def tCB (r:List V→Hp→VK→Prop) (t:TA):TE:=fun σ H Q=>t σ H fun vs H1=>r vs H1 Q
theorem AU (hc:DT X (.builtin id) r) (hg:Gl X x) (hm:X.mg x=none) (hv:bootBuiltins x=some (.builtin id)) (ha:PA X (e::es) t) (hn:x ≠ "__name__" := by decide) (hdb:(x==("__debug__" : Str))=false:=by decide)
  (he:starEach (e::es) X.env=(false,eval e X.env)::starEach es X.env:=by rfl) (hpl:(backTo pos (starEach es X.env)).any (·.1)=false:=by rfl):PE X (.Call (.Name x p) (e::es) [] pos) (tCB r t):=by
 intro pins s σ H Q I h
 refine wpAny_Call_Name_kw (Ld I hg hm hv ?_ hn hdb)
 exact PyProof.Rows.callWith_builtin1 (thn (ha pos pins s σ H _ I h) fun us s1 ⟨vs,H1,I1,r1,q1⟩=>hc pins s1 σ H1 vs us Q I1 r1 q1) he hpl
theorem Aa (hc:DT X (.type T) r) (hg:Gl X x) (hm:X.mg x=none) (hv:bootBuiltins x=some (.type T)) (ha:PA X (e::es) t) (hn:x ≠ "__name__" := by decide) (hdb:(x==("__debug__" : Str))=false:=by decide)
  (he:starEach (e::es) X.env=(false,eval e X.env)::starEach es X.env:=by rfl) (hpl:(backTo pos (starEach es X.env)).any (·.1)=false:=by rfl):PE X (.Call (.Name x p) (e::es) [] pos) (tCB r t):=by
 intro pins s σ H Q I h
 refine wpAny_Call_Name_kw (Ld I hg hm hv ?_ hn hdb)
 exact PyProof.Rows.callWith_type1 (thn (ha pos pins s σ H _ I h) fun us s1 ⟨vs,H1,I1,r1,q1⟩=>hc pins s1 σ H1 vs us Q I1 r1 q1) he hpl
end
end L2
namespace HT
open PySem PyProof.Rows
section
open PySem.SeqAt
open PySem.AutoSeq1 (wpAny_loadPart')
open PySem.MeetsSeq PySem.MeetsSeq2 PySem.MeetsSeq3
end
section
variable {prog:Program}{w:World}{A:Around}{E:Value→Shared→Prop}{s:Shared}
theorem XW {t b:Addr}{vs ws:List Value}{Q:Value→Shared→Prop}(ht:IsTup s.heap t vs.toArray) (hb:IsTup s.heap b ws.toArray) (hv:vs≠[])
  (h1:ws=[]→Q (.ref t) s) (h2:ws≠[]→Q (.ref s.heap.objs.size) { s with heap:=s.heap.push { cls:=.type "tuple", data:=.seq (vs++ws).toArray } })
  (hsz:vs.length+ws.length≤sizeLine):wpAny (model prog w) A (binaryOp .Add (.ref t) (.ref b)) Q E s:=by
 obtain ⟨⟨cls,dd,data,sl⟩,ho,hc,n,hd⟩:=id ht
 obtain ⟨⟨cls2,dd2,data2,sl2⟩,ho2,hc2,n2,hd2⟩:=id hb
 simp only at hc hd hc2 hd2
 subst hc hd hc2 hd2
 have e:vs.toArray++ws.toArray=(vs++ws).toArray:=by simp
 by_cases hw:ws=[]
 ·exact concat_meets ⟨_,ho,rfl⟩ ⟨_,ho2,rfl⟩ noFill_tuple_add seq_tuple_add PySem.F.slot_tuple_add PySem.F.entry_tuple_add (PySem.F.args_tuple_add_2 _ _)
   (tuple_addW1 t b vs.toArray ws.toArray n n2 dd dd2 sl sl2 (by simpa using hv) (by simp [hw])) ⟨ho,ho2,h1 hw⟩
 ·refine concat_meets ⟨_,ho,rfl⟩ ⟨_,ho2,rfl⟩ noFill_tuple_add seq_tuple_add PySem.F.slot_tuple_add PySem.F.entry_tuple_add (PySem.F.args_tuple_add_2 _ _)
   (tuple_addW2 t b vs.toArray ws.toArray n n2 dd dd2 sl sl2 (by simpa using hv) (by simpa using hw) (by rw [List.size_toArray,List.size_toArray];exact hsz)) ⟨ho,ho2,?_⟩
  rw [e]
  exact h2 hw
def sIx (n d:Nat):Option Int→Nat
 | none=>d
 | some v=>if v<0 then (v+(n:Int)).toNat else min v.toNat n
theorem Kl (n d:Nat):sIx n d none=d:=rfl
theorem Mj (n d k:Nat):sIx n d (some (k:Int))=min k n:=by
 show (if (k:Int)<0 then ((k:Int)+(n:Int)).toNat else min (k:Int).toNat n)=min k n
 rw [if_neg (by omega),Int.toNat_natCast]
theorem YY (n d:Nat) (hd:d≤n) (o:Option Int):sIx n d o≤n:=by
 cases o with
 | none=>exact hd
 | some v =>
  show (if v<0 then (v+(n:Int)).toNat else min v.toNat n)≤n
  by_cases hv:v<0
  ·rw [if_pos hv];omega
  ·rw [if_neg hv];exact Nat.min_le_right _ _
theorem TK (v:Int) (n d:Nat):(if v<0 then max (v+(n:Int)) 0 else min v (n:Int))=((sIx n d (some v):Nat):Int):=by
 show (if v<0 then max (v+(n:Int)) 0 else min v (n:Int))=(((if v<0 then (v+(n:Int)).toNat else min v.toNat n):Nat):Int)
 by_cases hv:v<0
 ·simp only [if_pos hv];omega
 ·simp only [if_neg hv];omega
theorem R8 (lo hi:Option Int) (n:Nat):Builtin.Slice.sliceAdjust lo hi 1 (n:Int)=(((sIx n 0 lo:Nat):Int),((sIx n n hi:Nat):Int)):=by
 have h1:¬ ((1:Int)<0):=by omega
 unfold Builtin.Slice.sliceAdjust
 simp only [h1,if_false]
 refine Prod.ext ?_ ?_
 ·cases lo with
  | none=>rfl
  | some v=>exact TK v n 0
 ·cases hi with
  | none=>rfl
  | some v=>exact TK v n n
theorem RH (i j:Nat):Builtin.Slice.slicePlaces (i:Int) (j:Int) 1=j-i:=by
 unfold Builtin.Slice.slicePlaces
 have h1:(1:Int) > 0:=by omega
 simp only [h1,if_true,Int.ediv_one]
 split <;> omega
theorem Mx {v:Value}{o:Option Int}{Q:Option Int→Shared→Prop}(p:IsPart v o) (h:Q o s):wpAny (model prog w) A (Builtin.Slice.slicePartIndex v) Q E s:=by
 cases p with
 | none=>exact slicePart_none h
 | int i t=>exact slicePart_int h
theorem LO {sl:Addr}{vl vu:Value}{lo hi:Option Int}{n:Nat}{Q:Int×Int×Nat→Shared→Prop}(hs:s.heap.IsSliceOf sl vl vu .none) (pl:IsPart vl lo) (pu:IsPart vu hi)
  (h:Q (((sIx n 0 lo:Nat):Int),1,sIx n n hi-sIx n 0 lo) s):wpAny (model prog w) A (Builtin.Slice.sliceApplied (.ref sl) (pure (n:Int))) Q E s:=by
 obtain ⟨os,hos,hcs,hds⟩:=id hs
 unfold Builtin.Slice.sliceApplied Builtin.Slice.sliceFields
 refine wpAny_bind (wpAny_bind (wpAny_field hos hds (x:=vl) rfl (wpAny_bind (wpAny_field hos hds (x:=vu) rfl (wpAny_bind (wpAny_field hos hds (x:=.none) rfl (wpAny_pure ?_)))))))
 refine wpAny_bind (slicePart_none ?_)
 show wpAny _ _ (if ((1:Int)==0)=true then _ else _) _ _ s
 rw [if_neg (by decide)]
 refine wpAny_bind (Mx pl (wpAny_bind (Mx pu (wpAny_bind (wpAny_pure ?_)))))
 show wpAny _ _ (match Builtin.Slice.sliceAdjust lo hi 1 (n:Int) with|(lo,hi)=>pure (lo,(1:Int),Builtin.Slice.slicePlaces lo hi 1)) _ _ s
 rw [R8 lo hi n]
 show wpAny _ _ (pure (((sIx n 0 lo:Nat):Int),(1:Int),Builtin.Slice.slicePlaces ((sIx n 0 lo:Nat):Int) ((sIx n n hi:Nat):Int) 1)) _ _ s
 rw [RH]
 exact wpAny_pure h
theorem Uz (xs:Array Value) (i k:Nat):((List.range k).filterMap fun (m:Nat)=>xs[((i:Int)+(m:Int) * 1).toNat]?).toArray=((xs.toList.drop i).take k).toArray:=by
 have e:(fun (m:Nat)=>xs[((i:Int)+(m:Int) * 1).toNat]?)=fun m=>xs[i+m]?:=by
  funext m
  have:((i:Int)+(m:Int) * 1).toNat=i+m:=by omega
  rw [this]
 rw [e]
 have:=pick_run xs i k
 rw [List.filterMap_map] at this
 have e2:((fun x=>xs[x]?) ∘ fun x=>i+x)=fun m=>xs[i+m]?:=rfl
 rw [e2] at this
 rw [this]
theorem K6 {t sl:Addr}{items:Array Value}{vl vu:Value}{lo hi:Option Int}{Q:Value→Shared→Prop}(ht:IsTup s.heap t items) (hs:s.heap.IsSliceOf sl vl vu .none) (pl:IsPart vl lo) (pu:IsPart vu hi)
  (hw:¬ (sIx items.size 0 lo=0/\sIx items.size items.size hi=items.size))
  (h:Q (.ref s.heap.objs.size) { s with heap:=s.heap.push { cls:=.type "tuple", data:=.seq ((items.toList.drop (sIx items.size 0 lo)).take (sIx items.size items.size hi-sIx items.size 0 lo)).toArray } })
  (hsz:items.size≤sizeLine):wpAny (model prog w) A (getItem (.ref t) (.ref sl)) Q E s:=by
 have htake:sizeOk (.seq ((items.toList.drop (sIx items.size 0 lo)).take (sIx items.size items.size hi-sIx items.size 0 lo)).toArray):=by
  show ((items.toList.drop (sIx items.size 0 lo)).take (sIx items.size items.size hi-sIx items.size 0 lo)).toArray.size≤sizeLine
  rw [List.size_toArray,List.length_take,List.length_drop,Array.length_toList]
  omega
 have hj:sIx items.size items.size hi≤items.size:=YY _ _ (Nat.le_refl _) hi
 obtain ⟨os,hos,hcs,hds⟩:=id hs
 have hTs:s.TypeIs (.ref sl) "slice" := ⟨os,hos,hcs⟩
 unfold getItem
 try with_reducible refine wpAny_holding ?_
 first|refine wpAny_bind (wpAny_pure ?_)|skip
 refine wpAny_bind (wpAny_sequenceKey ht.typeIs (by decide) ?_)
 refine wpAny_bind (wpAny_callSpecial?_slot (name:=Str.ofString "__getitem__") ht.typeIs PyProof.Rows.slot_tuple_getitem
  (wpAny_call_entry PyProof.Rows.slot_tuple_getitem ht.typeIs entry_tuple_getitem ?_ (args_tuple_getitem _ _)))
 show wpAny _ _ (Builtin.Tuple.tupleItemsOf (.ref t) >>= _) _ _ s
 refine wpAny_bind (tupleItemsOf_ ht ?_)
 refine wpAny_bind (wpAny_typeOf hTs ?_)
 rw [if_pos (by decide)]
 refine wpAny_bind (LO hs pl pu ?_)
 have hno:¬ ((((sIx items.size 0 lo:Nat):Int)==0&&(1:Int)==1&&(sIx items.size items.size hi-sIx items.size 0 lo)==items.size)=true):=by
  intro q
  rw [Bool.and_eq_true,Bool.and_eq_true] at q
  have q1:((sIx items.size 0 lo:Nat):Int)=0:=eq_of_beq q.1.1
  have q2:sIx items.size items.size hi-sIx items.size 0 lo=items.size:=eq_of_beq q.2
  exact hw ⟨by omega,by omega⟩
 show wpAny _ _ (if (((sIx items.size 0 lo:Nat):Int)==0&&(1:Int)==1&&(sIx items.size items.size hi-sIx items.size 0 lo)==items.size)=true then _ else _) _ _ s
 rw [if_neg hno,Uz]
 first
  | exact wpAny_bind (m:=Builtin.Tuple.tupleExact _) (wpAny_newObj_type (wpAny_pure ⟨_,rfl,wpAny_pure h⟩) htake)
  | exact wpAny_bind (m:=Builtin.Tuple.tupleExact _) (wpAny_newObj_type (wpAny_bind (wpAny_pure (wpAny_pure ⟨_,rfl,wpAny_pure h⟩))) htake)
  | exact wpAny_bind (wpAny_bind (m:=Builtin.Tuple.tupleExact _) (wpAny_newObj_type (wpAny_pure (wpAny_pure ⟨_,rfl,wpAny_pure h⟩)) htake))
  | exact wpAny_bind (wpAny_bind (m:=Builtin.Tuple.tupleExact _) (wpAny_newObj_type (wpAny_pure ⟨_,rfl,wpAny_pure h⟩) htake))
end
end HT
namespace L2
open PySem PySem.Spec PyProof.Rows
abbrev TO:=St→Hp→(Option Int→Hp→Prop)→Prop
def PO (X:Cx) (e:Option Expr) (t:TO):Prop :=
 ∀(pins:List (Addr×Obj)) (s:Shared) (σ:St) (H:Hp) (Q:Option Int→Hp→Prop),Inv X pins σ H s→t σ H Q →
  wpAny (model X.prog X.w) X.A (evalPart e X.env) (fun u s'=>∃o H',Inv X pins σ H' s'/\IsPart u o/\Q o H') X.xe s
def KR:TO:=fun _ H Q=>Q none H
def Py (t:TE):TO:=fun σ H Q=>t σ H fun x H1=>∃i,x=.int i/\Q (some i) H1
theorem intsAre_of {ns:List Int}:∀{us:List Value},Vals (ns.map V.int) us→IntsAre us ns:=by
 induction ns with
 | nil=>intro us r;rw [List.map_nil] at r;cases r;exact .nil
 | cons n ns ih =>
  intro us r
  rw [List.map_cons] at r
  cases r with
  | cons r1 r2 =>
   obtain ⟨t,e⟩:=r1
   subst e
   exact .cons n t (ih r2)
section
variable {X:Cx}{e:Expr}{te:TE}{lo hi:Option Expr}{tl th:TO}{pos p2:Pos}
theorem Aj:PO X none KR:=by
 intro pins s σ H Q I h
 rw [evalPart_none]
 exact wpAny_pure ⟨none,H,I,.none,h⟩
theorem AZ (h:PE X e te):PO X (some e) (Py te):=by
 intro pins s σ H Q I hw
 rw [evalPart_some]
 refine thn (h pins s σ H _ I hw) fun u s1 ⟨x,H1,I1,r1,q1⟩=>?_
 obtain ⟨i,rfl,q⟩:=q1
 obtain ⟨t,rfl⟩:=r1
 exact ⟨some i,H1,I1,.int i t,q⟩
def SlR (X:Cx) (r:V→Option Int→Option Int→Hp→VK→Prop):Prop :=
 ∀(pins:List (Addr×Obj)) (s:Shared) (σ:St) (H:Hp) (x:V) (v vl vu:Value) (lo hi:Option Int) (sl:Addr) (Q:VK),Inv X pins σ H s→RelV x v→s.heap.IsSliceOf sl vl vu .none→IsPart vl lo→IsPart vu hi→r x lo hi H Q →
  ∃T id,typeLookup (.type T) "__getitem__" = pure (some (.builtin id))/\s.TypeIs v T/\wpAny (model X.prog X.w) X.A (getItem v (.ref sl)) (EP X pins σ Q) X.xe s
def tSl (r:V→Option Int→Option Int→Hp→VK→Prop) (te:TE) (tl th:TO):TE:=fun σ H Q=>te σ H fun x H1=>tl σ H1 fun l H2=>th σ H2 fun u H3=>r x l u H3 Q
theorem AY {r:V→Option Int→Option Int→Hp→VK→Prop}(hr:SlR X r) (he:PE X e te) (hl:PO X lo tl) (hu:PO X hi th):PE X (.Subscript e (.Slice lo hi none p2) pos) (tSl r te tl th):=by
 intro pins s σ H Q I h
 refine Subscript_ (thn (he pins s σ H _ I h) fun v s1 ⟨x,H1,I1,r1,q1⟩=>?_)
 refine wpAny_Slice (thn (hl pins s1 σ H1 _ I1 q1) fun vl s2 ⟨l,H2,I2,pl,q2⟩=>thn (hu pins s2 σ H2 _ I2 q2) fun vu s3 ⟨u,H3,I3,pu,q3⟩=>?_)
 rw [evalPart_none]
 refine wpAny_pure ?_
 have I4:Inv X pins σ H3 { s3 with heap:=s3.heap.push { cls:=.type "slice", data:=.fields #[vl,vu,.none] } }:=I3.kept (t':=s3.toks) fun b ob q=>Heap.get?_push_of_some _ q
 obtain ⟨T,id,hT,ht,hg⟩:=hr pins { s3 with heap:=s3.heap.push { cls:=.type "slice", data:=.fields #[vl,vu,.none] } } σ H3 x v vl vu l u s3.heap.objs.size Q I4 r1 (Heap.IsSliceOf.new ..) pl pu q3
 show wpAny (model X.prog X.w) X.A (subscriptTail e (.Slice lo hi none p2) v (.ref s3.heap.objs.size)) (EP X pins σ Q) X.xe { s3 with heap:=s3.heap.push { cls:=.type "slice", data:=.fields #[vl,vu,.none] } }
 exact tail_any (ops:=[.ref s3.heap.objs.size,v]) ht hT hg (by with_unfolding_all rfl)
def Jb (xs:List V) (lo hi:Option Int):List V:=(xs.drop (HT.sIx xs.length 0 lo)).take (HT.sIx xs.length xs.length hi-HT.sIx xs.length 0 lo)
theorem MV (xs:List V) (lo hi:Option Int):(Jb xs lo hi).length≤xs.length:=by
 unfold Jb
 rw [List.length_take,List.length_drop]
 omega
def We (K:PySem.W.Frag):V→Option Int→Option Int→Hp→VK→Prop:=fun x lo hi H Q=>∃a xs,x=.ref a/\SqT K H a xs /\
 ¬ (HT.sIx xs.length 0 lo=0/\HT.sIx xs.length xs.length hi=xs.length)/\∀p,H p=none→Q (.ref p) (upd H p (.tup (Jb xs lo hi)))
theorem YW:SlR X (We X.K):=by
 intro pins s σ H x v vl vu lo hi sl Q I rx hs pl pu h
 obtain ⟨a,xs,rfl,hx,hw,q⟩:=h
 cases rx
 obtain ⟨its,r,ht,hz⟩:=I.tuple hx
 have hlen:its.toArray.size=xs.length:=by rw [List.size_toArray];exact r.length.symm
 refine ⟨"tuple", _,PyProof.Rows.slot_tuple_getitem.lookup,ht.typeIs,?_⟩
 refine HT.K6 ht hs pl pu (by rw [hlen];exact hw) ?_ (by rw [hlen];exact hz)
 rw [hlen]
 refine ⟨.ref s.heap.objs.size,_,I.laid (t':=s.toks) (o:=.tup (Jb xs lo hi)) (fun b ob q=>Heap.get?_push_of_some _ q) (Nat.le_refl _) ?_,rfl,q _ (I.hok.fresh (Nat.le_refl _))⟩
 exact ⟨Nat.le_trans (MV xs lo hi) hz,_,(r.drop (HT.sIx xs.length 0 lo)).take (HT.sIx xs.length xs.length hi-HT.sIx xs.length 0 lo),IsTup.new _ _⟩
def Sa (K:PySem.W.Frag):R2:=fun x y H Q=>∃a b xs ys,x=.ref a/\y=.ref b/\SqT K H a xs/\SqT K H b ys/\xs≠[]/\xs.length+ys.length≤sizeLine /\
 (ys=[]→Q (.ref a) H)/\(ys≠[]→∀p,H p=none→Q (.ref p) (upd H p (.tup (xs++ys))))
theorem Vals.PK {xs:List V}{us:List Value}(r:Vals xs us):us=[]↔xs=[]:=by
 cases r with
 | nil=>simp
 | cons _ _=>simp
theorem Ww:OpR X (binaryOp .Add) (Sa X.K):=by
 intro pins s σ H x y v u Q I rx ry h
 obtain ⟨a,b,xs,ys,rfl,rfl,ha,hb,hx,hz,q1,q2⟩:=h
 cases rx
 cases ry
 obtain ⟨its,r1,p1,_⟩:=I.tuple ha
 obtain ⟨its2,r2,p2,_⟩:=I.tuple hb
 refine HT.XW p1 p2 (fun z=>hx (r1.PK.mp z)) (fun z=>⟨.ref a,H,I,rfl,q1 (r2.PK.mp z)⟩) (fun z=>?_) (by rw [←r1.length,←r2.length];exact hz)
 refine ⟨.ref s.heap.objs.size,_,I.laid (t':=s.toks) (o:=.tup (xs++ys)) (fun b ob q=>Heap.get?_push_of_some _ q) (Nat.le_refl _) ?_,rfl,q2 (fun w=>z (r2.PK.mpr w)) _ (I.hok.fresh (Nat.le_refl _))⟩
 exact ⟨by rw [List.length_append];exact hz,_,r1.append r2,IsTup.new _ _⟩
end
end L2
namespace L2
open PySem PySem.Spec PyProof.Rows
def ixN (n:Nat) (i:Int):Option Nat:=if 0≤i then (if i<n then some i.toNat else none) else if -(n:Int)≤i then some (i+n).toNat else none
def atI {α:Type}(xs:List α) (i:Int):Option α:=(ixN xs.length i).bind fun j=>xs[j]?
theorem XS {n:Nat}{i:Int}{j:Nat}(h:ixN n i=some j):seqIndex? i n=some j/\j<n/\-(n:Int)≤i/\i<n:=by
 unfold ixN at h
 by_cases h0:0≤i
 ·rw [if_pos h0] at h
  by_cases h1:i<n
  ·rw [if_pos h1] at h
   have e:i.toNat=j:=Option.some.inj h
   exact ⟨by rw [seqIndex_of h0 h1,e],by omega,by omega,h1⟩
  ·rw [if_neg h1] at h;cases h
 ·rw [if_neg h0] at h
  by_cases h1:-(n:Int)≤i
  ·rw [if_pos h1] at h
   have e:(i+n).toNat=j:=Option.some.inj h
   exact ⟨by rw [seqIndex_neg (by omega) h1,e],by omega,h1,by omega⟩
  ·rw [if_neg h1] at h;cases h
theorem Pn {α:Type}{xs:List α}{i:Int}{v:α}(h:atI xs i=some v):∃j,seqIndex? i xs.length=some j/\xs[j]?=some v/\j<xs.length/\-(xs.length:Int)≤i/\i<xs.length:=by
 unfold atI at h
 cases e:ixN xs.length i with
 | none=>rw [e] at h;cases h
 | some j =>
  rw [e] at h
  obtain ⟨h1,h2,h3,h4⟩:=XS e
  exact ⟨j,h1,h,h2,h3,h4⟩
theorem AL {α:Type}{xs:List α}{j:Nat}{v:α}(h:xs[j]?=some v):atI xs (j:Int)=some v:=by
 have hj:j<xs.length:=(List.getElem?_eq_some_iff.mp h).1
 have e:ixN xs.length (j:Int)=some j:=by
  unfold ixN
  rw [if_pos (by omega),if_pos (by omega)];simp
 unfold atI;rw [e];exact h
def Pp (b:Expr):Prop:=∀o i,subscripted b false o i=operate [o,i] (getItem o i)
def IxR (X:Cx) (r:R2):Prop :=
 ∀(value slice:Expr) (pins:List (Addr×Obj)) (s:Shared) (σ:St) (H:Hp) (x y:V) (v u:Value) (Q:VK),Inv X pins σ H s→RelV x v→RelV y u→r x y H Q →
  subscripted slice false v u=operate [v,u] (getItem v u)→wpAny (model X.prog X.w) X.A (subscriptTail value slice v u) (EP X pins σ Q) X.xe s
def MtR (X:Cx) (id:String) (r:V→List V→Hp→VK→Prop):Prop :=
 ∀(pins:List (Addr×Obj)) (s:Shared) (σ:St) (H:Hp) (x:V) (xs:List V) (v:Value) (us:List Value) (Q:VK),Inv X pins σ H s→RelV x v→Vals xs us→r x xs H Q →
  wpAny (model X.prog X.w) X.A (call (.builtin id) (v::us)) (EP X pins σ Q) X.xe s
section
variable {X:Cx}{a b:Expr}{ta tb:TE}{pos:Pos}
theorem U3 {r:R2}(hr:IxR X r) (ha:PE X a ta) (hb:PE X b tb) (hs:Pp b):PE X (.Subscript a b pos) (tOp r ta tb):=by
 intro pins s σ H Q I h
 exact Subscript_ (Y6 ha hb I h fun v u s2 x y H2 I2 rx ry q=>hr a b pins s2 σ H2 x y v u Q I2 rx ry q (hs _ _))
def Zw (K:PySem.W.Frag):R2:=fun x y H Q=>∃p xs i v,x=.ref p/\y=.int i/\SqL K H p xs/\atI xs i=some v/\Q v H
def Zv (K:PySem.W.Frag):R2:=fun x y H Q=>∃p xs i v,x=.ref p/\y=.int i/\SqT K H p xs/\atI xs i=some v/\Q v H
def bV:R2:=fun x y H Q=>∃z i c,x=.str z/\y=.int i/\z.length≤sizeLine/\atI z.cps.toList i=some c/\Q (.str ⟨#[c]⟩) H
theorem XR:IxR X (Zw X.K):=by
 intro value slice pins s σ H x y v u Q I rx ry h hs
 obtain ⟨p,xs,i,z,rfl,rfl,hq,he,q⟩:=h
 cases rx
 obtain ⟨t,rfl⟩:=ry
 obtain ⟨its,r,pl,hz⟩:=I.list hq
 obtain ⟨j,h1,h2,h3,h4,h5⟩:=Pn he
 obtain ⟨w,ew,rw'⟩:=r.get h2
 have hl:=r.length
 have hn:=NU
 have fin:EP X pins σ Q w s:=⟨z,H,I,rw',q⟩
 by_cases h0:0≤i
 ·have hj:i.toNat=j:=by
   rw [seqIndex_of h0 h5] at h1
   exact Option.some.inj h1
  exact item_listR pl.isList h0 (by omega) (by rw [hj];simpa using ew) fin hs
 ·have hj:(i+(its.toArray.size:Int)).toNat=j:=by
   rw [seqIndex_neg (by omega) h4] at h1
   rw [List.size_toArray,←hl]
   exact Option.some.inj h1
  exact subscriptTail_builtinR (x:=w) pl.isList.typeIs slot_list_getitem.lookup
   (wpAny_getItem_list_neg (Q:=fun r s'=>r=w/\EP X pins σ Q r s') pl.isList (by omega) (by rw [List.size_toArray] <;> omega) (by omega) (by rw [hj];simpa using ew) ⟨rfl,fin⟩) hs
theorem Yz:IxR X (Zv X.K):=by
 intro value slice pins s σ H x y v u Q I rx ry h hs
 obtain ⟨p,xs,i,z,rfl,rfl,hq,he,q⟩:=h
 cases rx
 obtain ⟨t,rfl⟩:=ry
 obtain ⟨its,r,pl,hz⟩:=I.tuple hq
 obtain ⟨j,h1,h2,h3,h4,h5⟩:=Pn he
 obtain ⟨w,ew,rw'⟩:=r.get h2
 have hl:=r.length
 have hn:=NU
 have fin:EP X pins σ Q w s:=⟨z,H,I,rw',q⟩
 exact subscriptTail_builtinR (x:=w) pl.typeIs slot_tuple_getitem.lookup
  (getItem_tuple (j:=j) (Q:=fun r s'=>r=w/\EP X pins σ Q r s') pl (by omega) (by omega) (by rw [List.size_toArray,←hl];exact h1) (by simpa using ew) ⟨rfl,fin⟩) hs
theorem Y0:IxR X bV:=by
 intro value slice pins s σ H x y v u Q I rx ry h hs
 obtain ⟨z,i,c,rfl,rfl,hz,he,q⟩:=h
 obtain ⟨t,rfl⟩:=rx
 obtain ⟨t',rfl⟩:=ry
 obtain ⟨j,h1,h2,h3,h4,h5⟩:=Pn he
 have hl:z.cps.toList.length=z.length:=by simp [Str.length]
 rw [hl] at h1 h4 h5
 have hn:=NU
 exact tail_any (typeIs_str s z t) slot_str_getitem.lookup (getItem_str (c:=c) (by
  have e1:decide (i < -(2 ^ 63:Int))=false:=decide_eq_false (by omega)
  have e2:decide (i≥2 ^ 63)=false:=decide_eq_false (by omega)
  rw [e1,e2,Bool.or_false]) (by rw [h1];simpa using h2) ⟨.str ⟨#[c]⟩,H,I.tok _,⟨_,rfl⟩,q⟩) hs
theorem Ox (lo hi:Option Int) (n:Nat):(sliceBounds lo hi none n).1=((HT.sIx n 0 lo:Nat):Int)/\(sliceBounds lo hi none n).2.1=((HT.sIx n n hi:Nat):Int)/\(sliceBounds lo hi none n).2.2=1:=by
 refine ⟨?_,?_,rfl⟩
 ·cases lo with
  | none=>simp [sliceBounds,HT.sIx]
  | some i =>
   simp only [sliceBounds,HT.sIx,Option.getD_none,show (1:Int) > 0 by decide,if_true]
   by_cases h:i<0
   ·simp only [h,if_true] <;> omega
   ·simp only [h,if_false] <;> omega
 ·cases hi with
  | none=>simp [sliceBounds,HT.sIx]
  | some i =>
   simp only [sliceBounds,HT.sIx,Option.getD_none,show (1:Int) > 0 by decide,if_true]
   by_cases h:i<0
   ·simp only [h,if_true] <;> omega
   ·simp only [h,if_false] <;> omega
theorem Nv (its:List Value) (lo hi:Option Int):slicePick its.toArray lo hi none=((its.drop (HT.sIx its.length 0 lo)).take (HT.sIx its.length its.length hi-HT.sIx its.length 0 lo)).toArray:=by
 obtain ⟨h1,h2,h3⟩:=Ox lo hi its.toArray.size
 unfold slicePick
 rw [h1,h2,h3]
 simp only [sliceRange_one,pick_run,List.size_toArray] <;> rfl
def Zu (K:PySem.W.Frag):V→Option Int→Option Int→Hp→VK→Prop:=fun x lo hi H Q=>∃a xs,x=.ref a/\SqL K H a xs/\∀p,H p=none→Q (.ref p) (upd H p (.lst (Jb xs lo hi)))
theorem Wa:SlR X (Zu X.K):=by
 intro pins s σ H x v vl vu lo hi sl Q I rx hs pl pu h
 obtain ⟨a,xs,rfl,hx,q⟩:=h
 cases rx
 obtain ⟨its,r,ht,hz⟩:=I.list hx
 have hlen:=r.length
 refine ⟨"list", _,slot_list_getitem.lookup,ht.isList.typeIs,?_⟩
 refine wpAny_getItem_list_slice ht.isList hs pl pu .none (by simp) ?_ (by rw [List.size_toArray] <;> omega)
 rw [Nv,←hlen]
 refine ⟨.ref s.heap.objs.size,_,I.laid (t':=s.toks) (o:=.lst (Jb xs lo hi)) (fun b ob q=>Heap.get?_push_of_some _ q) (Nat.le_refl _) ?_,rfl,q _ (I.hok.fresh (Nat.le_refl _))⟩
 exact ⟨Nat.le_trans (MV xs lo hi) hz,_,0,(r.drop (HT.sIx xs.length 0 lo)).take (HT.sIx xs.length xs.length hi-HT.sIx xs.length 0 lo),Heap.get?_push_size _ rfl⟩
def Jo:V→Bool
 | .non=>true
 | .bl _=>true
 | .int _=>true
 | .str _=>true
 | _=>false
def eqV:V→V→Bool
 | .non,.non=>true
 | .bl a,.bl b=>a==b
 | .bl a,.int b=>(if a then 1 else 0)==b
 | .int a,.bl b=>a==(if b then 1 else 0)
 | .int a,.int b=>a==b
 | .str a,.str b=>a==b
 | _,_=>false
theorem Y3 {A:Around}{s:Shared}{y x:V}{u v:Value}(ry:RelV y u) (rx:RelV x v) (fy:Jo y=true) (fx:Jo x=true):SeqAt.EqAt A s u v (eqV y x):=by
 cases y with
 | non =>
  cases ry
  cases x with
  | non=>cases rx;exact SeqAt.EqAt.same _
  | bl b=>cases rx;exact SeqAt.EqAt.none_bool b
  | int b=>obtain ⟨t,rfl⟩:=rx;exact SeqAt.EqAt.none_int b t
  | str b=>obtain ⟨t,rfl⟩:=rx;exact SeqAt.EqAt.none_str b t
  | _=>exact absurd (show false=true from fx) Bool.false_ne_true
 | bl a =>
  cases ry
  cases x with
  | non=>cases rx;exact SeqAt.EqAt.bool_none a
  | bl b=>cases rx;exact SeqAt.EqAt.bool_bool a b
  | int b=>obtain ⟨t,rfl⟩:=rx;exact SeqAt.EqAt.bool_int a b t
  | str b=>obtain ⟨t,rfl⟩:=rx;exact SeqAt.EqAt.bool_str a b t
  | _=>exact absurd (show false=true from fx) Bool.false_ne_true
 | int a =>
  obtain ⟨t',rfl⟩:=ry
  cases x with
  | non=>cases rx;exact SeqAt.EqAt.int_none a t'
  | bl b=>cases rx;exact SeqAt.EqAt.int_bool a t' b
  | int b=>obtain ⟨t,rfl⟩:=rx;exact SeqAt.EqAt.int_int a t' b t
  | str b=>obtain ⟨t,rfl⟩:=rx;exact SeqAt.EqAt.int_str a t' b t
  | _=>exact absurd (show false=true from fx) Bool.false_ne_true
 | str a =>
  obtain ⟨t',rfl⟩:=ry
  cases x with
  | non=>cases rx;exact SeqAt.EqAt.str_none a t'
  | bl b=>cases rx;exact SeqAt.EqAt.str_bool a t' b
  | int b=>obtain ⟨t,rfl⟩:=rx;exact SeqAt.EqAt.str_int a t' b t
  | str b=>obtain ⟨t,rfl⟩:=rx;exact SeqAt.EqAt.str_str a t' b t
  | _=>exact absurd (show false=true from fx) Bool.false_ne_true
 | _=>exact absurd (show false=true from fy) Bool.false_ne_true
def eqU (x:V) (u:Value):Bool:=match u with
 | .none=>eqV .non x
 | .bool b=>eqV (.bl b) x
 | .int i _=>eqV (.int i) x
 | .str z _=>eqV (.str z) x
 | _=>false
theorem Vt {x y:V}{u:Value}(r:RelV y u) (f:Jo y=true):eqU x u=eqV y x:=by
 cases y with
 | non=>cases r;rfl
 | bl b=>cases r;rfl
 | int i=>obtain ⟨t,rfl⟩:=r;rfl
 | str z=>obtain ⟨t,rfl⟩:=r;rfl
 | _=>exact absurd (show false=true from f) Bool.false_ne_true
theorem LG {x:V}:∀{xs:List V}{us:List Value},Vals xs us→xs.all Jo=true→us.any (eqU x)=xs.any fun y=>eqV y x
 | _,_,.nil,_=>rfl
 | y::xs,u::us,.cons r t,f=>by
  rw [List.all_cons,Bool.and_eq_true] at f
  rw [List.any_cons,List.any_cons,Vt r f.1,LG t f.2]
theorem Ii {A:Around}{s:Shared}{x:V}{v:Value}(rx:RelV x v) (fx:Jo x=true):∀{xs:List V}{us:List Value},Vals xs us→xs.all Jo=true→∀u∈us,SeqAt.EqAt A s u v (eqU x u)
 | _,_,.nil,_=>fun u hu=>by cases hu
 | y::xs,u::us,.cons r t,f=>fun u' hu=>by
  rw [List.all_cons,Bool.and_eq_true] at f
  rcases List.mem_cons.mp hu with rfl|hu
  ·rw [Vt r f.1];exact Y3 r rx f.1 fx
  ·exact Ii rx fx t f.2 u' hu
def inV (x:V) (xs:List V):Bool:=xs.any fun y=>eqV y x
def rIn (K:PySem.W.Frag) (neg:Bool):R2:=fun x y H Q=>∃p xs,y=.ref p/\(SqL K H p xs\/SqT K H p xs)/\Jo x=true/\xs.all Jo=true/\Q (.bl (if neg then !inV x xs else inV x xs)) H
theorem Tg:OpR X (compareOp .In) (rIn X.K false):=by
 intro pins s σ H x y v u Q I rx ry h
 obtain ⟨p,xs,rfl,hq,fx,fs,q⟩:=h
 cases ry
 rcases hq with hq|hq
 ·obtain ⟨its,r,pl,hz⟩:=I.list hq
  refine SeqAt.in_listAt (eqU x) pl.isList (fun w hw=>Ii rx fx r fs w (by simpa using hw)) ⟨.bl _,H,I,rfl,?_⟩
  rw [show its.toArray.any (eqU x)=its.any (eqU x) by simp,LG r fs]
  exact q
 ·obtain ⟨its,r,pl,hz⟩:=I.tuple hq
  refine SeqAt.in_tupleAt (eqU x) pl (fun w hw=>Ii rx fx r fs w (by simpa using hw)) ⟨.bl _,H,I,rfl,?_⟩
  rw [show its.toArray.any (eqU x)=its.any (eqU x) by simp,LG r fs]
  exact q
theorem O6:OpR X (compareOp .NotIn) (rIn X.K true):=by
 intro pins s σ H x y v u Q I rx ry h
 obtain ⟨p,xs,rfl,hq,fx,fs,q⟩:=h
 cases ry
 rcases hq with hq|hq
 ·obtain ⟨its,r,pl,hz⟩:=I.list hq
  refine SeqAt.notIn_listAt (eqU x) pl.isList (fun w hw=>Ii rx fx r fs w (by simpa using hw)) ⟨.bl _,H,I,rfl,?_⟩
  rw [show its.toArray.any (eqU x)=its.any (eqU x) by simp,LG r fs]
  exact q
 ·obtain ⟨its,r,pl,hz⟩:=I.tuple hq
  refine SeqAt.notIn_tupleAt (eqU x) pl (fun w hw=>Ii rx fx r fs w (by simpa using hw)) ⟨.bl _,H,I,rfl,?_⟩
  rw [show its.toArray.any (eqU x)=its.any (eqU x) by simp,LG r fs]
  exact q
theorem Pj:DT X (.builtin "len") (fun xs H Q=>∃p ys,xs=[.ref p]/\(SqL X.K H p ys\/SqT X.K H p ys)/\Q (.int ys.length) H):=by
 intro pins s σ H xs us Q I r h
 obtain ⟨p,ys,rfl,hq,q⟩:=h
 obtain ⟨u,rfl,rx⟩:=vals1 r
 cases rx
 have hn:=NU
 rcases hq with hq|hq
 ·obtain ⟨its,r',pl,hz⟩:=I.list hq
  have hlen:=r'.length
  exact Calls.call_len_list pl.isList (by simp only [List.size_toArray] <;> omega) ⟨.int ys.length,H,I.tok _,⟨s.toks+1,by rw [List.size_toArray,hlen]⟩,q⟩
 ·obtain ⟨its,r',pl,hz⟩:=I.tuple hq
  have hlen:=r'.length
  exact len_tuple pl (by simp only [List.size_toArray] <;> omega) ⟨.int ys.length,H,I.tok _,⟨s.toks+1,by rw [List.size_toArray,hlen]⟩,q⟩
theorem F8:DT X (.builtin "len") (fun xs H Q=>∃z,xs=[.str z]/\z.length≤sizeLine/\Q (.int z.length) H):=by
 intro pins s σ H xs us Q I r h
 obtain ⟨z,rfl,hz,q⟩:=h
 obtain ⟨u,rfl,t,rfl⟩:=vals1 r
 have hn:=NU
 exact len_str (by omega) ⟨.int z.length,H,I.tok _,⟨_,rfl⟩,q⟩
theorem Ph:DT X (.type "list") (fun xs H Q=>∃p ys,xs=[.ref p]/\(SqL X.K H p ys\/SqT X.K H p ys)/\∀l,H l=none→Q (.ref l) (upd H l (.lst ys))):=by
 intro pins s σ H xs us Q I r h
 obtain ⟨p,ys,rfl,hq,q⟩:=h
 obtain ⟨u,rfl,rx⟩:=vals1 r
 cases rx
 have fin:∀(its:List Value),Vals ys its→ys.length≤sizeLine→∀(h':Heap) (c':Nat),(∀b o',s.heap.get? b=some o'→h'.get? b=some o') →
   h'.get? s.heap.objs.size=some { cls:=.type "list", dict:=none,data:=.seq its.toArray c',slots:=#[] }→EP X pins σ Q (.ref s.heap.objs.size) { s with heap:=h' }:=fun its r' hz h' c' kp e =>
  ⟨.ref s.heap.objs.size,_,I.laid (t':=s.toks) kp (Nat.le_refl _) (show BJ X.prog X.w _ h' _ (.lst ys) from ⟨hz,its,c',r',e⟩),rfl,q _ (I.hok.fresh (Nat.le_refl _))⟩
 rcases hq with hq|hq
 ·obtain ⟨its,r',pl,hz⟩:=I.list hq
  have hlen:=r'.length
  obtain ⟨o,ho,hc,n,hd⟩:=pl.isList
  exact call_list_seq p (.inl rfl) ho hc hd (fun h' c' kp e=>fin its r' hz h' c' kp e) (by simp only [List.size_toArray] <;> omega)
 ·obtain ⟨its,r',pl,hz⟩:=I.tuple hq
  have hlen:=r'.length
  obtain ⟨o,ho,hc,n,hd⟩:=pl
  exact call_list_seq p (.inr rfl) ho hc hd (fun h' c' kp e=>fin its r' hz h' c' kp e) (by simp only [List.size_toArray] <;> omega)
theorem Gz:DT X (.type "tuple") (fun xs H Q=>∃p ys,xs=[.ref p]/\((SqL X.K H p ys/\∀l,H l=none→Q (.ref l) (upd H l (.tup ys)))\/(SqT X.K H p ys/\Q (.ref p) H))):=by
 intro pins s σ H xs us Q I r h
 obtain ⟨p,ys,rfl,h⟩:=h
 obtain ⟨u,rfl,rx⟩:=vals1 r
 cases rx
 rcases h with ⟨hq,q⟩|⟨hq,q⟩
 ·obtain ⟨its,r',pl,hz⟩:=I.list hq
  have hlen:=r'.length
  refine call_tuple_list pl.isList (fun h' kp=>?_) (by simp only [List.size_toArray] <;> omega)
  have I1:Inv X pins σ H { s with heap:=h' }:=I.kept (t':=s.toks) kp
  have I2:Inv X pins σ (upd H h'.objs.size (.tup ys)) { s with heap:=h'.push { cls:=.type "tuple", data:=.seq its.toArray } } :=
   I1.laid (t':=s.toks) (fun b o e=>Heap.get?_push_of_some _ e) (Nat.le_refl _) (show BJ X.prog X.w _ _ _ (.tup ys) from ⟨hz,its,r',IsTup.new _ _⟩)
  exact ⟨.ref h'.objs.size,_,I2,rfl,q _ (I1.hok.fresh (Nat.le_refl _))⟩
 ·obtain ⟨its,r',pl,hz⟩:=I.tuple hq
  exact call_tuple_same pl ⟨.ref p,H,I,rfl,q⟩
def tyV (K:PySem.W.Frag) (T:String) (x:V) (H:Hp):Prop:=match x with
 | .str _=>T = "str"
 | .int _=>T = "int"
 | .ref p=>(T = "list" /\ ∃xs,SqL K H p xs)\/(T = "tuple" /\ ∃o,K.lookup p=some o/\o.cls=.type "tuple" /\ o.dict=none) \/
   (T = "dict" /\ ((∃kvs,H p=some (.dK kvs))\/∃kvs,H p=some (.dT kvs)))\/(T = "set" /\ ∃S n,H p=some (.set S n))
 | _=>False
theorem YA {pins:List (Addr×Obj)}{σ:St}{H:Hp}{s:Shared}{T:String}{x:V}{v:Value}(I:Inv X pins σ H s) (r:RelV x v) (ty:tyV X.K T x H) :
  s.TypeIs v T/\∀a,v=.ref a→∃ob,s.heap.get? a=some ob/\ob.dict=none:=by
 cases x with
 | str z =>
  obtain ⟨t,rfl⟩:=r
  cases (show T = "str" from ty)
  exact ⟨typeIs_str s z t,fun _ e=>nomatch e⟩
 | int i =>
  obtain ⟨t,rfl⟩:=r
  cases (show T = "int" from ty)
  exact ⟨typeIs_int s i t,fun _ e=>nomatch e⟩
 | ref p =>
  cases r
  rcases ty with ⟨rfl,xs,hq⟩|⟨rfl,o,hk,hc,hd⟩|⟨rfl,hk⟩|⟨rfl,S,n,hk⟩
  ·obtain ⟨its,_,pl,_⟩:=I.list hq
   refine ⟨pl.isList.typeIs,fun a e=>?_⟩
   cases e
   obtain ⟨o,n,e,c,hd,_⟩:=pl
   exact ⟨o,e,hd⟩
  ·refine ⟨⟨o,I.kIn p o hk,hc⟩,fun a e=>?_⟩
   cases e
   exact ⟨o,I.kIn _ o hk,hd⟩
  ·have z:∃o,s.heap.get? p=some o/\o.ExactDict:=by
    rcases hk with ⟨kvs,hk⟩|⟨kvs,hk⟩
    ·obtain ⟨_,_,_,_,o,_,_,e,ex,_⟩:=I.hok p _ hk
     exact ⟨o,e,ex⟩
    ·obtain ⟨_,_,_,_,o,_,_,e,ex,_⟩:=I.hok p _ hk
     exact ⟨o,e,ex⟩
   obtain ⟨o,e,ex⟩:=z
   refine ⟨⟨o,e,ex.1⟩,fun a e2=>?_⟩
   cases e2
   exact ⟨o,e,ex.2.1⟩
  ·obtain ⟨o,_,_,_,e,ex,_⟩:=I.hok p _ hk
   refine ⟨⟨o,e,ex.1⟩,fun a e2=>?_⟩
   cases e2
   exact ⟨o,e,ex.2.1⟩
 | _=>exact False.elim ty
def tBM (K:PySem.W.Frag) (T:String) (r:V→List V→Hp→VK→Prop) (to:TE) (t:TA):TE:=fun σ H Q=>to σ H fun x H1=>tyV K T x H1/\t σ H1 fun xs H2=>r x xs H2 Q
variable {o e:Expr}{es:List Expr}{to:TE}{t:TA}{name:Str}{apos cpos:Pos}{T id:String}{r:V→List V→Hp→VK→Prop}
theorem Zz (pa:PlainAttrs T) (slot:Slot T name id) (hty:typeOf (.builtin id)=pure (.type "method_descriptor")) (hm:MtR X id r) (ho:PE X o to) (ha:PA X (e::es) t)
  (hbase:attributeBase o name X.env (eval o X.env)=eval o X.env:=by rfl)
  (hfew:((backTo cpos (starEach (e::es) X.env)).all (fun x=>!x.1)&&(backToKw cpos (keywordEach [] X.env)).all (fun x=>x.1.isSome)
   && decide ((e::es).length+([]:List Keyword).length+(if ([]:List Keyword).isEmpty then 0 else 1)<30))=true:=by rfl)
  (hline:(apos.endLine==cpos.line)=true:=by rfl) (hs:starEach (e::es) X.env=(false,eval e X.env)::starEach es X.env:=by rfl) (hplain:(backTo cpos (starEach es X.env)).any (·.1)=false:=by rfl) :
  PE X (.Call (.Attribute o name apos) (e::es) [] cpos) (tBM X.K T r to t):=by
 intro pins s σ H Q I h
 refine wpAny_Call_method_late hbase hfew hline rfl (thn (ho pins s σ H _ I h) fun v s1 ⟨x,H1,I1,r1,ty,q1⟩=>?_)
 obtain ⟨h1,h2⟩:=YA I1 r1 ty
 refine ⟨T,id,pa,slot,hty,h1,h2,?_⟩
 have hA:=ha cpos pins s1 σ H1 _ I1 q1
 rw [hs] at hA ⊢
 refine Calls.callWith_builtin (by show (false||(backTo cpos (starEach es X.env)).any (·.1))=false;rw [hplain] <;> rfl) (Calls.evalArgs_plain ?_)
 exact thn hA fun us s2 ⟨vs,H2,I2,r2,q2⟩=>hm pins s2 σ H2 x vs v us Q I2 r1 r2 q2
end
end L2
namespace L2
open PySem PySem.Spec PyProof.Rows
def MtM (X:Cx) (id:String) (r:V→List V→Hp→VK→Prop):Prop :=
 ∀(pins:List (Addr×Obj)) (s:Shared) (σ:St) (H:Hp) (x:V) (xs:List V) (v:Value) (us:List Value) (Q:VK),Inv X pins σ H s→RelV x v→Vals xs us→r x xs H Q →
  wpAny (model X.prog X.w) X.A (call (.builtin id) (v::us)) (EP X pins σ Q) X.xe s
theorem Vals.one:∀{x:V}{us:List Value},Vals [x] us→∃u,us=[u]/\RelV x u
 | _,_,.cons r .nil=>⟨_,rfl,r⟩
section
variable {X:Cx}{pins:List (Addr×Obj)}{σ:St}{H:Hp}{s:Shared}{l b:Addr}{xs ys zs:List V}
theorem Inv.aG {its its':List Value}{n:Nat}{f:Array Value→Array Value}{t':Nat}(I:Inv X pins σ H s) (hH:H l=some (.lst xs))
  (e:s.heap.get? l=some { cls:=.type "list", data:=.seq its.toArray n }) (hf:f its.toArray=its'.toArray) (hv:Vals ys its') (hz:ys.length≤sizeLine) :
  Inv X pins σ (upd H l (.lst ys)) { s with heap:=s.heap.update l (Obj.mapSeq f),toks:=t' }:=by
 have q:=PySem.IsL.update e f
 rw [hf] at q
 refine I.write (x:=l) (e:=l) (by rw [hH];exact trivial) (.inl rfl) (fun b' u hb hu=>(Heap.get?_update_other s.heap (Obj.mapSeq f) (Ne.symm hb)).trans hu) ⟨_,q⟩ ?_
 exact ⟨hz,its',_,hv,q⟩
theorem Inv.cB {its:List Value}{t':Nat}(I:Inv X pins σ H s) (hv:Vals ys its) (hz:ys.length≤sizeLine) :
  Inv X pins σ (upd H s.heap.objs.size (.lst ys)) { s with heap:=s.heap.push { cls:=.type "list", data:=.seq its.toArray },toks:=t' } :=
 I.laid (fun _ _ q=>Heap.get?_push_of_some _ q) (Nat.le_refl _) ⟨hz,its,0,hv,Heap.get?_push_size _ rfl⟩
theorem Inv.fresh (I:Inv X pins σ H s):H s.heap.objs.size=none:=I.hok.fresh (Nat.le_refl _)
theorem Inv.Vc (I:Inv X pins σ H s) (hH:H l=some (.lst xs)):xs.length≤sizeLine/\∃(its:List Value) (n:Nat),Vals xs its/\xs.length=its.length/\s.heap.get? l=some { cls:=.type "list", data:=.seq its.toArray n }:=by
 obtain ⟨z,its,n,r,e⟩:=I.hok l _ hH
 exact ⟨z,its,n,r,r.length,e⟩
theorem VO {n:Nat}(h:n≤sizeLine):Builtin.List.listTooLong n=false:=by
 unfold Builtin.List.listTooLong
 exact decide_eq_false (by omega)
end
section
variable {X:Cx}
def O2:V→List V→Hp→VK→Prop:=fun x vs H Q=>∃l xs y,x=.ref l/\vs=[y]/\H l=some (.lst xs)/\xs.length<sizeLine/\Q .non (upd H l (.lst (xs++[y])))
theorem Tu:MtM X "list.append" O2:=by
 intro pins s σ H x vs v us Q I rx rv h
 obtain ⟨l,xs,y,rfl,rfl,hH,hz,q⟩:=h
 cases rx
 obtain ⟨u,rfl,ru⟩:=rv.one
 obtain ⟨z,its,n,r,hl,e⟩:=I.Vc hH
 refine call_meets F.slot_list_append ⟨_,e,rfl⟩ F.entry_list_append (F.args_list_append_2 _ _) (PySem.list_append l its.toArray n u (by rw [List.size_toArray];omega)) ⟨e,?_⟩
 refine ⟨.non,_,I.aG (its':=its++[u]) hH e (by simp) (r.append (.cons ru .nil)) ?_,rfl,q⟩
 rw [List.length_append,List.length_singleton]
 omega
def Wf:V→List V→Hp→VK→Prop:=fun x vs H Q=>∃l b xs zs,x=.ref l/\vs=[.ref b]/\H l=some (.lst xs)/\H b=some (.lst zs)/\xs.length+zs.length≤sizeLine/\Q .non (upd H l (.lst (xs++zs)))
theorem LZ:MtM X "list.extend" Wf:=by
 intro pins s σ H x vs v us Q I rx rv h
 obtain ⟨l,b,xs,zs,rfl,rfl,hH,hB,hz,q⟩:=h
 cases rx
 obtain ⟨u,rfl,ru⟩:=rv.one
 cases ru
 obtain ⟨z,its,n,r,hl,e⟩:=I.Vc hH
 obtain ⟨z2,its2,n2,r2,hl2,e2⟩:=I.Vc hB
 have hsz:its.toArray.size+its2.toArray.size≤sizeLine:=by rw [List.size_toArray,List.size_toArray];omega
 have hlong:¬ (!its.toArray.isEmpty&&Builtin.List.listTooLong (its.toArray.size+its2.toArray.size))=true:=by
  rw [VO hsz,Bool.and_false]
  exact Bool.false_ne_true
 refine call_meets F.slot_list_extend ⟨_,e,rfl⟩ F.entry_list_extend (F.args_list_extend_2 _ _)
  (AutoSeq1.list_extend_list_list_0 l its.toArray n b its2.toArray n2 hlong (by rw [List.size_toArray];omega) (by omega)) ⟨e,e2,?_⟩
 refine ⟨.non,_,I.aG (its':=its++its2) hH e (by simp) (r.append r2) ?_,rfl,q⟩
 rw [List.length_append]
 omega
def bX:R2:=fun x y H Q=>∃l b xs zs,x=.ref l/\y=.ref b/\H l=some (.lst xs)/\H b=some (.lst zs)/\xs.length+zs.length≤sizeLine/\∀p,H p=none→Q (.ref p) (upd H p (.lst (xs++zs)))
theorem A1:OpR X (binaryOp .Add) bX:=by
 intro pins s σ H x y v u Q I rx ry h
 obtain ⟨l,b,xs,zs,rfl,rfl,hH,hB,hz,q⟩:=h
 cases rx
 cases ry
 obtain ⟨z,its,n,r,hl,e⟩:=I.Vc hH
 obtain ⟨z2,its2,n2,r2,hl2,e2⟩:=I.Vc hB
 refine PySem.P.add_list e e2 ?_ (by rw [List.size_toArray,List.size_toArray];omega)
 have ea:its.toArray++its2.toArray=(its++its2).toArray:=by simp
 rw [ea]
 exact ⟨.ref _,_,I.cB (t':=s.toks) (r.append r2) (by rw [List.length_append];omega),rfl,q _ I.fresh⟩
end
section
variable {prog:Program}{w:World}{A:Around}{E:Value→Shared→Prop}{s:Shared}
end
section
variable {X:Cx}
end
end L2
namespace L2
open PySem PySem.Spec PyProof.Rows
section
variable {κ:Type}[DecidableEq κ]
def Bc (kvs:List (κ×V)) (k:κ):Option V:=(kvs.find? fun kv=>decide (kv.1=k)).map (·.2)
def putK (kvs:List (κ×V)) (k:κ) (v:V):List (κ×V) :=
 if (kvs.any fun kv=>decide (kv.1=k))=true then kvs.map (fun kv=>if kv.1=k then (kv.1,v) else kv) else kvs++[(k,v)]
theorem CT {p:κ×V}{r:List (κ×V)}{k:κ}(e:p.1=k):Bc (p::r) k=some p.2:=by simp [Bc,List.find?_cons,e]
theorem CU {p:κ×V}{r:List (κ×V)}{k:κ}(e:¬ p.1=k):Bc (p::r) k=Bc r k:=by simp [Bc,List.find?_cons,e]
theorem IL (k:κ):∀kvs:List (κ×V),(kvs.any fun kv=>decide (kv.1=k))=(Bc kvs k).isSome
 | []=>rfl
 | p::r=>by
  rw [List.any_cons]
  by_cases e:p.1=k
  ·simp only [CT e,decide_eq_true e,Bool.true_or,Option.isSome_some]
  ·rw [CU e,decide_eq_false e,Bool.false_or];exact IL k r
theorem Pw (k j:κ) (y:V):∀kvs:List (κ×V),Bc (kvs.map fun kv=>if kv.1=k then (kv.1,y) else kv) j=(Bc kvs j).map fun x=>if j=k then y else x
 | []=>rfl
 | p::r=>by
  have ih:=Pw k j y r
  rw [List.map_cons]
  by_cases h:p.1=k
  ·rw [if_pos h]
   by_cases e:p.1=j
   ·rw [CT (p:=(p.1,y)) e,CT e,Option.map_some,if_pos (e.symm.trans h)]
   ·rw [CU (p:=(p.1,y)) e,CU e,ih]
  ·rw [if_neg h]
   by_cases e:p.1=j
   ·rw [CT (p:=p) e,CT e,Option.map_some,if_neg (fun z=>h (e.trans z))]
   ·rw [CU (p:=p) e,CU e,ih]
theorem OC (k j:κ) (y:V):∀kvs:List (κ×V),Bc kvs k=none→Bc (kvs++[(k,y)]) j=if j=k then some y else Bc kvs j
 | [],_=>by
  by_cases e:k=j
  ·rw [if_pos e.symm];exact CT (p:=(k,y)) e
  ·rw [if_neg (fun z=>e z.symm)];exact CU (p:=(k,y)) e
 | p::r,hn=>by
  rw [List.cons_append]
  have hk:¬ p.1=k:=fun z=>by rw [CT z] at hn;cases hn
  rw [CU hk] at hn
  have ih:=OC k j y r hn
  by_cases e:p.1=j
  ·rw [CT e,CT e,if_neg (fun z=>hk (e.trans z))]
  ·rw [CU e,CU e,ih]
theorem UX (kvs:List (κ×V)) (k j:κ) (y:V):Bc (putK kvs k y) j=if j=k then some y else Bc kvs j:=by
 unfold putK
 by_cases a:(kvs.any fun kv=>decide (kv.1=k))=true
 ·rw [if_pos a,Pw]
  rw [IL] at a
  by_cases e:j=k
  ·obtain ⟨x,hx⟩:=Option.isSome_iff_exists.mp a
   rw [if_pos e,e,hx,Option.map_some,if_pos rfl]
  ·rw [if_neg e]
   cases Bc kvs j with
   | none=>rfl
   | some x=>rw [Option.map_some,if_neg e]
 ·rw [if_neg a]
  refine OC k j y kvs ?_
  rw [IL] at a
  cases q:Bc kvs k with
  | none=>rfl
  | some x=>rw [q] at a;exact (a rfl).elim
theorem Ij (kvs:List (κ×V)) (k:κ) (v:V):(putK kvs k v).length≤kvs.length+1:=by
 unfold putK
 split
 ·rw [List.length_map];omega
 ·rw [List.length_append,List.length_cons,List.length_nil];omega
theorem GY.Ll {o:Option V}{u:Option Value}(r:GY o u):o.isSome=u.isSome:=by
 cases o with
 | none=>cases u with
  | none=>rfl
  | some _=>exact (show False from r).elim
 | some _=>cases u with
  | none=>exact (show False from r).elim
  | some _=>rfl
theorem GY.getD {o:Option V}{u:Option Value}{d:V}{d':Value}(r:GY o u) (rd:RelV d d'):RelV (o.getD d) (u.getD d'):=by
 cases o with
 | none=>cases u with
  | none=>exact rd
  | some _=>exact (show False from r).elim
 | some _=>cases u with
  | none=>exact (show False from r).elim
  | some _=>exact r
theorem KV.val {kvs:List (κ×V)}{vs:List (κ×Value)}(r:KV kvs vs) (k:κ):GY (Bc kvs k) (valueAt vs k):=by
 unfold KV at r
 induction r with
 | nil=>exact True.intro
 | @cons p q ps qs h t ih =>
  obtain ⟨h1,h2⟩:=h
  by_cases e:p.1=k
  ·have e':q.1=k:=h1.symm.trans e
   have b:valueAt (q::qs) k=some q.2:=by simp [valueAt,List.find?_cons,e']
   rw [CT e,b];exact h2
  ·have e':¬ q.1=k:=fun z=>e (h1.trans z)
   have b:valueAt (q::qs) k=valueAt qs k:=by simp [valueAt,List.find?_cons,e']
   rw [CU e,b];exact ih
theorem KV.any {kvs:List (κ×V)}{vs:List (κ×Value)}(r:KV kvs vs) (k:κ):(kvs.any fun kv=>decide (kv.1=k))=vs.any fun kv=>decide (kv.1=k):=by
 unfold KV at r
 induction r with
 | nil=>rfl
 | cons h t ih=>rw [List.any_cons,List.any_cons,ih,h.1]
theorem KV.YZ {kvs:List (κ×V)}{vs:List (κ×Value)}(r:KV kvs vs) (k:κ) {y:V}{u:Value}(ry:RelV y u) :
  KV (kvs.map fun kv=>if kv.1=k then (kv.1,y) else kv) (vs.map fun kv=>if kv.1=k then (kv.1,u) else kv):=by
 unfold KV at r ⊢
 induction r with
 | nil=>exact .nil
 | @cons p q ps qs h t ih =>
  rw [List.map_cons,List.map_cons]
  refine .cons ?_ ih
  obtain ⟨h1,h2⟩:=h
  by_cases e:p.1=k
  ·rw [if_pos e,if_pos (h1.symm.trans e)];exact ⟨h1,ry⟩
  ·rw [if_neg e,if_neg (fun z=>e (h1.trans z))];exact ⟨h1,h2⟩
theorem KV.put {kvs:List (κ×V)}{vs:List (κ×Value)}(r:KV kvs vs) (k:κ) {y:V}{u:Value}(ry:RelV y u):KV (putK kvs k y) (stored vs k u):=by
 unfold putK stored
 rw [r.any k]
 by_cases e:(vs.any fun kv=>decide (kv.1=k))=true
 ·rw [if_pos e,if_pos e];exact r.YZ k ry
 ·rw [if_neg e,if_neg e];exact Paired.snoc r ⟨rfl,ry⟩
theorem KV.length {kvs:List (κ×V)}{vs:List (κ×Value)}(r:KV kvs vs):kvs.length=vs.length:=Paired.length r
end
theorem OR {P:Program}{w:World}{k:Key}{u:Value}(r:RelV (kV k) u):(A5 P w).is k u=true:=by
 cases k with
 | inl i=>obtain ⟨t,e⟩:=(show ∃t,u=Value.int i t from r);subst e;exact QU P w i t
 | inr x=>obtain ⟨t,e⟩:=(show ∃t,u=Value.str x t from r);subst e;exact QT P w x t
theorem OS {P:Program}{w:World}:∀{ks:List Key}{us:List Value},Vals (ks.map kV) us→ItemsAre (A5 P w) ks us
 | [],_,r=>by rw [List.map_nil] at r;cases r;exact .nil
 | k::ks,_,r=>by
  rw [List.map_cons] at r
  cases r with
  | cons h t=>exact .cons (OR h) (OS t)
abbrev KT (H:Hp):List (List Key×V)→List (List Key×Addr×Value)→Prop:=Paired fun p q=>p.1=q.1/\H q.2.1=some (.tup (p.1.map kV))/\RelV p.2 q.2.2
theorem KT.val {H:Hp}{kvs:List (List Key×V)}{xs:List (List Key×Addr×Value)}(r:KT H kvs xs) (k:List Key):GY (Bc kvs k) ((atKey xs k).map (·.2)):=by
 induction r with
 | nil=>exact True.intro
 | @cons p q ps qs h t ih =>
  obtain ⟨h1,_,h2⟩:=h
  by_cases e:p.1=k
  ·have e':q.1=k:=h1.symm.trans e
   have b:atKey (q::qs) k=some q.2:=by simp [atKey,List.find?_cons,e']
   rw [CT e,b];exact h2
  ·have e':¬ q.1=k:=fun z=>e (h1.trans z)
   have b:atKey (q::qs) k=atKey qs k:=by simp [atKey,List.find?_cons,e']
   rw [CU e,b];exact ih
theorem KT.YZ {H:Hp}{kvs:List (List Key×V)}{xs:List (List Key×Addr×Value)}(r:KT H kvs xs) (k:List Key) {y:V}{u:Value}(ry:RelV y u) :
  KT H (kvs.map fun kv=>if kv.1=k then (kv.1,y) else kv) (xs.map (putAt k u)):=by
 induction r with
 | nil=>exact .nil
 | @cons p q ps qs h t ih =>
  rw [List.map_cons,List.map_cons]
  refine .cons ?_ ih
  obtain ⟨h1,h2,h3⟩:=h
  unfold putAt
  by_cases e:p.1=k
  ·rw [if_pos e,if_pos (h1.symm.trans e)];exact ⟨h1,h2,ry⟩
  ·rw [if_neg e,if_neg (fun z=>e (h1.trans z))];exact ⟨h1,h2,h3⟩
theorem KT.put {H:Hp}{kvs:List (List Key×V)}{xs:List (List Key×Addr×Value)}(r:KT H kvs xs) (k:List Key) {b:Addr}{y:V}{u:Value}(hb:H b=some (.tup (k.map kV))) (ry:RelV y u) :
  KT H (putK kvs k y) (storedH xs k b u):=by
 have e:(kvs.any fun kv=>decide (kv.1=k))=(atKey xs k).isSome:=by
  rw [IL,(r.val k).Ll,Option.isSome_map]
 unfold putK storedH
 rw [e]
 by_cases q:(atKey xs k).isSome=true
 ·rw [if_pos q,if_pos q];exact r.YZ k ry
 ·rw [if_neg q,if_neg q];exact Paired.snoc r ⟨rfl,hb,ry⟩
theorem KT.keeps {H H':Hp}{kvs:List (List Key×V)}{xs:List (List Key×Addr×Value)}(r:KT H kvs xs) (ht:∀b ys,H b=some (.tup ys)→H' b=some (.tup ys)):KT H' kvs xs :=
 Paired.Yn r fun _ _ z=>⟨z.1,ht _ _ z.2.1,z.2.2⟩
section
variable {P:Program}{w:World}{H:Hp}{h:Heap}{a:Addr}
theorem Xn {u:HO}(ok:HOk P w H h) (e:Rd H a u):BJ P w H h a u:=e.ok ok
theorem OY {kvs:List (Key×V)}(ok:HOk P w H h) (e:Rd H a (.dK kvs)):kvs.length≤sizeLine/\(a==sysModules)=false/\∃vs,KV kvs vs/\h.DictOf (A5 P w) a vs :=
 show BJ P w H h a (.dK kvs) from Xn ok e
theorem TB {kvs:List (Key×V)}(ok:HOk P w H h) (e:H a=some (.dK kvs)):kvs.length≤sizeLine/\(a==sysModules)=false/\∃vs,KV kvs vs/\h.DictOf (A5 P w) a vs:=OY ok (.inl e)
theorem NV {ks:List Key}(ok:HOk P w H h) (e:H a=some (.tup (ks.map kV))):(tupleKind (A5 P w)).is h ks a:=by
 obtain ⟨_,its,r,o,h1,h2,n,h3⟩:=(show BJ P w H h a (.tup (ks.map kV)) from ok a _ e)
 exact ⟨o,its.toArray,n,h1,h2,h3,by simpa using OS r⟩
theorem OX {kvs:List (List Key×V)}(ok:HOk P w H h) (e:Rd H a (.dT kvs)):kvs.length≤sizeLine/\(a==sysModules)=false /\
  ∃xs,KT H kvs xs/\h.DictOfH (tupleKind (A5 P w)) a xs:=by
 obtain ⟨z,y,xs,r,o,es,ep,h1,h2,h3,h4,h5⟩:=(show BJ P w H h a (.dT kvs) from Xn ok e)
 refine ⟨z,y,xs,r,o,es,ep,h1,h2,h3,h4,fun x hx=>?_,h5⟩
 have all:∀{l:List (List Key×V)} {m:List (List Key×Addr×Value)},KT H l m→∀x∈m,(tupleKind (A5 P w)).is h x.1 x.2.1:=by
  intro l m q
  induction q with
  | nil=>intro x hx;exact nomatch hx
  | @cons p q ps qs hq t ih =>
   intro x hx
   rcases List.mem_cons.mp hx with e|hx
   ·subst e
    exact NV ok (by rw [←hq.1];exact hq.2.1)
   ·exact ih x hx
 exact all r x hx
theorem Xz {kvs:List (List Key×V)}(ok:HOk P w H h) (e:H a=some (.dT kvs)):kvs.length≤sizeLine/\(a==sysModules)=false /\
  ∃xs,KT H kvs xs/\h.DictOfH (tupleKind (A5 P w)) a xs:=OX ok (.inl e)
end
def IJ (H:Hp) (a:Addr) (y:V) (r:Option V):Prop :=
 (∃kvs k,Rd H a (.dK kvs)/\y=kV k/\r=Bc kvs k)\/∃kvs k b,Rd H a (.dT kvs)/\y=.ref b/\H b=some (.tup (k.map kV))/\r=Bc kvs k
def N9 (H:Hp) (a:Addr) (y v:V) (H':Hp):Prop :=
 (∃kvs k,H a=some (.dK kvs)/\y=kV k/\kvs.length<sizeLine/\H'=upd H a (.dK (putK kvs k v))) \/
 ∃kvs k b,H a=some (.dT kvs)/\y=.ref b/\H b=some (.tup (k.map kV))/\kvs.length<sizeLine/\H'=upd H a (.dT (putK kvs k v))
theorem IJ.k {H:Hp}{a:Addr}{kvs:List (Key×V)}{k:Key}(e:H a=some (.dK kvs)):IJ H a (kV k) (Bc kvs k):=.inl ⟨kvs,k,.inl e,rfl,rfl⟩
theorem IJ.t {H:Hp}{a b:Addr}{kvs:List (List Key×V)}{k:List Key}(e:H a=some (.dT kvs)) (eb:H b=some (.tup (k.map kV))):IJ H a (.ref b) (Bc kvs k):=.inr ⟨kvs,k,b,.inl e,rfl,eb,rfl⟩
theorem N9.k {H:Hp}{a:Addr}{kvs:List (Key×V)}{k:Key}{v:V}(e:H a=some (.dK kvs)) (hl:kvs.length<sizeLine):N9 H a (kV k) v (upd H a (.dK (putK kvs k v))):=.inl ⟨kvs,k,e,rfl,hl,rfl⟩
theorem N9.t {H:Hp}{a b:Addr}{kvs:List (List Key×V)}{k:List Key}{v:V}(e:H a=some (.dT kvs)) (eb:H b=some (.tup (k.map kV))) (hl:kvs.length<sizeLine) :
  N9 H a (.ref b) v (upd H a (.dT (putK kvs k v))):=.inr ⟨kvs,k,b,e,rfl,eb,hl,rfl⟩
section
variable {X:Cx}{pins:List (Addr×Obj)}{σ:St}{H:Hp}{s:Shared}{a:Addr}{y v:V}{u r:Value}{o:Option V}{A:Around}{E:Value→Shared→Prop}
theorem Inv.big (I:Inv X pins σ H s):sysModules<s.heap.objs.size:=by
 have h:mainGlobals<s.heap.objs.size:=(I.mod.glob.keeps I.bk).lt
 exact Nat.lt_trans (by decide) h
theorem UD {Q:Value→Shared→Prop}(hu:A.units+1<cLine) (I:Inv X pins σ H s) (g:IJ H a y (some v)) (ry:RelV y u) (h:∀w' s',Inv X pins σ H s'→RelV v w'→Q w' s') :
  wpAny (model X.prog X.w) A (getItem (.ref a) u) Q E s:=by
 rcases g with ⟨kvs,k,e,ey,l⟩|⟨kvs,k,b,e,ey,eb,l⟩
 ·subst ey
  obtain ⟨z,hd,vs,rel,dd⟩:=OY I.hok e
  obtain ⟨w',hw,rw'⟩:=GY.some_of (v:=v) (o:=valueAt vs k) (by rw [l];exact rel.val k)
  exact wpAny_getItem_of (OR ry) dd.mapOf hw (h w' _ (I.tok _) rw')
 ·subst ey
  cases (show u=Value.ref b from ry)
  obtain ⟨z,hd,xs,rel,dd⟩:=OX I.hok e
  obtain ⟨w',hw,rw'⟩:=GY.some_of (v:=v) (o:=(atKey xs k).map (·.2)) (by rw [l];exact rel.val k)
  obtain ⟨p,hp,hp2⟩:=Option.map_eq_some_iff.mp hw
  refine wpAny_getItem_heap (tupleKind_room_in1 hu) (NV I.hok eb) dd hp ?_
  rw [hp2]
  exact h w' _ (I.tok _) rw'
theorem cG {Q:Value→Shared→Prop}(hu:A.units+1<cLine) (I:Inv X pins σ H s) (g:IJ H a y o) (ry:RelV y u) (h:∀s',Inv X pins σ H s'→Q (.bool o.isSome) s') :
  wpAny (model X.prog X.w) A (compareOp .In u (.ref a)) Q E s:=by
 rcases g with ⟨kvs,k,e,ey,l⟩|⟨kvs,k,b,e,ey,eb,l⟩
 ·subst ey
  obtain ⟨z,hd,vs,rel,dd⟩:=OY I.hok e
  refine wpAny_in_of (OR ry) hd dd.mapOf ?_
  rw [←(rel.val k).Ll,←l]
  exact h _ (I.tok _)
 ·subst ey
  cases (show u=Value.ref b from ry)
  obtain ⟨z,hd,xs,rel,dd⟩:=OX I.hok e
  refine wpAny_in_heap (tupleKind_room_in1 hu) (NV I.hok eb) hd dd ?_
  have q:=(rel.val k).Ll
  rw [Option.isSome_map] at q
  rw [←q,←l]
  exact h _ (I.tok _)
theorem Pc {h':Heap}{t':Nat}{ob:HO}(I:Inv X pins σ H s) (mu:Mut (H a)) (hs:Heap.SameBut a s.heap h') (he:∃q,h'.get? a=some q) (new:BJ X.prog X.w (upd H a ob) h' a ob) :
  Inv X pins σ (upd H a ob) { s with heap:=h',toks:=t' } :=
 I.write (x:=a) (e:=a) mu (.inl rfl) (fun b q hb z=>(hs.2 b hb).trans z) he new
theorem Vw {P:Program}{w:World}{H':Hp}{h':Heap}{kvs:List (Key×V)}{vs:List (Key×Value)}(z:kvs.length≤sizeLine) (hd:(a==sysModules)=false) (rel:KV kvs vs) (dd:h'.DictOf (A5 P w) a vs) :
  BJ P w H' h' a (.dK kvs):=⟨z,hd,vs,rel,dd⟩
theorem UC {H':Hp}{Q:Unit→Shared→Prop}(hu:A.units+1<cLine) (I:Inv X pins σ H s) (g:N9 H a y v H') (ry:RelV y u) (rv:RelV v r) (h:∀s',Inv X pins σ H' s'→Q () s') :
  wpAny (model X.prog X.w) A (setItem (.ref a) u r) Q E s:=by
 rcases g with ⟨kvs,k,e,ey,l,eH⟩|⟨kvs,k,b,e,ey,eb,l,eH⟩
 ·subst ey eH
  obtain ⟨z,hd,vs,rel,dd⟩:=TB I.hok e
  have hz:vs.length≤sizeLine:=by rw [←rel.length];exact z
  have hl:(putK kvs k v).length≤sizeLine:=by have:=Ij kvs k v;omega
  refine wpAny_setItem_pairs (hsz:=hz) (OR ry) dd fun h' dd' hs=>h _ ?_
  have he:∃q,h'.get? a=some q:=let ⟨q,_,_,hq,_⟩:=dd';⟨q,hq⟩
  exact Pc I (by rw [e];exact True.intro) hs he (Vw hl hd (rel.put k rv) dd')
 ·subst ey eH
  cases (show u=Value.ref b from ry)
  obtain ⟨z,hd,xs,rel,dd⟩:=Xz I.hok e
  have hz:xs.length≤sizeLine:=by rw [←Paired.length rel];exact z
  have hl:(putK kvs k v).length≤sizeLine:=by have:=Ij kvs k v;omega
  refine wpAny_setItem_heap (hsz:=hz) (tupleKind_room_in1 hu) (NV I.hok eb) dd fun h' dd' hs=>h _ ?_
  obtain ⟨q,es,ep,hq,h2,h3,h4,_,h5⟩:=dd'
  refine Pc I (by rw [e];exact True.intro) hs ⟨q,hq⟩ ⟨hl,hd,_,(rel.put k eb rv).keeps fun c ys ec=>?_,q,es,ep,hq,h2,h3,h4,h5⟩
  rw [AM (Z9 ec e (fun z=>nomatch z))]
  exact ec
end
section
variable {X:Cx}{pins:List (Addr×Obj)}{σ:St}{H:Hp}{s:Shared}{a:Addr}{kvs:List (Key×V)}{k:Key}{u:Value}{A:Around}{E:Value→Shared→Prop}
end
def aZ (i:Expr):Prop:=∀ov iv,subscripted i false ov iv=operate [ov,iv] (getItem ov iv)
theorem WM {prog:Program}{w:World}{A:Around}{E:Value→Shared→Prop}{s:Shared}{env:Env}{value slice:Expr}{pos:Pos}{T id:String}{Q:Value→Shared→Prop}
  (hl:typeLookup (.type T) "__getitem__" = pure (some (.builtin id))) (hs:aZ slice)
  (h:wpAny (model prog w) A (eval value env) (fun o s₁=>wpAny (model prog w) A (eval slice env) (fun i s₂=>s₂.TypeIs o T/\wpAny (model prog w) A (getItem o i) Q E s₂) E s₁) E s) :
  wpAny (model prog w) A (eval (.Subscript value slice pos) env) Q E s:=by
 refine Subscript_ (wpAny_mono h (fun o s₁ h₁=>wpAny_mono h₁ (fun i s₂ h₂=>?_) fun _ _ x=>x) fun _ _ x=>x)
 obtain ⟨hT,h₂⟩:=h₂
 unfold subscriptTail
 refine wpAny_bind ?_
 rw [getitemInPython_of_ne hT.not_modules]
 refine wpAny_bind (wpAny_specialOf hT hl ?_)
 have fin:wpAny (model prog w) A (subscripted slice false o i) (fun r s₃=>wpAny (model prog w) A (letTemporaryGo value o r >>= fun _=>pure r) Q E s₃) E s₂:=by
  rw [hs o i]
  exact wpAny_operating (wpAny_mono h₂ (fun r s₃ h₃=>wpAny_bind (wpAny_letTemporaryGo (wpAny_pure h₃))) fun _ _ x=>x)
 first
  | exact wpAny_pure (wpAny_bind fin)
  | exact wpAny_bind (wpAny_pure (wpAny_bind fin))
  | exact wpAny_bind fin
theorem Qt {X:Cx}{pins:List (Addr×Obj)}{σ:St}{H:Hp}{s:Shared}{a:Addr}{y:V}{o:Option V}(I:Inv X pins σ H s) (g:IJ H a y o):s.TypeIs (.ref a) "dict" := by
 rcases g with ⟨kvs,k,e,_,_⟩|⟨kvs,k,b,e,_,_,_⟩
 ·obtain ⟨_,_,vs,_,dd⟩:=OY I.hok e
  exact dd.typeIs
 ·obtain ⟨_,_,xs,_,dd⟩:=OX I.hok e
  exact dd.typeIs
def ZW (td ty:TE):TE:=fun σ H Q=>td σ H fun x H1=>ty σ H1 fun y H2=>∃a v,x=.ref a/\IJ H2 a y (some v)/\Q v H2
def Zq (td ty tv:TE):TS:=fun D σ H=>tv σ H fun v H1=>td σ H1 fun x H2=>ty σ H2 fun y H3=>∃a H4,x=.ref a/\N9 H3 a y v H4/\D.nx σ H4
section
variable {X:Cx}{o i e value:Expr}{pos pos' tpos:Pos}{td ty tv:TE}
theorem JL (hu:X.A.units+1<cLine) (ho:PE X o td) (hi:PE X i ty) (hs:aZ i):PE X (.Subscript o i pos) (ZW td ty):=by
 intro pins s σ H Q I h
 refine WM PySem.F.slot_dict_getitem.lookup hs (thn (ho pins s σ H _ I h) fun u s1 ⟨x,H1,I1,rx,q1⟩=>thn (hi pins s1 σ H1 _ I1 q1) fun iv s2 ⟨y,H2,I2,ry,a,v,ex,g,q2⟩=>?_)
 subst ex
 obtain rfl:u=Value.ref a:=rx
 exact ⟨Qt I2 g,UD hu I2 g ry fun w' s3 I3 rw'=>⟨v,H2,I3,rw',q2⟩⟩
theorem Ml (hu:X.A.units+1<cLine) (ho:PE X o td) (hi:PE X i ty) (hv:PE X value tv) (hs:swapsWith value (some (.Subscript o i pos')) pos.line X.env=pure false) :
  PS X (.Assign [.Subscript o i pos'] value pos) (Zq td ty tv):=by
 intro pins s σ H D I h
 refine wpAny_Assign_Subscript (thn (hv pins s σ H _ I h) fun r s1 ⟨v,H1,I1,rv,q1⟩=>thn (ho pins s1 σ H1 _ I1 q1) fun u s2 ⟨x,H2,I2,rx,q2⟩=>thn (hi pins s2 σ H2 _ I2 q2) fun iv s3 ⟨y,H3,I3,ry,a,H4,ex,g,q3⟩=>?_) hs
 subst ex
 obtain rfl:u=Value.ref a:=rx
 exact UC hu I3 g ry rv fun s4 I4=>⟨σ,H4,I4,q3⟩
end
theorem Vx {P:Program} {w:World} {H:Hp} (h:Heap) (hb:sysModules<h.objs.size):BJ P w H (h.push { cls:=.type "dict", data:=.dict #[] }) h.objs.size (.dK []) :=
 ⟨Nat.zero_le _,beq_eq_false_iff_ne.mpr (Ne.symm (Nat.ne_of_lt hb)),[],.nil,Heap.DictOf.new h⟩
theorem Vv {P:Program} {w:World} {H:Hp} (h:Heap) (hb:sysModules<h.objs.size):BJ P w H (h.push { cls:=.type "dict", data:=.dict #[] }) h.objs.size (.dT []) :=
 ⟨Nat.zero_le _,beq_eq_false_iff_ne.mpr (Ne.symm (Nat.ne_of_lt hb)),[],.nil,_,#[],0,Heap.get?_push_size _ rfl,⟨rfl,rfl,rfl⟩,rfl,rfl,List.nodup_nil⟩
def YF:TE:=fun _ H Q=>∀p,H p=none→Q (.ref p) (upd H p (.dK []))
def YE:TE:=fun _ H Q=>∀p,H p=none→Q (.ref p) (upd H p (.dT []))
section
variable {X:Cx}{pos:Pos}
theorem Kr:PE X (.Dict [] [] pos) YF:=fun pins s σ H Q I h =>
 wpAny_Dict_empty ⟨.ref s.heap.objs.size,_,I.laid (a:=s.heap.objs.size) (o:=.dK []) (t':=s.toks) (fun _ _ q=>Heap.get?_push_of_some _ q) (Nat.le_refl _) (Vx s.heap I.big),rfl,h _ (I.hok.fresh (Nat.le_refl _))⟩
theorem U5:PE X (.Dict [] [] pos) YE:=fun pins s σ H Q I h =>
 wpAny_Dict_empty ⟨.ref s.heap.objs.size,_,I.laid (a:=s.heap.objs.size) (o:=.dT []) (t':=s.toks) (fun _ _ q=>Heap.get?_push_of_some _ q) (Nat.le_refl _) (Vv s.heap I.big),rfl,h _ (I.hok.fresh (Nat.le_refl _))⟩
end
structure M2 (X:Cx) (o:Expr) (m:Str) (apos:Pos) (e f:Expr) (cpos:Pos):Prop where
 base:attributeBase o m X.env (eval o X.env)=eval o X.env
 few:((backTo cpos (starEach [e,f] X.env)).all (fun x=>!x.1)&&(backToKw cpos (keywordEach [] X.env)).all (fun x=>x.1.isSome)
  && decide (([e,f]:List Expr).length+([]:List Keyword).length+(if ([]:List Keyword).isEmpty then 0 else 1)<30))=true
 line:(apos.endLine==cpos.line)=true
 trees:backTo cpos (starEach [e,f] X.env)=[(false,eval e X.env),(false,eval f X.env)]
def IsD (H:Hp) (a:Addr):Prop:=(∃kvs,Rd H a (.dK kvs))\/∃kvs,Rd H a (.dT kvs)
theorem Vj {X:Cx}{pins:List (Addr×Obj)}{σ:St}{H:Hp}{s:Shared}{a:Addr}(I:Inv X pins σ H s) (d:IsD H a) :
  s.TypeIs (.ref a) "dict" /\ (∀b,Value.ref a=.ref b→∃ob,s.heap.get? b=some ob/\ob.dict=none)/\(a==sysModules)=false:=by
 rcases d with ⟨kvs,e⟩|⟨kvs,e⟩
 ·obtain ⟨_,hd,vs,_,dd⟩:=OY I.hok e
  refine ⟨dd.typeIs,fun b q=>?_,hd⟩
  cases q
  obtain ⟨ob,_,_,h1,h2,_⟩:=dd
  exact ⟨ob,h1,h2.2.1⟩
 ·obtain ⟨_,hd,xs,_,dd⟩:=OX I.hok e
  refine ⟨dd.typeIs,fun b q=>?_,hd⟩
  cases q
  obtain ⟨ob,_,_,h1,h2,_⟩:=dd
  exact ⟨ob,h1,h2.2.1⟩
section
variable {X:Cx}{pins:List (Addr×Obj)}{σ:St}{H:Hp}{s:Shared}{a:Addr}{y d:V}{u r:Value}{o:Option V}{A:Around}{E:Value→Shared→Prop}
theorem Y5 {Q:Value→Shared→Prop}(hu:A.units+1<cLine) (I:Inv X pins σ H s) (g:IJ H a y o) (ry:RelV y u) (rd:RelV d r) (h:∀w' s',Inv X pins σ H s'→RelV (o.getD d) w'→Q w' s') :
  wpAny (model X.prog X.w) A (call (.builtin "dict.get") [.ref a,u,r]) Q E s:=by
 rcases g with ⟨kvs,k,e,ey,l⟩|⟨kvs,k,b,e,ey,eb,l⟩
 ·subst ey
  obtain ⟨z,hd,vs,rel,dd⟩:=OY I.hok e
  refine call_meetsIn PySem.F.slot_dict_get dd.typeIs PySem.F.entry_dict_get (PySem.F.args_dict_get_3 _ _ _) (meets_dict_get_default (A5 X.prog X.w) a (OR ry) hd r) ⟨_,dd.mapOf,h _ _ (I.tok _) ?_⟩
  rw [l]
  exact (rel.val k).getD rd
 ·subst ey
  cases (show u=Value.ref b from ry)
  obtain ⟨z,hd,xs,rel,dd⟩:=OX I.hok e
  refine call_meetsIn PySem.F.slot_dict_get dd.typeIs PySem.F.entry_dict_get (PySem.F.args_dict_get_3 _ _ _) (meetsH_dict_get_default (tupleKind (A5 X.prog X.w)) a b hd r) ⟨tupleKind_room_in1 hu,k,xs,NV I.hok eb,dd,h _ _ (I.tok _) ?_⟩
  rw [l]
  exact (rel.val k).getD rd
end
def YG (td ty tx:TE):TE:=fun σ H Q=>td σ H fun x H1=>∃a,x=.ref a/\IsD H1 a/\ty σ H1 fun y H2=>tx σ H2 fun z H3=>∃o,IJ H3 a y o/\Q (o.getD z) H3
section
variable {X:Cx}{o e f:Expr}{apos cpos:Pos}{td ty tx:TE}
theorem U6 (hu:X.A.units+1<cLine) (ho:PE X o td) (he:PE X e ty) (hf:PE X f tx) (m:M2 X o "get" apos e f cpos):PE X (.Call (.Attribute o "get" apos) [e,f] [] cpos) (YG td ty tx):=by
 intro pins s σ H Q I h
 refine wpAny_Call_method m.base m.few m.line PySem.F.plainAttrs_dict PySem.F.slot_dict_get PySem.F.type_dict_get (thn (ho pins s σ H _ I h) fun u s1 ⟨x,H1,I1,rx,a,ex,d,q1⟩=>?_)
 subst ex
 obtain rfl:u=Value.ref a:=rx
 obtain ⟨t1,t2,_⟩:=Vj I1 d
 refine ⟨t1,t2,?_⟩
 rw [m.trees]
 refine Calls.callWith_builtin rfl (Calls.evalArgs_plain (Calls.spliced_cons (thn (he pins s1 σ H1 _ I1 q1) fun iv s2 ⟨y,H2,I2,ry,q2⟩ =>
  Calls.spliced_cons (thn (hf pins s2 σ H2 _ I2 q2) fun fv s3 ⟨z,H3,I3,rz,ov,g,q3⟩=>Calls.spliced_nil ?_))))
 exact Y5 hu I3 g ry rz fun w' s4 I4 rw'=>⟨_,H3,I4,rw',q3⟩
end
section
variable {X:Cx}{pins:List (Addr×Obj)}{σ:St}{H:Hp}{s:Shared}{a:Addr}{kvs:List (Key×V)}{A:Around}{E:Value→Shared→Prop}
end
section
variable {X:Cx}{pins:List (Addr×Obj)}{σ:St}{H:Hp}{s:Shared}{a:Addr}{y:V}{u:Value}{A:Around}{E:Value→Shared→Prop}
end
end L2
namespace Att
open PySem PySem.W PySem.Calls PyProof.Rows
theorem Mc {P:Params}{h:Heap}:∀(ns:List Int) (vs:List Value),WellAll P h vs (ns.map WData.int)→IntsAre vs ns:=by
 intro ns
 induction ns with
 | nil =>
  intro vs w
  rw [List.map_nil] at w
  cases w
  exact .nil
 | cons n ns ih =>
  intro vs w
  rw [List.map_cons] at w
  cases w with
  | cons a b =>
   cases a
   exact .cons _ _ (ih _ b)
theorem TZ {l:OpenLaw}{n:Nat}(hn:l.most=some n) {P:Params}{h:Heap}{args:List WData}{vals:List Value}
  (hpre:l.row.toRowW.claim.pre args=true) (hwl:WellAll P h vals args) :
  ∃a vs ns,vals=[Value.ref a]/\args=[WData.list (ns.map WData.int)]/\h.get? a=some { cls:=.type "list", data:=.seq vs.toArray }/\IntsAre vs ns/\ns.length≤n:=by
 have hsh:WShape.hasAll [] args [.list .int]=true:=(pre_splitW hpre).1
 have hc:l.pre.holds [] { args:=args }=true:=(pre_splitW hpre).2
 obtain ⟨d,r,rfl,h1,h2⟩:=hasAllW_cons hsh
 obtain rfl:=hasAllW_nil h2
 obtain ⟨xs,rfl,h3⟩:=hasW_list h1
 obtain ⟨ns,rfl⟩:=items_int h3
 have hlen:ns.length≤n:=by
  unfold OpenLaw.pre at hc
  have h4:(WTm.not (.lt (.lit (.int (n:Int))) (.len (.arg 0)))).holds [] { args:=[.list (ns.map .int)] }=true:=by
   have h4:=(holds_andW hc).1
   rw [hn] at h4
   exact h4
  have h5:=condW_of h4 (w_not (w_lt w_lit (w_len_list (w_arg rfl))))
  rw [List.length_map] at h5
  refine Nat.le_of_not_lt fun q=>?_
  have q':(n:Int)<((ns.length:Nat):Int):=by omega
  first
   | (rw [decide_eq_true q'] at h5;exact absurd h5 (by decide))
   | (simp at h5;omega)
 cases hwl with
 | cons w1 w2 =>
  cases w2
  cases w1 with
  | list ho hall=>exact ⟨_,_,ns,rfl,rfl,ho,Mc ns _ hall,hlen⟩
theorem Td (l:OpenLaw) (args:List WData):l.row.toRowW.claim.post args (.bool true) args=true :=
 postW_of (r:=l.row.toRowW) (X:=(true==true))
  (show WShape.has [] (.bool true) .bool=true by first|rfl|decide|simp [WShape.has,WShape.arms,WShape.armsAll])
  (show (WTm.eq .res (.lit (.bool true))).value [] { args:=args,res:=some (.bool true),after:=args }=some (.bool (true==true)) from w_eq_bool (w_res rfl) w_lit) rfl
theorem Q5 {l:OpenLaw}{n:Nat}{q:Program}{loose:List Str}{XP:(Str→Option Value)→Heap→Prop}{YP:World→Heap→Prop}{d:DefRec}
  (hn:l.most=some n) (hdf:d.params.defaults=[])
  (call:∀(w:World) (s₀ s₁:Shared) (mg mb:Str→Option Value) (fa:Addr) (o:Obj) (pm cd doc:Value) (a:Addr) (vs:List Value) (ns:List Int),
   Ground q loose [] XP w s₀ mg mb s₁.heap→YP w s₁.heap →
   s₁.heap.get? fa=some o→o.data=.func (docDef d.name d.params d.body d.scope pm cd doc)→s₁.heap.CodeRec cd d.name→mg d.name=some (.ref fa) →
   s₁.heap.get? a=some { cls:=.type "list", data:=.seq vs.toArray }→IntsAre vs ns→ns.length≤n→s₁.gens=#[] →
   codeAny (model l.prog w) callerA (.call (.ref fa) ⟨[.ref a],[]⟩) (fun r s'=>r=.ok (.ret (.bool true))/\OldK s₁.heap s'.heap/\s'.os=s₁.os/\AllBare s'.gens) s₁) :
  WalkO q loose XP YP l.row.toRowW d [] (fun f vs=>PySem.call f vs):=by
 intro w s₀ s₁ mg mb G Y fa o pm cd doc dV kV ho hd hcd hD hmg hg args vals as hpre hlay hrd hwl hlo
 obtain rfl:dV=.none:=Dflts.none hD hdf
 obtain rfl:kV=.none:=Dflts.noKw hD
 obtain ⟨a,vs,ns,rfl,rfl,hobj,hints,hlen⟩:=TZ hn hpre hwl
 refine enter_call (codeAny_mono (call w s₀ s₁ mg mb fa o pm cd doc a vs ns G Y ho (fd_plain hd) hcd hmg hobj hints hlen hg) fun r s' hq=>?_)
 obtain ⟨rfl,h2,h3,h4⟩:=hq
 exact ⟨.inl ⟨.bool true,.bool true,[],rfl,fun _=>rfl,.bool true,Td l _,fun _=>⟨List.Pairwise.nil,fun _ hm=>(nomatch hm)⟩⟩,h2,h3,h4⟩
section
variable {prog:Program}{w:World}{A:Around}{E:Value→Shared→Prop}{s:Shared}{K:Frag}
end
end Att
namespace L2
open PySem PySem.Spec PyProof.Rows
theorem OB:∀{vs:List Value}{ns:List Int},IntsAre vs ns→Vals (ns.map V.int) vs
 | _,_,.nil=>.nil
 | _,_,.cons n t h=>.cons ⟨t,rfl⟩ (OB h)
def WB (H:Hp):Prop:=∀b,H b=none\/∃o xs,H b=some (.frz o (.lst xs))
theorem Ve {P:Program}{w:World}{K:PySem.W.Frag}{mg mb:Str→Option Value}{CX:CXT}{k:Nat}{fa a:Addr}{fd:FuncData}{x:Str}{sp:Sp}{s₁:Shared}{vs:List Value}{ns:List Int}
  (KX:K.In s₁.heap) (hns:s₁.heap.Ns mainGlobals mg) (hb:s₁.heap.Ns builtinsNs mb) (hbb:∀x:Str,x ≠ "__name__" → mb x=bootBuiltins x) (hlim:s₁.heap.NoLimit) (hg:s₁.gens=#[])
  (ha:s₁.heap.get? a=some { cls:=.type "list", data:=.seq vs.toArray }) (hi:IntsAre vs ns) (hl:ns.length≤sizeLine) (hr:Co k callerA)
  (F:∀base:Heap,K.In base→base.Ns mainGlobals mg→Ao P w K mg base CX k fa fd [x] sp) (hbind:∀(s:Shared) (u:Value),BindsTo s fd ⟨[u],[]⟩ [(x,u)])
  (hsp:∀H:Hp,WB H→SqL K H a (ns.map V.int)→sp [.ref a] H (fun v _=>v=.bl true) fun _ _ _=>False)
  (hCX:∀H e s',CX [] H s₁ (fun _ _ _=>False) e s'→False) :
  codeAny (model P w) callerA (.call (.ref fa) ⟨[.ref a],[]⟩) (fun r s'=>r=.ok (.ret (.bool true))/\OldK s₁.heap s'.heap/\s'.os=s₁.os/\AllBare s'.gens) s₁:=by
 have rv:=OB hi
 have lenV:=hi.length
 have core:∀H:Hp,WB H→SqL K H a (ns.map V.int)→HOk P w H s₁.heap→(∀b,H b≠none→b=a)→(H a≠none→K.lookup a=none) →
   codeAny (model P w) callerA (.call (.ref fa) ⟨[.ref a],[]⟩) (fun r s'=>r=.ok (.ret (.bool true))/\OldK s₁.heap s'.heap/\s'.os=s₁.os/\AllBare s'.gens) s₁:=by
  intro H hO hS hok hA hK
  have base_of:∀{b:Addr} {o:Obj},s₁.heap.get? b=some o→H b=none→(PX s₁.heap H).get? b=some o:=fun e n=>Vl e n
  have noA:∀{b:Addr} {o:Obj} {es:Array DictEntry} {ep:Nat},s₁.heap.get? b=some o→o.data=.dict es ep→H b=none:=fun {b o es ep} e d=>by
   cases q:H b with
   | none=>rfl
   | some u =>
    have e':b=a:=hA b (by rw [q];simp)
    subst e'
    rw [ha] at e;cases e
    have d':Data.seq vs.toArray _=Data.dict es ep:=d
    cases d'
  have nsK:∀{b:Addr} {m:Str→Option Value},s₁.heap.Ns b m→(PX s₁.heap H).Ns b m:=fun {b m} ⟨o,es,ep,e,d,r⟩=>⟨o,es,ep,base_of e (noA e d),d,r⟩
  have hKb:K.In (PX s₁.heap H):=fun b o e=>base_of (KX b o e) (by
   cases q:H b with
   | none=>rfl
   | some u =>
    have e':b=a:=hA b (by rw [q];simp)
    subst e'
    rw [hK (by rw [q];simp)] at e;cases e)
  have hM:Mod K mg (PX s₁.heap H):=⟨hKb,nsK hns,⟨mb,nsK hb,hbb⟩,let ⟨mc,h1,h2⟩:=hlim;⟨mc,nsK h1,h2⟩⟩
  have e0:Q6 P w K mg (PX s₁.heap H) callerA [] s₁ H:=⟨rfl,hM,fun b o e=>W3 e,Nat.le_of_eq (UA _ _),trivial,fun b hb=>absurd (show b∈([]:List Addr) from hb) (by simp),hok,.of_eq hg⟩
  refine codeAny_mono ((F _ hKb (nsK hns)).run callerA [] s₁ H ⟨[.ref a],[]⟩ [.ref a] [.ref a] _ _ hr e0 (hbind s₁ (.ref a)) (.cons rfl .nil) (hsp H hO hS)) fun r s' h=>?_
  cases r with
  | error e=>exact (hCX H e s' h).elim
  | ok fl =>
   cases fl with
   | next=>exact False.elim h
   | brk=>exact False.elim h
   | cont=>exact False.elim h
   | ret u =>
    obtain ⟨v,H',os,bare,un,hok',r',q⟩:=h
    have q':v=.bl true:=q
    subst q'
    obtain rfl:u=Value.bool true:=r'
    refine ⟨rfl,OldK.of_keep fun b o e=>?_,os,bare⟩
    cases q:H b with
    | none=>exact un.keep b o e q (by intro z;exact absurd (show b∈([]:List Addr) from z) (by simp)) (by simp)
    | some u =>
     rcases hO b with z|⟨ob,xs,z⟩
     ·rw [q] at z;cases z
     ·have z2:=un.KI b ob _ z
      obtain ⟨e1,_⟩:=hok b _ z
      obtain ⟨e2,_⟩:=hok' b _ z2
      rw [e] at e1;cases e1
      exact e2
 cases hk:K.lookup a with
 | some o =>
  have e:=KX a o hk
  rw [ha] at e
  cases e
  refine core (fun _=>none) (fun _=>.inl rfl) (.inr ⟨_,vs.toArray,_,hk,rfl,rfl,rfl,by rw [List.size_toArray,lenV];exact hl,by simpa using rv⟩) (fun b u z=>by have z':(none:Option HO)=some u:=z;cases z') (fun b z=>absurd rfl z) fun z=>absurd rfl z
 | none =>
  refine core (fun b=>if b=a then some (.frz { cls:=.type "list", data:=.seq vs.toArray } (.lst (ns.map V.int))) else none) (fun b=>?_) (.inl (.inr ⟨{ cls:=.type "list", data:=.seq vs.toArray },if_pos rfl⟩)) (fun b u z=>?_) (fun b z=>?_) fun _=>hk
  ·by_cases hb:b=a
   ·exact .inr ⟨_,_,if_pos hb⟩
   ·exact .inl (if_neg hb)
  ·by_cases hb:b=a
   ·have z':=(if_pos hb).symm.trans z
    cases z'
    subst hb
    exact ⟨ha,by rw [List.length_map];exact hl,vs,_,rv,ha⟩
   ·have z':=(if_neg hb).symm.trans z
    cases z'
  ·by_cases hb:b=a
   ·exact hb
   ·exact absurd (if_neg hb) z
end L2
namespace L2
open PySem PySem.Spec PyProof.Rows
theorem WJ {l:PySem.W.OpenLaw}{n k:Nat}{q:Program}{loose:List Str}{XP:(Str→Option Value)→Heap→Prop}{YP:World→Heap→Prop}{d:DefRec}{K:Params→PySem.W.Frag}{CX:World→CXT}{sp:World→Sp}{x:Str}
  (hn:l.most=some n) (hn2:n≤sizeLine) (hdf:d.params.defaults=[]) (hr:Co k callerA)
  (hY:∀(w:World) (h:Heap),YP w h→(K w.params).In h)
  (F:∀(w:World) (mg:Str→Option Value) (fa:Addr) (h:Heap),(K w.params).In h→h.Ns mainGlobals mg→mg d.name=some (.ref fa) →
   ∃fd:FuncData,(∀(s:Shared) (u:Value),BindsTo s fd ⟨[u],[]⟩ [(x,u)]) /\
    ∀base:Heap,(K w.params).In base→base.Ns mainGlobals mg→Ao l.prog w (K w.params) mg base (CX w) k fa fd [x] (sp w))
  (hsp:∀(w:World) (H:Hp) (a:Addr) (ns:List Int),ns.length≤n→WB H→SqL (K w.params) H a (ns.map V.int)→sp w [.ref a] H (fun v _=>v=.bl true) fun _ _ _=>False)
  (hCX:∀(w:World) (H:Hp) (s:Shared) (e:Value) (s':Shared),CX w [] H s (fun _ _ _=>False) e s'→False) :
  PySem.W.WalkO q loose XP YP l.row.toRowW d [] (fun f vs=>PySem.call f vs):=by
 refine Att.Q5 hn hdf fun w s₀ s₁ mg mb fa o pm cd doc a vs ns G Y ho hd hcd hmg hobj hints hlen hg=>?_
 have KX:=hY w _ Y
 obtain ⟨fd,hb,hF⟩:=F w mg fa _ KX G.T.g hmg
 exact Ve KX G.T.g G.T.b G.T.builtins G.T.nolimit hg hobj hints (Nat.le_trans hlen hn2) hr hF hb (fun H hO hS=>hsp w H a ns hlen hO hS) fun H e s'=>hCX w H s₁ e s'
theorem UW {l:PySem.W.OpenLaw}{n k:Nat}{q:Program}{loose:List Str}{XP:(Str→Option Value)→Heap→Prop}{YP:World→Heap→Prop}{d:DefRec}{K:Params→PySem.W.Frag}{CX:CXT}{sp:PySem.W.Frag→Sp}{x:Str}
  (hn:l.most=some n) (hn2:n≤sizeLine) (hdf:d.params.defaults=[]) (hr:Co k callerA)
  (hY:∀(w:World) (h:Heap),YP w h→(K w.params).In h)
  (F:∀(w:World) (mg:Str→Option Value) (fa:Addr) (h:Heap),(K w.params).In h→h.Ns mainGlobals mg→mg d.name=some (.ref fa) →
   ∃fd:FuncData,(∀(s:Shared) (u:Value),BindsTo s fd ⟨[u],[]⟩ [(x,u)]) /\
    ∀base:Heap,(K w.params).In base→base.Ns mainGlobals mg→Ao l.prog w (K w.params) mg base CX k fa fd [x] (sp (K w.params)))
  (hsp:∀(K:PySem.W.Frag) (H:Hp) (a:Addr) (ns:List Int),ns.length≤n→WB H→SqL K H a (ns.map V.int)→sp K [.ref a] H (fun v _=>v=.bl true) fun _ _ _=>False)
  (hCX:∀(H:Hp) (s:Shared) (e:Value) (s':Shared),CX [] H s (fun _ _ _=>False) e s'→False) :
  PySem.W.WalkO q loose XP YP l.row.toRowW d [] (fun f vs=>PySem.call f vs) :=
 WJ (K:=K) (CX:=fun _=>CX) (sp:=fun w=>sp (K w.params)) hn hn2 hdf hr hY F (fun w H a ns h1 h2 h3=>hsp (K w.params) H a ns h1 h2 h3) fun _ H s e s'=>hCX H s e s'
end L2
namespace L2
open PySem PySem.Spec PyProof.Rows
def inClass (s:Stmt) (j:Nat):Stmt:=match s with
 | .ClassDef _ _ _ body _ _ _ _ _ _ _=>body.getD j (.Pass ⟨0,0,0,0⟩)
 | _=>.Pass ⟨0,0,0,0⟩
def Mq (s:Stmt):Arguments:=match s with
 | .FunctionDef _ a _ _ _ _ _ _ _ _=>a
 | _=>{ posonlyargs:=[],args:=[],vararg:=none,kwonlyargs:=[],kw_defaults:=[],kwarg:=none,defaults:=[] }
def Ho (s:Stmt):List Stmt:=match s with
 | .FunctionDef _ _ b _ _ _ _ _ _ _=>b
 | _=>[]
def AH (s:Stmt):Scope:=match s with
 | .FunctionDef _ _ _ _ _ _ sc _ _ _=>sc
 | _=>{ kind:=.function,names:=[],isGenerator:=false,isCoroutine:=false }
abbrev CX0:CXT:=fun _ _ _ _ _ _=>False
abbrev E0:XK:=fun _ _ _=>False
theorem Ic {X:Cx}:Passes CX0 X E0:=fun _ _ _ _ _ _ _ h=>h.elim
structure Fun (K:PySem.W.Frag) (x qual:Str) (st:Stmt) (f:Addr) (fd:FuncData):Prop where
 ex:∃(oc:Value) (od:Option Addr) (kV doc pm:Value) (an:Option Addr) (cdv ct:Value) (osl:Array (Option Value)),
  fd=PySem.W.fnOf x qual (Mq st) (Ho st) (AH st) .none kV doc pm an cdv ct/\K.lookup f=some ⟨oc,od,.func fd,osl⟩/\PySem.W.codeIn K cdv qual=true
 kp:PySem.W.keepIn K (.ref f)=true
section
variable {P:Program}{w:World}{K:PySem.W.Frag}{mg:Str→Option Value}{base:Heap}
theorem Fun.ok {x qual:Str}{st:Stmt}{f:Addr}{fd:FuncData}{N ps:List Str}{k:Nat}{sp:Sp}(F:Fun K x qual st f fd) (S:AR N ps (AH st)) (len:∀vs H Q E,sp vs H Q E→vs.length=ps.length)
  (hbody:∀(cdv:Value) (A:Around) (outer:List Env) (s:Shared) (H:Hp) (vs:List V) (Q:VK) (E:XK),Co k (A.deeper (envOfC qual (AH st) s.heap.objs.size f cdv))→sp vs H Q E →
   ∃t,PSs (Di CX0 P w K mg base N qual (AH st) f cdv A outer s H E).nox (Ho st) t/\t { nx:=fun _ H'=>Q .non H',rt:=Q } (start N vs) H):Ao P w K mg base CX0 (k+1) f fd ps sp:=by
 obtain ⟨oc,od,kV,doc,pm,an,cdv,ct,osl,rfl,lk,hcd⟩:=F.ex
 refine Xx lk hcd S len fun A outer s H vs Q E hr hsp=>?_
 obtain ⟨t,h,q⟩:=hbody cdv A outer s H vs Q E hr hsp
 exact ⟨t,h.nox,q⟩
theorem Fun.binds {x qual:Str}{st:Stmt}{f:Addr}{fd:FuncData}{ps:List Str}(F:Fun K x qual st f fd)
  (h:∀(kV doc pm:Value) (an:Option Addr) (cdv ct:Value) (us:List Value),us.length=ps.length→bindArgs (PySem.W.fnOf x qual (Mq st) (Ho st) (AH st) .none kV doc pm an cdv ct) ⟨us,[]⟩=pure (ps.zip us)):Binds K fd ps []:=by
 obtain ⟨oc,od,kV,doc,pm,an,cdv,ct,osl,rfl,lk,hcd⟩:=F.ex
 exact .all (h kV doc pm an cdv ct)
theorem Y1 {x qual:Str}{st:Stmt}{f:Addr}{oc:Value}{od an:Option Addr}{osl:Array (Option Value)}{kV doc pm cdv ct:Value}(l:K.lookup f=some ⟨oc,od,.func (PySem.W.fnOf x qual (Mq st) (Ho st) (AH st) .none kV doc pm an cdv ct),osl⟩)
  (c:PySem.W.codeIn K cdv qual=true) (k:PySem.W.keepIn K (.ref f)=true):Fun K x qual st f (PySem.W.fnOf x qual (Mq st) (Ho st) (AH st) .none kV doc pm an cdv ct):=⟨⟨oc,od,kV,doc,pm,an,cdv,ct,osl,rfl,l,c⟩,k⟩
end
section
variable {X:Cx}
end
section
variable {X:Cx}
end
theorem DJ {A B:Prop}(h:B):if false=true then A else B:=by
 rw [if_neg Bool.false_ne_true]
 exact h
theorem Ek {A B:Prop}(h:A):if true=true then A else B:=by
 rw [if_pos rfl]
 exact h
def AO (H H':Hp):Prop:=∀b o,H b=some o→H' b=some o
theorem AO.refl (H:Hp):AO H H:=fun _ _ h=>h
theorem AO.trans {H H1 H2:Hp}(a:AO H H1) (b:AO H1 H2):AO H H2:=fun c o h=>b c o (a c o h)
theorem AO.free {H H':Hp}(e:AO H H') {l:Addr}(h:H' l=Option.none):H l=Option.none:=by
 cases q:H l with
 | none=>rfl
 | some o =>
  rw [e l o q] at h
  cases h
theorem AO.seq {K:PySem.W.Frag}{H H':Hp}{a:Addr}{xs:List V}(e:AO H H') (h:SqL K H a xs):SqL K H' a xs:=by
 rcases h with (h|⟨o,h⟩)|h
 ·exact .inl (.inl (e _ _ h))
 ·exact .inl (.inr ⟨o,e _ _ h⟩)
 ·exact .inr h
section
variable {κ:Type}[DecidableEq κ]
theorem Pu {kvs:List (κ×V)}{k:κ}(h:Bc kvs k=none):¬ k∈kvs.map (·.1):=by
 intro m
 obtain ⟨p,hp,e⟩:=List.mem_map.mp m
 have q:(kvs.any fun kv=>decide (kv.1=k))=true:=List.any_eq_true.mpr ⟨p,hp,decide_eq_true e⟩
 rw [IL,h] at q
 exact absurd q (by simp)
theorem Sq:∀{l:List κ}{k:κ},l.Nodup→¬ k∈l→(l++[k]).Nodup
 | [],k,_,_=>by simp
 | a::r,k,h,hk=>by
  obtain ⟨h1,h2⟩:=List.nodup_cons.mp h
  show (a::(r++[k])).Nodup
  refine List.nodup_cons.mpr ⟨fun m=>?_,Sq h2 fun m=>hk (List.mem_cons.mpr (Or.inr m))⟩
  rcases List.mem_append.mp m with q|q
  ·exact h1 q
  ·exact hk (List.mem_cons.mpr (Or.inl (List.mem_singleton.mp q).symm))
end
end L2
namespace L2
open PySem PySem.Spec PyProof.Rows
theorem HOk.UZ {P:Program}{w:World}{H:Hp}{h:Heap}{a:Addr}{o:HO}(x:HOk P w H h) (hn:H a=none) (new:BJ P w (upd H a o) h a o):HOk P w (upd H a o) h:=by
 intro b u e
 by_cases hb:b=a
 ·subst hb
  rw [AG] at e
  grind
 ·rw [AM hb] at e
  refine (x b u e).KU (by grind) (fun c q=>?_) fun c xs q=>?_
  ·rw [AM (by grind)];exact q
  ·rw [AM (by grind)];exact q
def Er (env:Env) (cs:List (Str×Addr)) (x:Str×NameKind):List (Str×Addr):=if x.2=.free then (x.1,(env.cells.lookup x.1).getD 0)::cs else cs
def Ln (env:Env) (names:List (Str×NameKind)):List (Str×Addr):=names.foldl (Er env) []
theorem Nd {α β:Type}{f:α→β→Sem (ForInStep β)}{g:β→α→β}:∀(l:List α) (acc:β),(∀x∈l,∀c,f x c=pure (.yield (g c x)))→forIn l acc f=pure (l.foldl g acc)
 | [],acc,_=>rfl
 | x::l,acc,h=>by
  rw [List.forIn_cons,h x List.mem_cons_self _]
  show forIn l _ f=_
  rw [Nd l _ fun y hy=>h y (by grind)]
  rfl
theorem N4 {scope:Scope}{env:Env}(h:∀y∈scope.names,y.2=.free→∃c,env.cells.lookup y.1=some c):closureFor scope env=pure (Ln env scope.names):=by
 simp only [closureFor]
 rw [Nd (g:=Er env) _ [] fun x hx c=>by
  obtain ⟨n,kind⟩:=x
  by_cases hk:kind=.free
  ·subst hk
   obtain ⟨a,ha⟩:=h _ hx rfl
   have ha'  := ha
   simp only [beq_self_eq_true,if_true,Er,cellOf,ha',Option.getD_some]
   rfl
  ·have hb:(kind==NameKind.free)=false:=by grind
   simp only [hb,Bool.false_eq_true,if_false,Er,hk]]
 rfl
theorem Ob {env:Env}{y:Str}{c:Addr}:∀(names:List (Str×NameKind)) (acc:List (Str×Addr)),(names.foldl (Er env) acc).lookup y=some c →
  acc.lookup y=some c\/((y,NameKind.free)∈names/\(env.cells.lookup y).getD 0=c)
 | [],acc,h=>.inl h
 | (n,k)::r,acc,h=>by
  rcases Ob r _ h with q|⟨q,z⟩
  ·unfold Er at q
   grind
  grind
theorem Nh {env:Env}{y:Str}:∀(names:List (Str×NameKind)) (acc:List (Str×Addr)),((y,NameKind.free)∈names\/∃c,acc.lookup y=some c)→∃c,(names.foldl (Er env) acc).lookup y=some c
 | [],acc,h=>by
  grind
 | (n,k)::r,acc,h=>by
  refine Nh r _ ?_
  by_cases hy:(y,NameKind.free)∈r
  ·grind
  ·refine .inr ?_
   rcases h with h|⟨c,h⟩
   ·rcases List.mem_cons.mp h with e|e
    ·cases e
     exact ⟨_,by unfold Er;rw [if_pos rfl,List.lookup_cons_self]⟩
    grind
   ·unfold Er
    grind
theorem Pe {prog:Program}{w:World}{A:Around}{R:Result→Shared→Prop}{s:Shared}{elt target iter:Expr}{ifs:List Expr}{scope:Scope}{pos:Pos}{it acc:Value}{env:Env}(I:Nat→Shared→Prop)
  (turn:∀n s,I n s→wpAny (model prog w) A (pyNext it) (fun r s₁=>match r with
   | none=>R (.ok .next) s₁
   | some v=>wpAny (model prog w) A (letOwnedTupleGo target it v) (fun _ s₁'=>wpAny (model prog w) A (assign target env v) (fun _ s₂ =>
     wpAny (model prog w) A (forIn ifs true fun c r=>if r=true then do let ok ← isTrue c env (eval c env);pure (ForInStep.yield ok) else pure (ForInStep.yield r)) (fun ok s₃ =>
      if ok=true then wpAny (model prog w) A (eval elt env) (fun x s₄ =>
       wpAny (model prog w) A (call (.builtin "list.append") [acc,x]) (fun _ s₅=>∃m,m<n/\I m s₅) (fun _ _=>False) s₄) (fun _ _=>False) s₃
      else ∃m,m<n/\I m s₃) (fun _ _=>False) s₂) (fun _ _=>False) s₁') (fun _ _=>False) s₁) (fun _ _=>False) s)
  (n:Nat) (h:I n s) :
  codeAny (model prog w) A (.compLoop (.ListComp elt [⟨target,iter,ifs,0⟩] scope pos) 0 it acc env) R s:=by
 refine codeAny_loop rfl I (fun n s hI=>?_) n h
 refine wpAny_noted ?_
 refine wpAny_bind (wpAny_standAt (wpAny_bind (wpAny_mono (turn n s hI) (fun r s₁ h₁=>?_) fun _ _ h'=>h'.elim)))
 cases r with
 | none=>exact wpAny_pure h₁
 | some v =>
  refine wpAny_bind (wpAny_mono h₁ (fun _ s₁' h₁'=>?_) (by grind))
  refine wpAny_bind (wpAny_mono h₁' (fun _ s₂ h₂=>wpAny_bind (wpAny_mono h₂ (fun ok s₃ h₃=>?_) (by grind))) (by grind))
  cases ok with
  | false=>exact wpAny_pure ⟨rfl,h₃⟩
  | true =>
   exact wpAny_bind (wpAny_bind (wpAny_mono h₃ (fun x s₄ h₄=>wpAny_bind (wpAny_mono h₄ (fun _ s₅ h₅=>wpAny_pure (wpAny_pure ⟨rfl,h₅⟩)) (by grind))) (by grind)))
def PTs (X:Cx) (ifs:List Expr) (t:TT):Prop :=
 ∀(pins:List (Addr×Obj)) (s:Shared) (σ:St) (H:Hp) (Q:Bool→Hp→Prop),Inv X pins σ H s→t σ H Q →
  wpAny (model X.prog X.w) X.A (forIn ifs true fun c r=>if r=true then do let ok ← isTrue c X.env (eval c X.env);pure (ForInStep.yield ok) else pure (ForInStep.yield r)) (TP X pins σ Q) X.xe s
def Ub:TT:=fun _ H Q=>Q true H
theorem Fb {X:Cx}:PTs X [] Ub:=fun pins s σ H Q I h=>wpAny_tests_nil ⟨H,I,h⟩
theorem Wj {X:Cx}{c:Expr}{t:TT}(h:PT X c t):PTs X [c] t:=fun pins s σ H Q I hw=>wpAny_tests_one (h _ s σ H Q I hw)
def A9 (X:Cx) (scope:Scope) (N:List Str) (C:Addr) (s:Shared) (H:Hp) (ex:List Addr):Cx :=
 { X with N:=N,s₀:=s,H₀:=H,env:=compEnvC scope (Ln X.env scope.names) C X.env,outer:=X.stack,stack:=X.stack,ex:=ex,fn:=fun _=>false,pn:=[],xe:=fun _ _=>False }
def pick (σ:St) (j:Nat):Option V:=(σ[j]?).getD none
def MZ (n0:Nat) (fr:List Nat) (g:TG) (tt:TT) (te:TE) (σ:St) (Q:VK) (J:It) (H1:Hp):Prop:=∃W:Nat→Nat→St→List V→Hp→Prop,
 (∃m,W 0 m (List.replicate n0 none++fr.map (pick σ)) [] H1)/\∀i m τ acc H,W i m τ acc H →
  (J.stop i H/\∀D,H D=none→Q (.ref D) (upd H D (.lst acc))) \/
  (J.go i H/\acc.length<sizeLine/\∀x H',J.yld i H x H'→g x τ H' fun τ1 H1=>tt τ1 H1 fun b H2 =>
   if b=true then te τ1 H2 fun y H3=>∃m',m'<m/\W (i+1) m' τ1 (acc++[y]) H3 else ∃m',m'<m/\W (i+1) m' τ1 acc H2)
def Mv (n0:Nat) (fr:List Nat) (wi:TI) (g:TG) (tt:TT) (te:TE):TE:=fun σ H Q=>wi σ H (MZ n0 fr g tt te σ Q)
theorem Km {env:Env}:∀{names:List (Str×NameKind)}{y:Str},(∀z∈names,z.2≠.cell) →
    ((names.map fun (n,k)=>if (k==NameKind.free&&env.scope.kind==.function&&env.kindOf n==some .cell) then (n,NameKind.cell) else (n,k)).lookup y=some .cell \/
     (names.map fun (n,k)=>if (k==NameKind.free&&env.scope.kind==.function&&env.kindOf n==some .cell) then (n,NameKind.cell) else (n,k)).lookup y=some .free)→(y,NameKind.free)∈names
  | [],y,_,h=>by grind
  | (n,k)::r,y,hc,h=>by
    have ih:=@Km env r y (by grind)
    grind
theorem Fw {env:Env}:∀{names:List (Str×NameKind)}{y:Str},names.lookup y=some .free →
    (names.map fun (n,k)=>if (k==NameKind.free&&env.scope.kind==.function&&env.kindOf n==some .cell) then (n,NameKind.cell) else (n,k)).lookup y=some .cell \/
     (names.map fun (n,k)=>if (k==NameKind.free&&env.scope.kind==.function&&env.kindOf n==some .cell) then (n,NameKind.cell) else (n,k)).lookup y=some .free
  | [],y,h=>by grind
  | (n,k)::r,y,h=>by
    have ih:=@Fw env r y
    grind
def Nt (X:Cx) (scope:Scope):List (Str×Nat)→Prop
 | []=>True
 | p::r=>X.N[p.2]?=some p.1/\scope.names.lookup p.1=some .free/\Nt X scope r
theorem Nt.all {X:Cx}{scope:Scope}:∀{fr:List (Str×Nat)},Nt X scope fr→∀p∈fr,X.N[p.2]?=some p.1/\scope.names.lookup p.1=some .free
 | p::r,h,q,hq=>by
  rcases List.mem_cons.mp hq with e|e
  ·subst e;exact ⟨h.1,h.2.1⟩
  ·exact Nt.all h.2.2 q e
section
variable {X:Cx}
theorem Oa {tg iter elt:Expr}{ifs:List Expr}{scope:Scope}{wi:TI}{g:TG}{tt:TT}{te:TE}{own:List Str}{fr:List (Str×Nat)}{pos p0:Pos}{use:Option (Value→Sem Unit)}{PQ:Value→Shared→Prop}{pins:List (Addr×Obj)}{s:Shared}{σ:St}{H:Hp}{Q:VK}
  (hc:X.calm=true) (hi:PI X tg iter wi)
  (hk:scope.kind=.function) (hcell:∀y∈scope.names,y.2≠.cell) (hnames:∀y∈scope.names,y.2=.local→scope.names.lookup y.1=some .local)
  (hfree:∀y∈scope.names,y.2=.free→X.env.kindOf y.1=some .cell\/X.env.kindOf y.1=some .free) (hfr:Nt X scope fr)
  (hg:∀C s H ex,PG (A9 X scope (own++fr.map (·.1)) C s H ex) tg g)
  (ht:∀C s H ex,PTs (A9 X scope (own++fr.map (·.1)) C s H ex) ifs tt)
  (he:∀C s H ex,PE (A9 X scope (own++fr.map (·.1)) C s H ex) elt te)
  (hs:∀x,foldedSetIterable iter X.env x=pure x)
  (I:Inv X pins σ H s) (h:Mv own.length (fr.map (·.2)) wi g tt te σ H Q)
  (fin:∀(D C:Addr) m (s4:Shared) (H5:Hp) v,Inv X pins σ H5 s4→s4.heap.Ns C m→H5 C=none→C≠X.env.locals→X.s₀.heap.objs.size≤C→(∀x c,X.env.cells.lookup x=some c→c≠C)→(∀p∈X.pn++pins,p.1≠C)→Q (.ref D) H5→compPost (model X.prog X.w) X.A X.xe use PQ (.ref D) C (.ok v) s4) :
  wpAny (model X.prog X.w) X.A (comprehension (.ListComp elt [⟨tg,iter,ifs,0⟩] scope pos) scope X.env p0 (newList []) false (eval iter X.env) use) PQ X.xe s:=by
 have hcl:∀y c,(Ln X.env scope.names).lookup y=some c→X.env.cells.lookup y=some c:=fun y c e=>by
  rcases Ob scope.names [] e with q|⟨q,z⟩
  ·simp at q
  ·obtain ⟨c',e'⟩:=I.ok.has y (hfree _ q rfl)
   rw [e'] at z
   rw [e',←z]
   rfl
 have hclos:closureFor scope X.env=pure (Ln X.env scope.names):=N4 fun y hy e=>I.ok.has y.1 (hfree y hy e)
 refine wpAny_comprehension_free (use:=use) (cl:=Ln X.env scope.names) (Q:=PQ) rfl hs hclos hk hnames ?_
 refine thn (hi pins s σ H _ I h) fun v s1 h1=>thn h1 fun itv s2 h2=>?_
 obtain ⟨it,fp,tn,J,H2,e,I2,T,st2,f2,W,⟨m0,w0⟩,turn⟩:=h2
 subst e
 refine wpAny_newObj_type (wpAny_newFunctionEnv hcell (by intro y hy;simp at hy) (fun h₁ hns₁ hsb₁=>?_) hk)
 dsimp only at hns₁ hsb₁ ⊢
 generalize hH2:s2.heap.push _=HL at hns₁ hsb₁ ⊢
 have hC:HL.objs.size=s2.heap.objs.size+1:=by rw [←hH2,Heap.size_push]
 generalize hCC:HL.objs.size=C at hns₁ hsb₁ hC ⊢
 have hDC:s2.heap.objs.size≠C:=by rw [hC];exact Nat.ne_of_lt (Nat.lt_succ_self _)
 have below:∀b,b<s2.heap.objs.size→b≠C/\b≠s2.heap.objs.size:=fun b hb=>⟨by rw [hC];exact Nat.ne_of_lt (Nat.lt_succ_of_lt hb),Nat.ne_of_lt hb⟩
 have old  := fun b o e=>hsb₁.extBut b o (below b (Heap.lt_size e)).1 (Heap.get?_push_of_some _ (hH2 ▸ Heap.get?_push_of_some _ e))
 have eD0  := hsb₁.extBut _ _ hDC (Heap.get?_push_of_some _ (hH2 ▸ Heap.get?_push_size _ rfl))
 have fpLt:∀b∈fp,b<s2.heap.objs.size:=fun b hb=>by
  obtain ⟨o,e,_⟩:=T.obj _ _ st2 b hb
  exact Heap.lt_size e
 generalize hD:s2.heap.objs.size=D at hDC below eD0 fpLt hC
 have hDfp:D∉fp:=fun z=>Nat.lt_irrefl _ (fpLt D z)
 have okY:(A9 X scope (own++fr.map (·.1)) C s2 H2 fp).Ok:=by
  refine ⟨I2.ok.mod,hk,I2.ok.glob,I2.ok.blt,by show s2.heap.objs.size≤C;omega,fun x y c e1 e2=>I2.ok.inj x y c (hcl x c e1) (hcl y c e2),fun y hy=>?_,fun x c z _=>(by cases z),I2.ok.hd,I2.ok.frames,.inl rfl,fun b hb=>⟨(below b (fpLt b hb)).1,fun y c e=>?_⟩,I2.bs,
   Nat.le_trans I2.ok.bsz I2.sz,fun b o e hb=>?_,fun b hb z=>?_,I2.stack,I2.Ov⟩
  ·exact Nh scope.names [] (.inl (Km (env:=X.env) hcell hy))
  ·exact (f2 b hb).2.2.2.2.1 y c (hcl y c e)
  ·rcases (f2 b hb).2.2.2.1 with z|z
   ·exact I2.ok.QS b o e z
   ·exact absurd (Nat.lt_of_lt_of_le (Heap.lt_size e) (Nat.le_trans I2.ok.bsz z)) (Nat.lt_irrefl _)
  ·rcases List.mem_cons.mp (I2.Ou b z) with q|q
   ·exact (f2 b hb).2.1 q
   ·exact (f2 b hb).2.2.1 q
 have cellLt:∀y c,X.env.cells.lookup y=some c→c<D:=fun y c e=>by
  obtain ⟨v,z⟩:=I2.cell y c e
  exact Nat.lt_of_lt_of_le z.lt (Nat.le_of_eq hD)
 have stkLt:∀b∈frs X.stack,b<D:=fun b hb=>by
  rcases List.mem_cons.mp (I2.Ou b hb) with q|q
  ·rw [q];exact Nat.lt_of_lt_of_le I2.lt (Nat.le_of_eq hD)
  ·obtain ⟨_,o,ho,_⟩:=I2.ok.Io.mem q
   exact Nat.lt_of_lt_of_le (Heap.lt_size ho) (Nat.le_trans I2.sz (Nat.le_of_eq hD))
 have fresh:∀a,D≤a→H2 a=none:=fun a ha=>I2.hok.fresh (Nat.le_trans (Nat.le_of_eq hD) ha)
 have IY:Inv (A9 X scope (own++fr.map (·.1)) C s2 H2 fp) [] (List.replicate own.length none++(fr.map (·.2)).map (pick σ)) H2 { s2 with heap:=h₁,toks:=s2.toks+([]:List (Str×Value)).length }:=by
  refine ⟨okY,rfl,I2.bare,Un.kept old,⟨_,hns₁,fun i y v e1 e2 e3=>?_⟩,fun y c e=>?_,fresh C (by omega),fun y c e=>I2.Fy y c (hcl y c e),fun p hp=>absurd (show p∈([]:List (Addr×Obj)) from hp) (by simp),I2.hok.kept old,?_⟩
  ·have e1:(own++fr.map (·.1))[i]?=some y:=e1
   have hi':own.length≤i:=by
    by_cases hlt:i<own.length
    ·rw [List.getElem?_append_left (by simpa using hlt),List.getElem?_replicate,if_pos hlt] at e2
     cases e2
    ·omega
   rw [List.getElem?_append_right hi',List.getElem?_map] at e1
   rw [List.getElem?_append_right (by simpa using hi'),List.getElem?_map,List.getElem?_map,List.length_replicate] at e2
   cases hp:fr[i-own.length]? with
   | none=>rw [hp] at e1;cases e1
   | some p =>
    rw [hp] at e1 e2
    have ey:p.1=y:=Option.some.inj e1
    have ev:pick σ p.2=some v:=Option.some.inj e2
    obtain ⟨a1,a3⟩:=hfr.all p (List.mem_of_getElem? hp)
    have es:σ[p.2]?=some (some v):=by
     unfold pick at ev
     cases q:σ[p.2]? with
     | none=>rw [q] at ev;cases ev
     | some z=>rw [q] at ev;exact congrArg some ev
    have hfk  := hfree (p.1,.free) (PySem.mem_of_lookup a3) rfl
    obtain ⟨m,hn,hl⟩:=I2.loc
    obtain ⟨u,r,l⟩:=hl p.2 p.1 v a1 es (hfk.elim (fun z=>.inr (.inl z)) fun z=>.inr (.inr z))
    refine ⟨u,r,.inr ?_⟩
    rcases l with ⟨z,_⟩|⟨_,c,ec,zc⟩
    ·rcases hfk with q|q <;> rw [z] at q <;> cases q
    ·obtain ⟨c',ec'⟩:=Nh (env:=X.env) (y:=p.1) scope.names [] (.inl (PySem.mem_of_lookup a3))
     have:c'=c:=Option.some.inj ((hcl _ _ ec').symm.trans ec)
     subst this
     rw [←ey]
     obtain ⟨o,ho,hdd⟩:=zc
     exact ⟨Fw (env:=X.env) a3,c',ec',o,old _ o ho,hdd⟩
  ·obtain ⟨v,z⟩:=I2.cell y c (hcl y c e)
   obtain ⟨o,ho,hdd⟩:=z
   exact ⟨v,o,old _ o ho,hdd⟩
  ·show (List.replicate own.length (none:Option V)++(fr.map (fun p=>p.2)).map (pick σ)).length=(own++fr.map (fun p=>p.1)).length
   simp
 have fpY:∀{H3:Hp} {ob:Obj},(∀b∈fp,H3 b=none)→∀b∈fp,SD (A9 X scope (own++fr.map (·.1)) C s2 H2 fp) [(D,ob)] H3 b:=fun {H3 ob} hn b hb =>
  ⟨hn b hb,(below b (fpLt b hb)).1,fun z=>okY.Qr b hb z,.inl hb,fun y c e=>(okY.exf b hb).2 y c e,fun p hp=>by
   have e:p=(D,ob):=by simpa [A9] using hp
   rw [e]
   show D≠b
   exact fun z=>hDfp (z ▸ hb)⟩
 have noC:∀(xs:Array Value) (k:Nat) (v:Option Value),({ cls:=.type "list", data:=.seq xs k }:Obj).data≠.cell v:=fun xs k v z=>by cases z
 have loop:∀s₃:Shared,s₃={ s2 with heap:=h₁,toks:=s2.toks+([]:List (Str×Value)).length } →
   codeAny (model X.prog X.w) X.A (.compLoop (.ListComp elt [⟨tg,iter,ifs,0⟩] scope pos) 0 (.ref it) (.ref D) (compEnvC scope (Ln X.env scope.names) C X.env))
    (compPost (model X.prog X.w) X.A X.xe use PQ (.ref D) C) s₃:=by
  rintro s₃ rfl
  refine Pe (fun n s'=>∃(i:Nat) (τ:St) (acc:List V) (H':Hp) (its:List Value) (k:Nat),Inv (A9 X scope (own++fr.map (·.1)) C s2 H2 fp) [] τ H' s'/\tn i s'.heap/\(∀b∈fp,H' b=none)/\H' D=none/\Vals acc its /\
   s'.heap.get? D=some { cls:=.type "list", data:=.seq its.toArray k }/\acc.length≤sizeLine/\W i n τ acc H') ?_ m0
   ⟨0,_,[],H2,[],0,IY,T.keep _ _ _ st2 fun b _ o e=>old b o e,fun b hb=>(f2 b hb).1,fresh D (Nat.le_refl _),.nil,eD0,Nat.zero_le _,w0⟩
  rintro n s3 ⟨i,τ,acc,H3,its,k,I3,st3,fr3,fD,rv,eD,hz,w3⟩
  have I3':Inv (A9 X scope (own++fr.map (·.1)) C s2 H2 fp) [(D,{ cls:=.type "list", data:=.seq its.toArray k })] τ H3 s3:=I3.Kp fun p hp=>by
   have e  := by simpa using hp
   subst e
   exact ⟨eD,fD,hDC,fun z=>Nat.lt_irrefl _ (stkLt D z),noC _ _⟩
  rcases turn i n τ acc H3 w3 with ⟨stop,qn⟩|⟨go,hlt,step⟩
  ·refine thn (T.done (A9 X scope (own++fr.map (·.1)) C s2 H2 fp) rfl rfl rfl hc i _ s3 τ H3 (fun _ _=>False) I3' (fpY fr3) st3 stop) fun r s4 ⟨hr,I4⟩=>?_
   subst hr
   obtain ⟨m,hn4,_⟩:=I4.loc
   obtain ⟨eD4,fD4,_⟩:=I4.pin (D,{ cls:=.type "list", data:=.seq its.toArray k }) (List.mem_append_right _ (List.mem_singleton.mpr rfl))
   have b4:Un (frs X.stack) fp H2 H3 s2.heap s4.heap:=I4.base
   have lt2:∀b o,s2.heap.get? b=some o→b≠C/\b≠D:=fun b o e=>below b (Nat.lt_of_lt_of_le (Heap.lt_size e) (Nat.le_of_eq hD))
   have tr2:∀b o,H2 b=some o→b≠D:=fun b o e z=>by
    have:=fresh D (Nat.le_refl _)
    rw [z,this] at e
    cases e
   have un:Un (frs X.stack) fp H2 (upd H3 D (.lst acc)) s2.heap s4.heap:=by
    refine ⟨fun b o e n hb hx=>b4.keep b o e n hb hx,fun b o e n hb hx=>?_,fun b o e n hx=>?_,fun b o e hx=>?_,fun b xs e=>?_,fun b o u e=>?_,fun b ps e=>?_⟩
    ·obtain ⟨sl,q⟩:=b4.slot b o e n hb hx
     exact ⟨sl,q⟩
    ·rw [AM (lt2 b o e).2];exact b4.free b o e n hx
    ·obtain ⟨o',q⟩:=b4.there b o e hx
     exact ⟨o',q⟩
    ·rw [AM (tr2 _ _ e)];exact b4.KP b xs e
    ·rw [AM (tr2 _ _ e)];exact b4.KI b o u e
    ·rw [AM (tr2 _ _ e)];exact b4.KQ b ps e
   have hok':HOk X.prog X.w (upd H3 D (.lst acc)) s4.heap:=I4.hok.UZ fD4 ⟨hz,its,k,rv,eD4⟩
   have IX:Inv X pins σ (upd H3 D (.lst acc)) s4:=I2.TL (s':=s4) (ch:=fp) I4.os un hok' I4.bare fun b hb=>⟨(f2 b hb).2.2.2.1,(f2 b hb).2.1,(f2 b hb).2.2.2.2.1,(f2 b hb).2.2.2.2.2⟩
   have hHC:H3 C=none:=I4.free
   have noCD:∀b:Addr,b<D→C≠b:=fun b hb z=>by
    rw [←z,hC] at hb
    exact Nat.lt_irrefl D (Nat.lt_of_succ_lt hb)
   have hCL:C≠X.env.locals:=noCD _ (Nat.lt_of_lt_of_le I2.lt (Nat.le_of_eq hD))
   refine fin D C m s4 _ _ IX hn4 (by rw [AM hDC.symm];exact hHC) hCL (Nat.le_trans I2.sz (by omega)) (fun z c e q=>?_) (fun p hp q=>?_) (qn D fD4)
   ·exact noCD _ (cellLt z c e) q.symm
   ·exact noCD _ (Nat.lt_of_lt_of_le (Heap.lt_size (I2.pin p hp).1) (Nat.le_of_eq hD)) q.symm
  ·refine thn (T.item (A9 X scope (own++fr.map (·.1)) C s2 H2 fp) rfl rfl rfl hc i _ s3 τ H3 (fun _ _=>False) I3' (fpY fr3) st3 go) fun r s4 ⟨u,hr,h4⟩=>?_
   subst hr
   refine thn h4 fun _ s5 ⟨x,H5,I5,r5,y5,st5,fr5⟩=>?_
   have I5':=I5.pinned (fpY fr5) (T.obj _ _ st5)
   refine thn (hg _ _ _ _ _ s5 τ H5 x u _ I5' r5 (step x H5 y5)) fun _ s6 ⟨τ6,H6,I6,q6⟩=>?_
   refine thn (ht _ _ _ _ _ s6 τ6 H6 _ I6 q6) fun b s7 ⟨H7,I7,q7⟩=>?_
   have facts:∀{s8:Shared} {H8:Hp} {τ8:St},Inv (A9 X scope (own++fr.map (·.1)) C s2 H2 fp) ([(D,{ cls:=.type "list", data:=.seq its.toArray k })]++NF fp s5.heap) τ8 H8 s8 →
     tn (i+1) s8.heap/\(∀b∈fp,H8 b=none)/\H8 D=none/\s8.heap.get? D=some { cls:=.type "list", data:=.seq its.toArray k }:=fun {s8 H8 τ8} I8=>by
    have hp:∀b∈fp,∀o,s5.heap.get? b=some o→s8.heap.get? b=some o/\H8 b=none:=fun b hb o e=>by
     have q:=I8.pin (b,o) (List.mem_append_right _ (List.mem_append_right _ (KD hb e)))
     exact ⟨q.1,q.2.1⟩
    have qD:=I8.pin (D,{ cls:=.type "list", data:=.seq its.toArray k }) (List.mem_append_right _ (List.mem_append_left _ (List.mem_singleton.mpr rfl)))
    refine ⟨T.keep _ _ _ st5 fun b hb o e=>(hp b hb o e).1,fun b hb=>?_,qD.2.1,qD.1⟩
    obtain ⟨o,e,_⟩:=T.obj _ _ st5 b hb
    exact (hp b hb o e).2
   cases b with
   | false =>
    obtain ⟨m',hm,w7⟩:=q7
    obtain ⟨z1,z2,z3,z4⟩:=facts I7
    exact ⟨m',hm,i+1,τ6,acc,H7,its,k,I7.Kp fun p hp=>absurd hp (by simp),z1,z2,z3,rv,z4,hz,w7⟩
   | true =>
    refine thn (he _ _ _ _ _ s7 τ6 H7 _ I7 q7) fun u8 s8 ⟨y,H8,I8,r8,m',hm,w8⟩=>?_
    obtain ⟨z1,z2,z3,z4⟩:=facts I8
    have hl:=rv.length
    refine call_meets F.slot_list_append ⟨_,z4,rfl⟩ F.entry_list_append (F.args_list_append_2 _ _) (PySem.list_append D its.toArray k u8 (by rw [List.size_toArray];omega)) ⟨z4,?_⟩
    have z5:=PySem.IsL.update z4 (·.push u8)
    have z6:its.toArray.push u8=(its++[u8]).toArray:=by simp
    rw [z6] at z5
    have kk:∀b o,b≠D→s8.heap.get? b=some o→(s8.heap.update D (Obj.mapSeq (·.push u8))).get? b=some o:=fun b o hb e=>(Heap.get?_update_other s8.heap (Obj.mapSeq (·.push u8)) (Ne.symm hb)).trans e
    have I8':Inv (A9 X scope (own++fr.map (·.1)) C s2 H2 fp) [] τ6 H8 s8:=I8.Kp fun p hp=>absurd hp (by simp)
    refine ⟨m',hm,i+1,τ6,acc++[y],H8,its++[u8],_,I8'.turned (it:=D) kk z3 hDC (.inr (by show s2.heap.objs.size≤D;omega)) (fun y c e=>Nat.ne_of_lt (cellLt y c (hcl y c e))) (fun p hp=>absurd (show p∈([]:List (Addr×Obj)) from hp) (by simp)),?_,z2,z3,
     rv.append (.cons r8 .nil),z5,?_,w8⟩
    ·exact T.keep _ _ _ z1 fun b hb o e=>kk b o (fun z=>hDfp (z ▸ hb)) e
    ·rw [List.length_append,List.length_singleton];omega
 exact codeAny_compStart_list (loop _ rfl) (T.self X.A 0 _ _ _ (T.keep _ _ _ st2 fun b _ o e=>old b o e) (loop _ rfl))
theorem Si {tg iter elt:Expr}{ifs:List Expr}{scope:Scope}{wi:TI}{g:TG}{tt:TT}{te:TE}{own:List Str}{fr:List (Str×Nat)}{pos:Pos}
  (hc:X.calm=true) (hi:PI X tg iter wi)
  (hk:scope.kind=.function) (hcell:∀y∈scope.names,y.2≠.cell) (hnames:∀y∈scope.names,y.2=.local→scope.names.lookup y.1=some .local)
  (hfree:∀y∈scope.names,y.2=.free→X.env.kindOf y.1=some .cell\/X.env.kindOf y.1=some .free) (hfr:Nt X scope fr)
  (hg:∀C s H ex,PG (A9 X scope (own++fr.map (·.1)) C s H ex) tg g)
  (ht:∀C s H ex,PTs (A9 X scope (own++fr.map (·.1)) C s H ex) ifs tt)
  (he:∀C s H ex,PE (A9 X scope (own++fr.map (·.1)) C s H ex) elt te)
  (hs:∀x,foldedSetIterable iter X.env x=pure x:=by intro _;rfl) :
  PE X (.ListComp elt [⟨tg,iter,ifs,0⟩] scope pos) (Mv own.length (fr.map (·.2)) wi g tt te):=by
 intro pins s σ H Q I h
 exact Oa hc hi hk hcell hnames hfree hfr hg ht he hs I h fun D C m s4 H5 v I4 hn hC hL h1 h2 h3 q=>⟨m,hn,fun h' sb=>⟨.ref D,_,I4.turned   (fun b o hb e=>(sb.2 b hb).trans e) hC hL (.inr h1) h2 h3,rfl,q⟩⟩
end
section
variable {X:Cx}
theorem U8 {iter elt:Expr}{ifs:List Expr}{scope osc:Scope}{wi:TI}{tt:TT}{te:TE}{x:Str}{px:Pos}{pos:Pos}(fr:List (Str×Nat))
  (hc:X.calm=true) (hi:PI X (.Name x px) iter wi) (ho:X.env.scope=osc)
  (hk:scope.kind=.function) (hcell:∀y∈scope.names,y.2≠.cell) (hnames:∀y∈scope.names,y.2=.local→scope.names.lookup y.1=some .local)
  (hfree:∀y∈scope.names,y.2=.free→osc.names.lookup y.1=some .cell\/osc.names.lookup y.1=some .free) (hfr:Nt X scope fr)
  (hx:scope.names.lookup x=some .local) (hnd:(x::fr.map (·.1)).Nodup)
  (ht:∀C s H ex,PTs (A9 X scope (x::fr.map (·.1)) C s H ex) ifs tt)
  (he:∀C s H ex,PE (A9 X scope (x::fr.map (·.1)) C s H ex) elt te)
  (hs:∀x,foldedSetIterable iter X.env x=pure x:=by intro _;rfl) :
  PE X (.ListComp elt [⟨.Name x px,iter,ifs,0⟩] scope pos) (Mv 1 (fr.map (·.2)) wi (GN 0) tt te) :=
 Si (own:=[x]) hc hi hk hcell hnames (fun y hy e=>by show X.env.scope.names.lookup y.1=_\/X.env.scope.names.lookup y.1=_;rw [ho];exact hfree y hy e) hfr
  (fun C s H ex=>Kq (i:=0) hnd rfl (.inl (lookup_relabel_local hx)) (.inr (lookup_relabel_local hx))) ht he hs
end
def Its (z:Str):It:=⟨fun i _=>i<z.cps.size,fun i H x H'=>H'=H/\∃c,z.cps[i]?=some c/\x=.str ⟨#[c]⟩,fun i _=>z.cps.size≤i⟩
def cD (tl:TE):TI:=fun σ H R=>tl σ H fun x H1=>∃z,x=.str z/\R (Its z) H1
theorem Px {P:Program}{w:World}{K:PySem.W.Frag}{tg:Expr}(it:Addr) (z:Str) (t:Tok) (ty:String) (hty:ty = "str_ascii_iterator" \/ ty = "str_iterator"):Turn P w K tg (Its z) [it] it (fun i h=>i≤z.cps.size/\h.IsStrIter it ty z t i) where
 mem:=by simp
 obj:=fun i h st b hb=>by
  have e:b=it:=by simpa using hb
  subst e
  obtain ⟨_,o,e,c,d⟩:=st
  exact ⟨o,e,fun v z=>by rw [d] at z;cases z⟩
 keep:=fun i h h' st k=>by
  obtain ⟨hi,o,e,r⟩:=st
  exact ⟨hi,o,k it (by simp) o e,r⟩
 item:=by
  intro X hP hw hK hc i pins s σ H E I hf st hg
  subst hP hw hK
  obtain ⟨f0,f1,f2,f3,f4,f5⟩:=hf it (by simp)
  have hg:i<z.cps.size:=hg
  rcases hty with e|e <;> subst e
  ·have W:=Walks.strAscii (prog:=X.prog) (w:=X.w) (I.ok.hd hc) it z t
   refine W.item i s _ _ hg st.2 fun v h' tk hv st' kk=>?_
   obtain ⟨c,u,hc',rfl⟩:=hv
   have I1:Inv X pins σ H { s with heap:=h',toks:=tk }:=I.turned (fun b o hb e=>kk b o (by simpa using hb) e) f0 f1 f3 f4 f5
   obtain ⟨o,e,c1,d⟩:=id st'
   exact ⟨_,rfl,Qo (s:={ s with heap:=h',toks:=tk }) e c1 d (by decide) ⟨.str ⟨#[c]⟩,H,I1,⟨_,rfl⟩,⟨rfl,c,hc',rfl⟩,⟨hg,st'⟩,fun b hb=>(hf b hb).1⟩⟩
  ·have W:=Walks.strWide (prog:=X.prog) (w:=X.w) (I.ok.hd hc) it z t
   refine W.item i s _ _ hg st.2 fun v h' tk hv st' kk=>?_
   obtain ⟨c,u,hc',rfl⟩:=hv
   have I1:Inv X pins σ H { s with heap:=h',toks:=tk }:=I.turned (fun b o hb e=>kk b o (by simpa using hb) e) f0 f1 f3 f4 f5
   obtain ⟨o,e,c1,d⟩:=id st'
   exact ⟨_,rfl,Qo (s:={ s with heap:=h',toks:=tk }) e c1 d (by decide) ⟨.str ⟨#[c]⟩,H,I1,⟨_,rfl⟩,⟨rfl,c,hc',rfl⟩,⟨hg,st'⟩,fun b hb=>(hf b hb).1⟩⟩
 done:=by
  intro X hP hw hK hc i pins s σ H E I hf st hg
  subst hP hw hK
  obtain ⟨f0,f1,f2,f3,f4,f5⟩:=hf it (by simp)
  have hg:z.cps.size≤i:=hg
  have hi:i=z.cps.size:=Nat.le_antisymm st.1 hg
  subst hi
  rcases hty with e|e <;> subst e
  ·have W:=Walks.strAscii (prog:=X.prog) (w:=X.w) (I.ok.hd hc) it z t
   exact W.done s _ _ st.2 fun h' tk kk=>⟨rfl,I.turned (fun b o hb e=>kk b o (by simpa using hb) e) f0 f1 f3 f4 f5⟩
  ·have W:=Walks.strWide (prog:=X.prog) (w:=X.w) (I.ok.hd hc) it z t
   exact W.done s _ _ st.2 fun h' tk kk=>⟨rfl,I.turned (fun b o hb e=>kk b o (by simpa using hb) e) f0 f1 f3 f4 f5⟩
 self:=fun _ _ _ _ _ st h=>by
  rcases hty with e|e <;> subst e
  ·exact wpAny_pyIter_striter_ascii st.2 h
  ·exact wpAny_pyIter_striter_wide st.2 h
section
variable {X:Cx}{tg:Expr}
theorem RI {l:Expr}{tl:TE}(hl:PE X l tl):PI X tg l (cD tl):=by
 intro pins s σ H R I h
 refine thn (hl pins s σ H _ I h) fun v s1 ⟨x,H1,I1,r1,q1⟩=>?_
 obtain ⟨z,e,q⟩:=q1
 subst e
 obtain ⟨t,rfl⟩:=r1
 cases ha:z.cps.all (·<128)
 ·refine wpAny_pyIter_wide ha ?_
  refine ⟨s1.heap.objs.size,[s1.heap.objs.size],_,_,H1,rfl,I1.kept (t':=s1.toks) fun b o e=>Heap.get?_push_of_some _ e,Px _ z t "str_iterator" (.inr rfl),⟨Nat.zero_le _,_,Heap.get?_push_size _ rfl,rfl,rfl⟩,fun b hb=>?_,q⟩
  have e:b=s1.heap.objs.size:=by simpa using hb
  subst e
  exact I1.Rq (Nat.le_refl _) (I1.hok.fresh (Nat.le_refl _))
 ·refine wpAny_pyIter_ascii ha ?_
  refine ⟨s1.heap.objs.size,[s1.heap.objs.size],_,_,H1,rfl,I1.kept (t':=s1.toks) fun b o e=>Heap.get?_push_of_some _ e,Px _ z t "str_ascii_iterator" (.inl rfl),⟨Nat.zero_le _,_,Heap.get?_push_size _ rfl,rfl,rfl⟩,fun b hb=>?_,q⟩
  have e:b=s1.heap.objs.size:=by simpa using hb
  subst e
  exact I1.Rq (Nat.le_refl _) (I1.hok.fresh (Nat.le_refl _))
end
theorem UG {J:It}{fr:List Nat}{tt:TT}{te:TE}{σ:St}{H:Hp}{Q:VK}(xs:List V) (p:V→Bool) (f:V→V) (hn:xs.length≤sizeLine)
  (hgo:∀i,i<xs.length→J.go i H) (hst:J.stop xs.length H) (hy:∀i x H',i<xs.length→J.yld i H x H'→H'=H/\xs[i]?=some x)
  (htt:∀x (R:Bool→Hp→Prop),x∈xs→R (p x) H→tt (some x::fr.map (pick σ)) H R)
  (hte:∀x (R:VK),x∈xs→p x=true→R (f x) H→te (some x::fr.map (pick σ)) H R)
  (hd:∀D,H D=none→Q (.ref D) (upd H D (.lst ((xs.filter p).map f)))) :
  MZ 1 fr (GN 0) tt te σ Q J H:=by
 refine ⟨fun i m τ acc H'=>m=xs.length-i/\i≤xs.length/\H'=H/\(∃o,τ=o::fr.map (pick σ))/\acc=(((xs.take i).filter p).map f),⟨xs.length,by simp,Nat.zero_le _,rfl,⟨none,rfl⟩,rfl⟩,?_⟩
 rintro i m τ acc H' ⟨rfl,hi,rfl,⟨o,rfl⟩,rfl⟩
 by_cases hlt:i<xs.length
 ·refine .inr ⟨hgo i hlt,?_,fun x H1 y=>?_⟩
  ·rw [List.length_map]
   have h1:((xs.take i).filter p).length≤(xs.take i).length:=List.length_filter_le _ _
   rw [List.length_take] at h1
   omega
  ·obtain ⟨e1,e2⟩:=hy i x H1 hlt y
   subst e1
   have hx:x∈xs:=List.mem_of_getElem? e2
   show tt ((o::fr.map (pick σ)).set 0 (some x)) _ _
   refine htt x _ hx ?_
   have ht:=take_succ_filter p xs i x e2
   cases hp:p x with
   | true =>
    show te (some x::fr.map (pick σ)) _ _
    refine hte x _ hx hp ⟨xs.length-(i+1),by omega,rfl,hlt,rfl,⟨some x,rfl⟩,?_⟩
    rw [ht,hp]
    simp
   | false =>
    show ∃m',m'<xs.length-i/\_
    refine ⟨xs.length-(i+1),by omega,rfl,hlt,rfl,⟨some x,rfl⟩,?_⟩
    rw [ht,hp]
    simp
 ·have e:i=xs.length:=by omega
  subst e
  rw [List.take_length]
  exact .inl ⟨hst,hd⟩
def B9 (z:Str):List V:=z.cps.toList.map fun c=>V.str ⟨#[c]⟩
theorem N3 {z:Str}{fr:List Nat}{tt:TT}{te:TE}{σ:St}{H:Hp}{Q:VK}(p:V→Bool) (f:V→V) (hn:z.length≤sizeLine)
  (htt:∀x (R:Bool→Hp→Prop),x∈B9 z→R (p x) H→tt (some x::fr.map (pick σ)) H R)
  (hte:∀x (R:VK),x∈B9 z→p x=true→R (f x) H→te (some x::fr.map (pick σ)) H R)
  (hd:∀D,H D=none→Q (.ref D) (upd H D (.lst (((B9 z).filter p).map f)))) :
  MZ 1 fr (GN 0) tt te σ Q (Its z) H:=by
 have hl:(B9 z).length=z.cps.size:=by simp [B9]
 have hl2:z.length=z.cps.size:=rfl
 refine UG (B9 z) p f (by omega) (fun i hi=>by show i<z.cps.size;omega) (by show z.cps.size≤_;omega) (fun i x H' hi y=>?_) htt hte hd
 obtain ⟨e,c,hc,rfl⟩:=y
 refine ⟨e,?_⟩
 unfold B9
 rw [List.getElem?_map]
 have:z.cps.toList[i]?=some c:=by simpa using hc
 rw [this]
 rfl
theorem ZC (ys:List Bool):(List.range ys.length).all (fun i=>ys.getD i false)=ys.all id:=by
 induction ys with
 | nil=>rfl
 | cons y r ih =>
  rw [List.length_cons,List.range_succ_eq_map,List.all_cons,List.all_map,List.all_cons]
  show (y&&_)=(y&&_)
  rw [←ih]
  rfl
section
variable {X:Cx}
theorem V1 {ys:List Bool}{its:List Value}(r:Vals (ys.map V.bl) its) {i:Nat}{v:Value}(h:its.toArray[i]?=some v):v=.bool (ys.getD i false):=by
 have h:its[i]?=some v:=by simpa using h
 have hl:=r.length
 rw [List.length_map] at hl
 have hi:i<ys.length:=by rw [hl];exact (List.getElem?_eq_some_iff.mp h).1
 obtain ⟨u,e,q⟩:=r.get (i:=i) (x:=V.bl (ys.getD i false)) (by simp [hi,List.getD_eq_getElem?_getD])
 rw [h] at e
 cases e
 exact q
theorem JA {K:PySem.W.Frag}(hc:X.calm=true) (hK:X.K=K:=by rfl):DT X (.builtin "all") (fun xs H Q=>∃(p:Addr) (ys:List Bool),xs=[.ref p]/\SqL K H p (ys.map V.bl)/\Q (.bl (ys.all id)) H):=by
 subst hK
 intro pins s σ H xs us Q I r h
 obtain ⟨p,ys,rfl,hq,q⟩:=h
 obtain ⟨u,rfl,ru⟩:=vals1 r
 cases ru
 obtain ⟨its,rv,pl,hz⟩:=I.list hq
 have hl:=rv.length
 rw [List.length_map] at hl
 have hp:p<s.heap.objs.size:=by obtain ⟨o,e,_⟩:=pl.isList;exact Heap.lt_size e
 refine call_all_walk (wpAny_pyIter_list pl.isList ?_)
 refine ⟨s.heap.objs.size,_,_,_,_,_,fun i=>ys.getD i false,rfl,Walks.list (show X.A.in1.handled=none from I.ok.hd hc) _ p (Nat.ne_of_lt hp) its.toArray,⟨⟨_,Heap.get?_push_size _ rfl,rfl,rfl⟩,pl.isList.push _⟩,fun i v s' Q' E' hP hQ=>?_,fun h' tk hk=>?_⟩
 ·rw [V1 rv hP]
  exact wpAny_truthy_bool hQ
 ·rw [List.size_toArray,←hl,ZC]
  refine ⟨.bl _,H,I.kept (t':=tk) fun b o e=>hk b o (by simp;exact Nat.ne_of_lt (Heap.lt_size e)) (Heap.get?_push_of_some _ e),rfl,q⟩
def Ya:V→Option Int→Option Int→Hp→VK→Prop:=fun x lo hi H Q=>∃z,x=.str z/\z.length≤sizeLine/\Q (.str (Txt.slice z lo hi)) H
theorem part_of {v:Value}{o:Option Int}(p:IsPart v o):∃l:Option (Int×Tok),v=partValue l/\l.map (·.1)=o:=by
 cases p with
 | none=>exact ⟨none,rfl,rfl⟩
 | int i t=>exact ⟨some (i,t),rfl,rfl⟩
theorem RE:SlR X Ya:=by
 intro pins s σ H x v vl vu lo hi sl Q I rx hs pl pu h
 obtain ⟨z,rfl,hz,q⟩:=h
 obtain ⟨t,rfl⟩:=rx
 obtain ⟨l,rfl,rfl⟩:=part_of pl
 obtain ⟨u,rfl,rfl⟩:=part_of pu
 exact ⟨"str", _,F.slot_str_getitem.lookup,typeIs_str _ _ _,wpAny_getItem_str_slice (l:=l) (u:=u) (st:=none) hs rfl
  (post_val_or_str ⟨Nat.le_trans (Txt.slice_le z _ _) hz,fun t' k=>⟨.str _,H,I.tok _,⟨_,rfl⟩,q⟩⟩)⟩
theorem Mw {zs:List Str}:∀{us:List Value},Vals (zs.map V.str) us→StrsAre us zs:=by
 induction zs with
 | nil=>intro us r;cases r;exact .nil
 | cons n ns ih =>
  intro us r
  cases r with
  | cons r1 r2 =>
   obtain ⟨t,e⟩:=r1
   subst e
   exact .cons n t (ih r2)
theorem Hi {K:PySem.W.Frag}(hK:X.K=K:=by rfl):MtR X "str.join" (fun x xs H Q=>∃(sep:Str) (p:Addr) (zs:List Str),x=.str sep/\xs=[.ref p]/\SqL K H p (zs.map V.str)/\(zs.map (·.length)).sum+zs.length * sep.length≤16777216/\Q (.str (Txt.join sep zs)) H):=by
 subst hK
 intro pins s σ H x xs v us Q I rx rs h
 obtain ⟨sep,p,zs,rfl,rfl,hq,hz,q⟩:=h
 obtain ⟨t,rfl⟩:=rx
 obtain ⟨u,rfl,ru⟩:=vals1 rs
 cases ru
 obtain ⟨its,rv,pl,_⟩:=I.list hq
 exact join_list pl.isList (by simpa using Mw rv) hz fun t' k=>⟨.str _,H,I.tok _,⟨_,rfl⟩,q⟩
theorem EM {K:PySem.W.Frag}(hK:X.K=K:=by rfl):DT X (.builtin "isinstance") (fun xs H Q=>∃x n t b,xs=[x,.ty n]/\LJ K H x t/\PySem.W.kitOne K t (.type n)=some b/\Q (.bl b) H):=by
 subst hK
 intro pins s σ H xs us Q I r h
 obtain ⟨x,n,t,b,rfl,ty,e,q⟩:=h
 obtain ⟨u,w',rfl,rx,rn⟩:=vals2 r
 cases (show w'=Value.type n from rn)
 exact T9 I rx ty e fun tk=>⟨.bl b,H,I.tok _,rfl,q⟩
end
section
variable {X:Cx}{pins:List (Addr×Obj)}{σ:St}{H:Hp}{s:Shared}
end
section
variable {X:Cx}
end
section
variable {X:Cx}
def Yb (K:PySem.W.Frag):R2:=fun x y H Q=>∃a b xs,x=.ref a/\y=.ref b/\SqL K H a xs/\SqL K H b []/\Q (.bl xs.isEmpty) H
theorem VG {K:PySem.W.Frag}(hu:X.A.units<cLine) (hK:X.K=K:=by rfl):OpR X (compareOp .Eq) (Yb K):=by
 subst hK
 intro pins s σ H x y v u Q I rx ry h
 obtain ⟨a,b,xs,rfl,rfl,ha,hb,q⟩:=h
 cases rx
 cases ry
 obtain ⟨its,r1,p1,_⟩:=I.list ha
 obtain ⟨its2,r2,p2,_⟩:=I.list hb
 cases r2
 have hl:=r1.length
 cases xs with
 | nil =>
  cases r1
  exact SeqAt.eq_listAt (e:=fun _=>true) p1.isList p2.isList rfl hu (fun j h1 _=>absurd h1 (by simp)) ⟨.bl true,H,I,rfl,q⟩
 | cons x r =>
  refine SeqAt.eq_list_lengthsAt p1.isList p2.isList ?_ hu ⟨.bl false,H,I,rfl,q⟩
  rw [List.size_toArray,←hl]
  rfl
end
theorem Pm {α:Type}(xs:List α) (n:Int) (hn:(xs.length:Int)=n) (h0:0<n) (c:Int):∃v,atI xs (c % n)=some v/\v∈xs:=by
 have h1:0≤c % n:=Int.emod_nonneg _ (by omega)
 have h2:c % n<n:=Int.emod_lt_of_pos _ h0
 obtain ⟨j,hj⟩:=Int.eq_ofNat_of_zero_le h1
 refine ⟨xs[j],?_,(by grind)⟩
 rw [hj]
 exact AL (by grind)
theorem By {c:Bool}{A B:Prop}(h1:c=true→A) (h2:c=false→B):if c=true then A else B:=by
 grind
theorem AO.upd {H H':Hp}{a:Addr}{o:HO}(e:AO H H') (h:H' a=none):AO H (upd H' a o):=fun b u q=>by
 rw [AM (Af (e b u q) h)]
 exact e b u q
section
variable {X:Cx}{K:PySem.W.Frag}
theorem Vi (hK:X.K=K:=by rfl):IxR X (Zw K):=by subst hK;exact XR
theorem XQ (hK:X.K=K:=by rfl):IxR X (Zv K):=by subst hK;exact Yz
theorem Ah (hK:X.K=K:=by rfl):SlR X (Zu K):=by subst hK;exact Wa
theorem KW (hK:X.K=K:=by rfl):SlR X (We K):=by subst hK;exact YW
theorem Ex (hK:X.K=K:=by rfl):OpR X (compareOp .In) (rIn K false):=by subst hK;exact Tg
theorem Jj (hK:X.K=K:=by rfl):OpR X (compareOp .NotIn) (rIn K true):=by subst hK;exact O6
theorem Fg (hK:X.K=K:=by rfl):OpR X (binaryOp .Add) (Sa K):=by subst hK;exact Ww
theorem N6 (hK:X.K=K:=by rfl):DT X (.builtin "len") (fun xs H Q=>∃p ys,xs=[.ref p]/\(SqL K H p ys\/SqT K H p ys)/\Q (.int ys.length) H):=by subst hK;exact Pj
theorem Jp (hK:X.K=K:=by rfl):DT X (.type "list") (fun xs H Q=>∃p ys,xs=[.ref p]/\(SqL K H p ys\/SqT K H p ys)/\∀l,H l=none→Q (.ref l) (upd H l (.lst ys))):=by subst hK;exact Ph
theorem DW {tg l:Expr}{tl:TE}(hl:PE X l tl) (hK:X.K=K:=by rfl):PI X tg l (Xw K tl):=by subst hK;exact Sg hl
theorem Sf {tg l:Expr}{tl:TE}(hl:PE X l tl) (hK:X.K=K:=by rfl):PI X tg l (aO K tl):=by subst hK;exact U0 hl
theorem CA {o e:Expr}{es:List Expr}{to:TE}{t:TA}{name:Str}{apos cpos:Pos}{T id:String}{r:V→List V→Hp→VK→Prop}(pa:PlainAttrs T) (slot:Slot T name id) (hty:typeOf (.builtin id)=pure (.type "method_descriptor")) (hm:MtR X id r) (ho:PE X o to) (ha:PA X (e::es) t)
  (hK:X.K=K:=by rfl) (hbase:attributeBase o name X.env (eval o X.env)=eval o X.env:=by rfl)
  (hfew:((backTo cpos (starEach (e::es) X.env)).all (fun x=>!x.1)&&(backToKw cpos (keywordEach [] X.env)).all (fun x=>x.1.isSome)
   && decide ((e::es).length+([]:List Keyword).length+(if ([]:List Keyword).isEmpty then 0 else 1)<30))=true:=by rfl)
  (hline:(apos.endLine==cpos.line)=true:=by rfl) (hs:starEach (e::es) X.env=(false,eval e X.env)::starEach es X.env:=by rfl) (hplain:(backTo cpos (starEach es X.env)).any (·.1)=false:=by rfl) :
  PE X (.Call (.Attribute o name apos) (e::es) [] cpos) (tBM K T r to t):=by
 subst hK;exact Zz pa slot hty hm ho ha hbase hfew hline hs hplain
end
section
variable {X:Cx}{K:PySem.W.Frag}
theorem Jn:MtR X "str.startswith" (fun x xs H Q=>∃z y,x=.str z/\xs=[.str y]/\Q (.bl (Txt.startswith z y)) H):=by
 intro pins s σ H x xs v us Q I rx rs h
 obtain ⟨z,y,rfl,rfl,q⟩:=h
 obtain ⟨t,rfl⟩:=rx
 obtain ⟨u,rfl,t',rfl⟩:=vals1 rs
 exact call_meets F.slot_str_startswith (typeIs_str _ _ _) F.entry_str_startswith (F.args_str_startswith_2 _ _) (gives_str_startswith z y t t').meets ⟨.bl _,H,I,rfl,q⟩
theorem LA:DT X (.type "int") (fun xs H Q=>∃z n,xs=[.str z]/\PySem.intText? z=some n/\z.length≤640/\Q (.int n) H):=by
 intro pins s σ H xs us Q I r h
 obtain ⟨z,n,rfl,e,hz,q⟩:=h
 obtain ⟨u,rfl,t,rfl⟩:=vals1 r
 exact PySem.W.KIN.call_text e hz ⟨.int n,H,I.tok _,⟨_,rfl⟩,q⟩
end
end L2
namespace Rev
open PySem PySem.Builtin PySem.Builtin.Str PySem.Builtin.Int
theorem Tt:typeLookup (.type "list_reverseiterator") "__len__" = pure none:=by rw [typeLookup_type,builtinLookup_eq_fast];kernel_rfl
theorem Vk:typeLookup (.type "list_reverseiterator") "__length_hint__" = pure (some (.builtin "list_reverseiterator.__length_hint__")):=by rw [typeLookup_type,builtinLookup_eq_fast];kernel_rfl
section
variable {prog:Program}{w:World}{A:Around}{R:Result→Shared→Prop}{I:Addr}{fp wr:List Addr}{G:Array GenState→Array GenState→Prop}{n:Nat}{P:Nat→Value→Prop}{St:Nat→Shared→Prop}{Live:Shared→Prop}
theorem Qq (W:WalksS prog w A.in1 I fp wr G n P St) (hend:∀(s:Shared) (Q:Option Value→Shared→Prop) (E:Value→Shared→Prop),St n s→(∀s',Moved wr G s s'→Live s'→Q none s')→wpAny (model prog w) A.in1 (pyNext (.ref I)) Q E s)
  (hn:n≤sizeLine) (S:Addr) (hSf:S∉fp) (res:Value) :
  ∀(k i:Nat) (s:Shared) (acc:Array Value) (c:Nat),n-i=k→i≤n→St i s→s.heap.get? S=some { cls:=.type "list", dict:=none,data:=.seq acc c,slots:=#[] }→ItemsOf P acc i →
  (∀s' acc' c',Moved (S::wr) G s s'→s'.heap.get? S=some { cls:=.type "list", dict:=none,data:=.seq acc' c',slots:=#[] }→ItemsOf P acc' n→Live s'→R (.ok (.ret res)) s') →
  codeAny (model prog w) A (.builtin "list.extend.loop" ⟨[.ref S,.ref I,res],[]⟩) R s:=by
 have hSw:S∉wr:=fun h=>hSf (W.sub _ h)
 have hsub:∀b∈wr,b∈S::wr:=fun b hb=>List.mem_cons_of_mem _ hb
 intro k
 induction k with
 | zero =>
  intro i s acc c hk hi hst hS hacc hR
  have hin:i=n:=by omega
  subst hin
  refine codeAny_builtin F.entry_extend_loop ?_
  rw [Around.under_plainId F.plain_extend_loop _]
  show wpAny _ A.in1 (pyNext (.ref I) >>= _) _ _ s
  refine wpAny_bind (hend s _ _ hst fun s' hm hl=>?_)
  exact wpAny_pure (hR s' acc c (hm.mono hsub) (hm.heap S _ hSw hS) hacc hl)
 | succ k ih =>
  intro i s acc c hk hi hst hS hacc hR
  have hlt:i<n:=by omega
  refine codeAny_builtin F.entry_extend_loop ?_
  rw [Around.under_plainId F.plain_extend_loop _]
  show wpAny _ A.in1 (pyNext (.ref I) >>= _) _ _ s
  refine wpAny_bind (W.item i s _ _ hlt hst fun v s' hP hst' hm=>?_)
  have hS':=hm.heap S _ hSw hS
  show wpAny _ A.in1 (updateSeq S (·.push v) >>= _) _ _ _
  refine wpAny_bind ?_
  refine wpAny_updateSeq hS' rfl (wpAny_pure ⟨plainId_quiet F.plain_extend_loop _,ih (i+1) _ (acc.push v) _ (by omega) hlt (W.frame _ s' _ s'.toks hst' (Nat.le_refl _) fun b hb o e=>?_) (Heap.get?_update_self _ hS' rfl) (hacc.push hP) fun s'' acc' c' hm'' hS'' hacc' hl=>?_⟩)
   (by rw [hacc.1];omega) (by show (acc.push v).size≤sizeLine+1;rw [Array.size_push,hacc.1];omega)
  ·exact (Heap.get?_update_other _ _ (fun h:S=b=>hSf (by rw [h];exact hb))).trans e
  ·refine hR s'' acc' c' (Moved.trans W.gtrans ((hm.mono hsub).then_heap (by first|exact Nat.le_refl _|exact Nat.le_succ _|omega) fun b o hb e=>?_) hm'') hS'' hacc' hl
   exact (Heap.get?_update_other _ _ (fun h:S=b=>hb (by rw [h];exact List.mem_cons_self))).trans e
end
section
variable {prog:Program}{w:World}{A:Around}{E:Value→Shared→Prop}{s:Shared}
theorem Wd {it l:Addr}{Q:Option Value→Shared→Prop}(hh:A.handled=none) (hit:s.heap.IsRevIter it l (-1))
  (hQ:∀h',Heap.ExtBut it s.heap h'→(∃o,h'.get? it=some o)→Q none { s with heap:=h' }):wpAny (model prog w) A (pyNext (.ref it)) Q E s:=by
 obtain ⟨o,ho,hc,hd⟩:=id hit
 unfold pyNext
 refine wpAny_bind (wpAny_attempt (wpAny_callSpecial?_slot (name:=Str.ofString "__next__") hit.typeIs F.slot_lri_next
  (wpAny_call_entry F.slot_lri_next hit.typeIs F.entry_lri_next ?_ (F.args_lri_next_1 _))))
 unfold Builtin.«list_reverseiterator.__next__»
 refine wpAny_bind (wpAny_of_eq (a:=(Value.ref it,[])) rfl ?_)
 try dsimp only
 refine wpAny_bind (wpAny_field ho hd (x:=rawInt (-1)) rfl ?_)
 show wpAny _ _ (if (-1:Int)<0 then _ else _) _ _ s
 rw [if_pos (by decide)]
 refine wpAny_bind (wpAny_rule ?_)
 first
 | show wpAny _ _ (newExc (.type "StopIteration") [] >>= _) _ _ _
 | (refine wpAny_bind ?_;show wpAny _ _ (newExc (.type "StopIteration") [] >>= _) _ _ _)
 refine wpAny_bind ?_
 simp only [newExc,newTuple]
 refine wpAny_bind (wpAny_newObj_type ?_ (by size_fits))
 refine wpAny_bind (m:=firstArgMember _ _) (wpAny_of_eq (a:=Value.none) (by first|rfl|(simp only [firstArgMember];rfl)) ?_)
 refine wpAny_newObj_type ?_ (by size_fits)
 simp only [raiseNew]
 refine wpAny_bind (wpAny_handled ?_)
 first|rw [show A.in1.handled=none from hh]|rw [hh]
 refine wpAny_bind (wpAny_pure (wpAny_throw ?_))
 refine wpAny_bind (wpAny_isInstance (T := "StopIteration") (b:=true) ⟨_,Heap.get?_push_size _ rfl,rfl⟩ isSubtype_stop ?_)
 exact wpAny_pure (hQ _ (((Heap.ExtBut.refl _ _).push _).push _) ⟨o,Heap.get?_push_of_some _ (Heap.get?_push_of_some _ ho)⟩)
end
section
variable {prog:Program}{w:World}{A:Around}{E:Value→Shared→Prop}{s:Shared}{I:Addr}{fp wr:List Addr}{G:Array GenState→Array GenState→Prop}{n:Nat}{P:Nat→Value→Prop}{St:Nat→Shared→Prop}{Live:Shared→Prop}
theorem Qu {Q:List Value→Shared→Prop}
  (W:WalksS prog w A.in1 I fp wr G n P St) (hend:∀(s:Shared) (Q:Option Value→Shared→Prop) (E:Value→Shared→Prop),St n s→(∀s',Moved wr G s s'→Live s'→Q none s')→wpAny (model prog w) A.in1 (pyNext (.ref I)) Q E s) (hT:∀i s,St i s→s.TypeIs (.ref I) "list_reverseiterator") (hst:St 0 s) (hfp:∀b∈fp,b<s.heap.objs.size) (hI:I∈fp)
  (hQ:∀s' acc,Moved wr G s s'→ItemsOf P acc n→Live s'→Q acc.toList s') (hn:n≤sizeLine:=by size_fits):wpAny (model prog w) A (collect (.ref I)) Q E s:=by
 have hSf:s.heap.objs.size∉fp:=fun hm=>Nat.lt_irrefl _ (hfp _ hm)
 have hSI:s.heap.objs.size≠I:=fun e=>hSf (e ▸ hI)
 unfold collect
 refine wpAny_bind (wpAny_runValue (codeAny_builtin F.entry_proto_collect ?_))
 rw [Around.under_plainId F.plain_proto_collect _]
 show wpAny _ A.in1 (newList [] >>= fun l=>again (.builtin "list.__iadd__" ⟨[l,.ref I],[]⟩)) _ _ s
 refine wpAny_bind (wpAny_newObj_type ?_)
 refine wpAny_pure ⟨plainId_quiet F.plain_list_iadd _,codeAny_builtin F.entry_list_iadd ?_⟩
 rw [Around.under_plainId F.plain_list_iadd _]
 have hst₁:=W.frame 0 s (s.heap.push { cls:=.type "list", data:=.seq ([]:List Value).toArray }) s.toks hst (Nat.le_refl _) fun b _ o e=>Heap.get?_push_of_some _ e
 have hS₁:(s.heap.push { cls:=.type "list", data:=.seq ([]:List Value).toArray }).get? s.heap.objs.size=some { cls:=.type "list", data:=.seq ([]:List Value).toArray }:=Heap.get?_push_size _ rfl
 have h1:Builtin.List.listSameRef (.ref s.heap.objs.size) (.ref I)=false:=by simp [Builtin.List.listSameRef,hSI]
 show wpAny _ A.in1 (Builtin.List.listExtendWith (.ref s.heap.objs.size) (.ref I) (.ref s.heap.objs.size)) _ _ _
 unfold Builtin.List.listExtendWith
 refine wpAny_bind (wpAny_typeOf (hT 0 _ hst₁) ?_)
 rw [if_neg (by rw [h1];decide)]
 refine wpAny_bind (W.self 0 _ _ _ hst₁ ?_)
 refine wpAny_bind (wpAny_holding ?_)
 unfold Builtin.List.listLengthHint
 refine wpAny_bind (wpAny_specialOf (hT 0 _ hst₁) Tt ?_)
 show wpAny _ A.in1 (specialOf (Value.ref I) (Str.ofString "__length_hint__") >>= _) _ _ _
 refine wpAny_bind (wpAny_specialOf (hT 0 _ hst₁) Vk ?_)
 (generalize hid:("list_reverseiterator.__length_hint__" : String)=id0;(fail_if_success (clear hid id0));wp_delta;rw [show splitId id0=some ("list_reverseiterator", "__length_hint__") from by subst hid;decide +kernel];subst hid)
 refine wpAny_bind (wpAny_isInstance (b:=true) (hT 0 _ hst₁) (by rw [isSubtype_type];kernel_rfl) ?_)
 refine wpAny_pure ?_
 rw [if_neg (by decide)]
 refine wpAny_pure ⟨plainId_quiet F.plain_extend_loop _,Qq W hend hn _ hSf _ n 0 _ _ _ rfl (Nat.zero_le _) hst₁ hS₁ (ItemsOf.nil P) fun s' acc' c' hm hS' hacc hl=>?_⟩
 show wpAny _ A (load s.heap.objs.size >>= _) _ _ s'
 refine wpAny_bind (wpAny_load hS' ?_)
 exact wpAny_pure (hQ s' acc' (Moved.drop_new (o:={ cls:=.type "list", data:=.seq ([]:List Value).toArray }) (tk:=s.toks) hm (Nat.le_refl _)) hacc hl)
end
end Rev
namespace Rev
open PySem PySem.Builtin PySem.Builtin.Str PySem.Builtin.Int
section
variable {prog:Program}{w:World}{A:Around}{E:Value→Shared→Prop}{s:Shared}{x:Str}{t:Tok}{Q:Value→Shared→Prop}{I:Addr}{fp wr:List Addr}{G:Array GenState→Array GenState→Prop}{n:Nat}{P:Nat→Value→Prop}{St:Nat→Shared→Prop}{Live:Shared→Prop}
theorem joinRev (W:WalksS prog w A.in1.in1 I fp wr G n P St) (hend:∀(s:Shared) (Q:Option Value→Shared→Prop) (E:Value→Shared→Prop),St n s→(∀s',Moved wr G s s'→Live s'→Q none s')→wpAny (model prog w) A.in1.in1 (pyNext (.ref I)) Q E s) (hT:∀i s,St i s→s.TypeIs (.ref I) "list_reverseiterator") (hst:St 0 s) (hfp:∀b∈fp,b<s.heap.objs.size) (hI:I∈fp)
  (hstr:∀i v,P i v→∃y u,v=Value.str y u)
  (hq:∀s' (l:List (Str×Tok)),Moved wr G s s'→ItemsOf P (strValues l).toArray n→Live s'→JoinOk x (l.map (·.1))=true/\∀t' k,Q (.str (Txt.join x (l.map (·.1))) t') { s' with toks:=k })
  (hsz:n≤sizeLine:=by size_fits) :
  wpAny (model prog w) A (call (.builtin "str.join") [.str x t,.ref I]) Q E s:=by
 refine wpAny_call (codeAny_call_builtin F.slot_str_join.plain F.entry_str_join (F.slot_str_join.check _ _ _ _ _ _ _ _ (typeIs_str _ _ _) (F.args_str_join_2 _ _) ?_))
 rw [join_tree_other]
 refine wpAny_bind (wpAny_typeOf (hT 0 s hst) ?_)
 show wpAny _ A.in1 ((pyIter (.ref I)).tryCatch _ >>= fun it=>collect it >>= fun items=>joinTail x items) _ _ s
 refine wpAny_bind (wpAny_tryCatch (W.of_in1.self 0 s _ _ hst ?_))
 refine wpAny_bind (Qu W hend hT hst hfp hI (fun s' acc hm hacc hl0=>?_) hsz)
 obtain ⟨l,hl⟩:=exists_strValues acc.toList fun v hv=>by
  obtain ⟨j,hj,rfl⟩:=Array.mem_iff_getElem.mp (Array.mem_toList_iff.mp hv)
  exact hstr j _ (hacc.2 j _ (Array.getElem?_eq_getElem hj))
 rw [←hl]
 have hacc':ItemsOf P (strValues l).toArray n:=by rw [hl];simpa using hacc
 obtain ⟨hok,hpost⟩:=hq s' l hm hacc' hl0
 unfold JoinOk at hok
 rw [Bool.not_eq_true'] at hok
 have g:Gives (joinTail x (strValues l)) (joinMade x l):=by
  have g0:=gives_joinTail x l hok
  cases l with
  | nil=>exact g0
  | cons p r=>cases r with
   | nil=>exact g0
   | cons q r'=>exact g0
 exact g prog w A (wants Q E) s' (post_join l ⟨joinFit_length hok,hpost⟩)
end
end Rev
namespace L2
open PySem PySem.Spec PyProof.Rows
section
variable {X:Cx}{K:PySem.W.Frag}
def WA (r p:Addr) (n:Nat):HO:=.ext fun h=>h.IsRevIter r p ((n:Int)-1)
theorem N5 (hK:X.K=K:=by rfl):DT X (.type "reversed") (fun xs H Q=>∃p ys,xs=[.ref p]/\SqL K H p ys/\∀r,H r=none→Q (.ref r) (upd H r (WA r p ys.length))):=by
 subst hK
 intro pins s σ H xs us Q I r h
 obtain ⟨p,ys,rfl,hq,q⟩:=h
 obtain ⟨u,rfl,ru⟩:=vals1 r
 cases ru
 obtain ⟨its,rv,pl,_⟩:=I.list hq
 have hl:=rv.length
 refine call_reversed_list pl.isList ?_
 have e:((its.toArray.size:Nat):Int)-1=(ys.length:Int)-1:=by rw [List.size_toArray,hl]
 rw [e]
 refine ⟨.ref s.heap.objs.size,_,I.laid (t':=s.toks) (o:=WA s.heap.objs.size p ys.length) (fun b o e=>Heap.get?_push_of_some _ e) (Nat.le_refl _) ?_,rfl,q _ I.fresh⟩
 exact ⟨⟨_,Heap.get?_push_size _ rfl,rfl,rfl⟩,⟨_,Heap.get?_push_size _ rfl⟩,fun h1 h2 ⟨o,e1,r1⟩ k=>⟨o,k o e1,r1⟩⟩
theorem RW (hc:X.calm=true) (hK:X.K=K:=by rfl):MtR X "str.join" (fun x xs H Q=>∃(sep:Str) (r p:Addr) (zs:List Str),x=.str sep/\xs=[.ref r]/\H r=some (WA r p zs.length)/\SqL K H p (zs.map V.str) /\
  (zs.map (·.length)).sum+zs.length * sep.length≤16777216/\Q (.str (Txt.join sep zs.reverse)) (upd H r (.ext fun _=>True))):=by
 subst hK
 intro pins s σ H x xs v us Q I rx rs h
 obtain ⟨sep,r,p,zs,rfl,rfl,hr,hq,hz,q⟩:=h
 obtain ⟨t,rfl⟩:=rx
 obtain ⟨u,rfl,ru⟩:=vals1 rs
 cases ru
 obtain ⟨its,rv,pl,hlz⟩:=I.list hq
 have hl:=rv.length
 rw [List.length_map] at hl hlz
 have sa:=Mw rv
 obtain ⟨hrev,⟨orv,eorv⟩,_⟩:BJ X.prog X.w H s.heap r (WA r p zs.length):=I.hok r _ hr
 have hrev:s.heap.IsRevIter r p ((zs.length:Int)-1):=hrev
 obtain ⟨ol,eol,_⟩:=id pl.isList
 have hne:p≠r:=by
  rintro rfl
  obtain ⟨o1,e1,c1,_⟩:=pl.isList
  obtain ⟨o2,e2,c2,_⟩:=hrev
  rw [e1] at e2
  cases e2
  rw [c1] at c2
  exact absurd (Value.type.inj c2) (by decide)
 have W:=(Walks.listRev (prog:=X.prog) (w:=X.w) (A:=X.A.in1.in1) (show X.A.in1.in1.handled=none from I.ok.hd hc) r p hne its.toArray).toS
 have hst:s.heap.IsRevIter r p ((its.toArray.size:Int)-1-((0:Nat):Int)):=by
  have e:(its.toArray.size:Int)-1-((0:Nat):Int)=(zs.length:Int)-1:=by rw [List.size_toArray,hl];simp
  rw [e];exact hrev
 refine Rev.joinRev (Live:=fun s'=>∃u,s'.heap.get? r=some u) W (fun s1 Q1 E1 st hQ1=>?_) (fun i s' st=>st.2.1.typeIs) ⟨Nat.zero_le _,hst,pl.isList⟩ (fun b hb=>?_) (by simp) (fun i v hv=>?_) (fun s' l hm hacc there=>?_) (by rw [List.size_toArray,←hl];exact hlz)
 ·have e:(its.toArray.size:Int)-1-(its.toArray.size:Int)=-1:=by omega
  have hit:s1.heap.IsRevIter r p ((its.toArray.size:Int)-1-(its.toArray.size:Int)):=st.2.1
  rw [e] at hit
  exact Rev.Wd (show X.A.in1.in1.handled=none from I.ok.hd hc) hit fun h' he ho=>hQ1 _ ⟨fun b o hb eo=>he b o (by simpa using hb) eo,rfl,rfl,rfl,Nat.le_refl _⟩ ho
 ·simp at hb
  rcases hb with rfl|rfl
  ·exact Heap.lt_size eorv
  ·exact Heap.lt_size eol
 ·have hv:its.toArray[its.toArray.size-1-i]?=some v:=hv
  have hv':its[its.toArray.size-1-i]?=some v:=by simpa using hv
  have hlt:its.toArray.size-1-i<zs.length:=by rw [hl];exact (List.getElem?_eq_some_iff.mp hv').1
  obtain ⟨t',e'⟩:=sa.get (its.toArray.size-1-i) zs[its.toArray.size-1-i] (List.getElem?_eq_getElem hlt)
  rw [hv'] at e'
  exact ⟨_,t',Option.some.inj e'⟩
 ·have e:l.map (·.1)=zs.reverse:=by
   apply List.ext_getElem?
   intro j
   have hsz:l.length=zs.length:=by have:=hacc.1;simp [strValues] at this;omega
   by_cases hj:j<l.length
   ·have hvj:=hacc.2 j (.str l[j].1 l[j].2) (by simp [strValues,List.getElem?_eq_getElem hj])
    have hvj:its.toArray[its.toArray.size-1-j]?=some (.str l[j].1 l[j].2):=hvj
    have hv':its[its.toArray.size-1-j]?=some (.str l[j].1 l[j].2):=by simpa using hvj
    have e0:its.toArray.size-1-j=zs.length-1-j:=by rw [List.size_toArray,hl]
    rw [e0] at hv'
    have hlt:zs.length-1-j<zs.length:=by omega
    obtain ⟨t',e'⟩:=sa.get (zs.length-1-j) zs[zs.length-1-j] (List.getElem?_eq_getElem hlt)
    rw [hv'] at e'
    injection e' with e'
    injection e' with e1 e2
    rw [List.getElem?_map,List.getElem?_eq_getElem hj,List.getElem?_reverse (by omega),List.getElem?_eq_getElem hlt]
    show some l[j].1=_
    rw [e1]
   ·rw [List.getElem?_eq_none (by simpa using Nat.le_of_not_lt hj),List.getElem?_eq_none (by rw [List.length_reverse];omega)]
  rw [e]
  refine ⟨joinOk_of ?_,fun t' k=>?_⟩
  ·rw [List.map_reverse,List.sum_reverse,List.length_reverse]
   exact hz
  ·have kk:∀b u,b≠r→s.heap.get? b=some u→s'.heap.get? b=some u:=fun b u hb eb=>hm.heap b u (by simpa using hb) eb
   have g1:s'.gens=s.gens:=hm.gens
   have o1:s'.os=s.os:=hm.os
   have d1:s'.drawn=s.drawn:=hm.drawn
   obtain ⟨h',g',d',tk',os'⟩:=s'
   have g1:g'=s.gens:=g1
   have o1:os'=s.os:=o1
   have d1:d'=s.drawn:=d1
   subst g1 o1 d1
   refine ⟨.str _,_,I.write (x:=r) (e:=r) (o:=.ext fun _=>True) (t':=k) (h':=h') (by rw [hr];exact trivial) (.inl rfl) kk there ⟨trivial,there,fun _ _ _ _=>trivial⟩,⟨_,rfl⟩,q⟩
end
end L2
namespace Att
open PySem PySem.W PySem.Calls PyProof.Rows
end Att
namespace L2
open PySem PySem.Spec PyProof.Rows
end L2
namespace L2
open PySem PySem.Spec PyProof.Rows
section
variable {X:Cx}{K:PySem.W.Frag}
end
end L2
namespace Fig
open PySem
def dig (m:Nat):List Nat:=(Nat.toDigits 10 m).map Char.toNat
theorem Pa {m:Nat}(h:m<10):dig m=[48+m]:=by
 unfold dig
 rw [Nat.toDigits_of_lt_base h]
 have:∀d:Nat,d<10→(Nat.digitChar d).toNat=48+d:=by decide
 rw [List.map_cons,this m h,List.map_nil]
theorem Vy {m:Nat}(h:10≤m):dig m=dig (m / 10)++[48+m % 10]:=by
 have hm:m % 10<10:=Nat.mod_lt m (by decide)
 have t:Nat.toDigits 10 (m / 10)++Nat.toDigits 10 (m % 10)=Nat.toDigits 10 (10 * (m / 10)+m % 10):=Nat.toDigits_append_toDigits (by decide) (by omega) hm
 rw [Nat.div_add_mod] at t
 have e:=Pa hm
 unfold dig at e ⊢
 rw [←t,List.map_append,e]
theorem Pb:∀(k m:Nat),m<10 ^ (k+1)→(dig m).length≤k+1
 | 0,m,h=>by rw [Pa (by simpa using h)];exact Nat.le_refl _
 | k+1,m,h=>by
  by_cases h10:m<10
  ·rw [Pa h10];show 1≤_;omega
  ·rw [Vy (by omega),List.length_append,List.length_singleton]
   have:=Pb k (m / 10) (by rw [Nat.pow_succ] at h;omega)
   omega
theorem WO (m:Nat):(PySem.Str.ofString (toString ((m:Nat):Int))).cps.toList=dig m:=PySem.W.KIN.signs_num m
end Fig
namespace L2
open PySem PySem.Spec PyProof.Rows
section
variable {X:Cx}{K:PySem.W.Frag}{w:World}{o i:Expr}{pos:Pos}{td ty:TE}
end
end L2
namespace L2
open PySem PySem.Spec PyProof.Rows
inductive F2 (Pr:V→V→Prop):List V→List V→Prop where
 | nil:F2 Pr [] []
 | cons {x y:V} {xs ys:List V} (h:Pr x y) (t:F2 Pr xs ys):F2 Pr (x::xs) (y::ys)
theorem F2.snoc {Pr:V→V→Prop}:∀{xs ys:List V}{x y:V},F2 Pr xs ys→Pr x y→F2 Pr (xs++[x]) (ys++[y])
 | [],_,_,_,h,p=>by cases h;exact .cons p .nil
 | a::xs,_,_,_,h,p=>by
  cases h with
  | cons q t=>exact .cons q (t.snoc p)
theorem F2.len {Pr:V→V→Prop}:∀{xs ys:List V},F2 Pr xs ys→xs.length=ys.length
 | [],_,h=>by cases h;rfl
 | a::xs,_,h=>by
  cases h with
  | cons q t=>simp [t.len]
theorem F2.map {f:V→V}:∀{xs ys:List V},F2 (fun x y=>y=f x) xs ys→ys=xs.map f
 | [],_,h=>by cases h;rfl
 | a::xs,_,h=>by
  cases h with
  | cons q t=>rw [q,t.map];rfl
theorem UE {J:It}{fr:List Nat}{te:TE}{σ:St}{H:Hp}{Q:VK}(xs:List V) (Pr:V→V→Prop) (hn:xs.length≤sizeLine)
  (hgo:∀i H1,AO H H1→i<xs.length→J.go i H1) (hst:∀H1,AO H H1→J.stop xs.length H1) (hy:∀i x H1 H',AO H H1→i<xs.length→J.yld i H1 x H'→H'=H1/\xs[i]?=some x)
  (hte:∀x H1 (R:VK),x∈xs→AO H H1→(∀y H2,AO H1 H2→Pr x y→R y H2)→te (some x::fr.map (pick σ)) H1 R)
  (hd:∀acc H1,AO H H1→F2 Pr xs acc→∀D,H1 D=none→Q (.ref D) (upd H1 D (.lst acc))) :
  MZ 1 fr (GN 0) Ub te σ Q J H:=by
 refine ⟨fun i m τ acc H'=>m=xs.length-i/\i≤xs.length/\AO H H'/\(∃o,τ=o::fr.map (pick σ))/\F2 Pr (xs.take i) acc,⟨xs.length,by simp,Nat.zero_le _,AO.refl H,⟨none,rfl⟩,.nil⟩,?_⟩
 rintro i m τ acc H' ⟨rfl,hi,s1,⟨o,rfl⟩,f⟩
 by_cases hlt:i<xs.length
 ·refine .inr ⟨hgo i H' s1 hlt,?_,fun x H1 y=>?_⟩
  ·have:=f.len
   rw [List.length_take] at this
   omega
  ·obtain ⟨e1,e2⟩:=hy i x H' H1 s1 hlt y
   subst e1
   have hx:x∈xs:=List.mem_of_getElem? e2
   show te (some x::fr.map (pick σ)) H1 _
   refine hte x H1 _ hx s1 fun y H2 s2 p=>⟨xs.length-(i+1),by omega,rfl,hlt,s1.trans s2,⟨some x,rfl⟩,?_⟩
   have ht:xs.take (i+1)=xs.take i++[x]:=by rw [List.take_add_one,e2];rfl
   rw [ht]
   exact f.snoc p
 ·have e:i=xs.length:=by omega
  subst e
  rw [List.take_length] at f
  exact .inl ⟨hst H' s1,hd acc H' s1 f⟩
theorem Co.u1 {k:Nat}{A:Around}(r:Co k A):A.units+1<cLine:=by have:=r.un;omega
section
variable {X:Cx}{tg:Expr}
end
section
variable {X:Cx}
end
end L2
namespace L2
open PySem PySem.Spec PyProof.Rows
section
variable {X:Cx}
theorem Ux {tg iter elt:Expr}{ifs:List Expr}{scope:Scope}{wi:TI}{g:TG}{tt:TT}{te:TE}{own:List Str}{fr:List (Str×Nat)}{pos spos py:Pos}{iy:Nat}{y:Str}
  (hN:X.N.Nodup) (hiy:X.N[iy]?=some y) (hxy:Loc X.env.scope y) (hfy:X.fn y=true\/X.env.scope.names.lookup y=some .local)
  (hc:X.calm=true) (hi:PI X tg iter wi)
  (hk:scope.kind=.function) (hcell:∀y∈scope.names,y.2≠.cell) (hnames:∀y∈scope.names,y.2=.local→scope.names.lookup y.1=some .local)
  (hfree:∀y∈scope.names,y.2=.free→X.env.kindOf y.1=some .cell\/X.env.kindOf y.1=some .free) (hfr:Nt X scope fr)
  (hg:∀C s H ex,PG (A9 X scope (own++fr.map (·.1)) C s H ex) tg g)
  (ht:∀C s H ex,PTs (A9 X scope (own++fr.map (·.1)) C s H ex) ifs tt)
  (he:∀C s H ex,PE (A9 X scope (own++fr.map (·.1)) C s H ex) elt te)
  (hsw:swapsWith (.ListComp elt [⟨tg,iter,ifs,0⟩] scope pos) (some (.Name y py)) spos.line X.env=pure true)
  (hs:∀x,foldedSetIterable iter X.env x=pure x:=by intro _;rfl) :
  PS X (.Assign [.Name y py] (.ListComp elt [⟨tg,iter,ifs,0⟩] scope pos) spos) (WL (Mv own.length (fr.map (·.2)) wi g tt te) (GN iy)):=by
 intro pins s σ H D0 I h
 rw [exec_Assign_Name_used _ _ _ _ hsw]
 refine wpAny_bind (wpAny_standAt (wpAny_bind ?_))
 refine wpAny_bind (wpAny_mono (Oa   hc hi hk hcell hnames hfree hfr hg ht he hs I h fun D C m s4 H5 v I4 hn hC hL h1 h2 h3 q=>?_) (fun _ s' hq=>wpAny_pure (wpAny_pure hq)) fun _ _ e=>e)
 refine wpAny_assign_Name (OE I4 hN hiy hxy (v:=.ref D) rfl (fun s5 I5 ⟨a,sb5,ha⟩=>?_) hfy)
 have hCa:C≠a:=by
  grind
 exact ⟨m,Heap.Ns.sameBut hn sb5 hCa,fun h' sb=>⟨_,_,I5.turned   (fun b o hb e=>(sb.2 b hb).trans e) hC hL (.inr h1) h2 h3,q⟩⟩
theorem O3 {i:Nat}{y:Str}{iter elt:Expr}{ifs:List Expr}{scope osc:Scope}{wi:TI}{tt:TT}{te:TE}{x:Str}{px py pos spos:Pos}(fr:List (Str×Nat))
  (hN:X.N.Nodup) (hiy:X.N[i]?=some y) (hxy:Loc X.env.scope y)
  (hc:X.calm=true) (hi:PI X (.Name x px) iter wi) (ho:X.env.scope=osc)
  (hk:scope.kind=.function) (hcell:∀y∈scope.names,y.2≠.cell) (hnames:∀y∈scope.names,y.2=.local→scope.names.lookup y.1=some .local)
  (hfree:∀y∈scope.names,y.2=.free→osc.names.lookup y.1=some .cell\/osc.names.lookup y.1=some .free) (hfr:Nt X scope fr)
  (hx:scope.names.lookup x=some .local) (hnd:(x::fr.map (·.1)).Nodup)
  (ht:∀C s H ex,PTs (A9 X scope (x::fr.map (·.1)) C s H ex) ifs tt)
  (he:∀C s H ex,PE (A9 X scope (x::fr.map (·.1)) C s H ex) elt te)
  (hsw:swapsWith (.ListComp elt [⟨.Name x px,iter,ifs,0⟩] scope pos) (some (.Name y py)) spos.line X.env=pure true:=by rfl)
  (hf:X.fn y=true\/X.env.scope.names.lookup y=some .local:=by first|exact .inl rfl|exact .inr rfl|assumption)
  (hs:∀x,foldedSetIterable iter X.env x=pure x:=by intro _;rfl) :
  PS X (.Assign [.Name y py] (.ListComp elt [⟨.Name x px,iter,ifs,0⟩] scope pos) spos) (WL (Mv 1 (fr.map (·.2)) wi (GN 0) tt te) (GN i)) :=
 Ux (own:=[x]) hN hiy hxy hf hc hi hk hcell hnames (fun y hy e=>by show X.env.scope.names.lookup y.1=_\/X.env.scope.names.lookup y.1=_;rw [ho];exact hfree y hy e) hfr
  (fun C s H ex=>Kq (i:=0) hnd rfl (.inl (lookup_relabel_local hx)) (.inr (lookup_relabel_local hx))) ht he hsw hs
end
end L2
namespace L2
open PySem PySem.Spec PyProof.Rows
open Sem (wp)
def Kd {α:Type}:Sem α→Prop
 | .pure _=>True
 | .raise _=>True
 | .unsupported _=>True
 | .finish _=>True
 | .rule _ k=>Kd (k ())
 | .at _ k=>Kd (k ())
 | .load _ _ k=>∀o,Kd (k o)
 | .update _ _ f k=>(∀o,(f o).dict=o.dict)/\Kd (k ())
 | .loadIfAlive _ k=>∀o,Kd (k o)
 | .point _ k=>Kd (k ())
 | .alloc _ k=>∀a,Kd (k a)
 | .fresh k=>∀t,Kd (k t)
 | .ask k=>∀t,Kd (k t)
 | .stack k=>∀l,Kd (k l)
 | _=>False
theorem Kd.bind {α β:Type}{t:Sem α}{f:α→Sem β}(h:Kd t) (g:∀a,Kd (f a)):Kd (t >>= f):=by
 induction t with
 | pure a=>exact g a
 | raise e=>trivial
 | unsupported w=>trivial
 | finish e=>trivial
 | rule t k ih=>exact ih () h
 | «at» p k ih=>exact ih () h
 | load a p k ih=>exact fun o=>ih o (h o)
 | update a p f k ih=>exact ⟨h.1,ih () h.2⟩
 | alloc o k ih=>exact fun a=>ih a (h a)
 | loadIfAlive a k ih=>exact fun o=>ih o (h o)
 | point l k ih=>exact ih () h
 | fresh k ih=>exact fun o=>ih o (h o)
 | ask k ih=>exact fun o=>ih o (h o)
 | stack k ih=>exact fun o=>ih o (h o)
 | _=>exact h.elim
def DictAt (e:Addr) (d:Option Addr) (h:Heap):Prop:=∃o,h.objs[e]?=some o/\o.dict=d
theorem DictAt.push {e:Addr}{d:Option Addr}{h:Heap}(x:DictAt e d h) (o:Obj):DictAt e d (h.push o):=by
 obtain ⟨u,hu,hd⟩:=x
 refine ⟨u,?_,hd⟩
 have hl  := (Array.getElem?_eq_some_iff.mp hu).1
 cases h with
 | mk objs l =>
  show (objs.push o)[e]?=some u
  rw [Array.getElem?_push_lt hl]
  exact (Array.getElem?_eq_getElem hl).symm.trans hu
theorem DictAt.update {e:Addr}{d:Option Addr}{h:Heap}(x:DictAt e d h) (a:Addr) {f:Obj→Obj}(hf:∀o,(f o).dict=o.dict):DictAt e d (h.update a f):=by
 obtain ⟨u,hu,hd⟩:=x
 cases h with
 | mk objs l =>
  show ∃o,(objs.modify a f)[e]?=some o/\o.dict=d
  rw [Array.getElem?_modify]
  by_cases q:a=e
  ·rw [if_pos q,hu]
   exact ⟨f u,rfl,(hf u).trans hd⟩
  ·rw [if_neg q]
   exact ⟨u,hu,hd⟩
theorem DictAt.get {e:Addr}{d:Option Addr}{h:Heap}{o:Obj}(x:DictAt e d h) (g:h.get? e=some o):o.dict=d:=by
 obtain ⟨u,hu,hd⟩:=x
 have:=(Heap.get?_some_iff.mp g).1
 rw [hu] at this
 cases this
 exact hd
theorem DictAt.of {e:Addr}{h:Heap}{o:Obj}(g:h.get? e=some o):DictAt e o.dict h:=⟨o,(Heap.get?_some_iff.mp g).1,rfl⟩
theorem Kd.wp {α:Type}{M:Model}{Γ:PySem.Ctx}{e:Addr}{d:Option Addr}{t:Sem α}:∀{Q:α→Pos→Shared→Prop}{E:Value→Pos→Shared→Prop}{p:Pos}{s:Shared},Kd t→DictAt e d s.heap→Sem.wp M Γ t Q E p s →
  Sem.wp M Γ t (fun a p s=>Q a p s/\DictAt e d s.heap) (fun a p s=>E a p s/\DictAt e d s.heap) p s:=by
 induction t with
 | pure a=>intro Q E p s h x q;exact ⟨q,x⟩
 | raise v=>intro Q E p s h x q;exact ⟨q,x⟩
 | unsupported w=>intro Q E p s h x q;exact q.elim
 | finish v=>intro Q E p s h x q;exact q.elim
 | rule t k ih=>intro Q E p s h x q;exact ih () h x q
 | «at» p' k ih=>intro Q E p s h x q;exact ih () h x q
 | load a pt k ih=>intro Q E p s h x q;obtain ⟨o,e1,q⟩:=q;exact ⟨o,e1,ih o (h o) x q⟩
 | update a pt f k ih=>intro Q E p s h x q;exact ⟨q.1,ih () h.2 (x.update a h.1) q.2⟩
 | alloc o k ih=>intro Q E p s h x q;exact ih _ (h _) (x.push o) q
 | loadIfAlive a k ih=>intro Q E p s h x q;exact ih _ (h _) x q
 | point l k ih=>intro Q E p s h x q;exact ih () h x q
 | fresh k ih=>intro Q E p s h x q;exact ih _ (h _) x q
 | ask k ih=>intro Q E p s h x q;exact ih _ (h _) x q
 | stack k ih=>intro Q E p s h x q;exact ih _ (h _) x q
 | _=>intro Q E p s h;exact h.elim
theorem Kd.any {α:Type}{M:Model}{A:Around}{e:Addr}{d:Option Addr}{t:Sem α}{Q:α→Shared→Prop}{E:Value→Shared→Prop}{s:Shared}(h:Kd t) (x:DictAt e d s.heap) (q:wpAny M A t Q E s) :
  wpAny M A t (fun a s'=>Q a s'/\DictAt e d s'.heap) (fun v s'=>E v s'/\DictAt e d s'.heap) s:=fun Γ p hΓ=>h.wp x (q Γ p hΓ)
theorem PV (a:Addr):Kd (load a):=fun _=>trivial
theorem NW:Kd stack:=fun _=>trivial
theorem Qm (v:Value):Kd (fieldsOf v):=by
 unfold fieldsOf
 split
 ·refine Kd.bind (PV _) fun o=>?_
  split <;> trivial
 ·trivial
theorem Kz (v:Value) (i:Nat):Kd (field v i):=by
 refine Kd.bind (Qm v) fun o=>?_
 split <;> trivial
theorem Nf (f:Array Value→Array Value) (o:Obj):(Obj.mapFields f o).dict=o.dict:=by
 unfold Obj.mapFields
 split <;> rfl
theorem Im (v:Value) (i:Nat) (x:Value):Kd (setField v i x):=by
 unfold setField
 split
 ·refine Kd.bind (PV _) fun o=>?_
  split
  ·split
   ·exact ⟨Nf _,trivial⟩
   ·trivial
  ·trivial
 ·trivial
theorem N0 (f:Addr) (b:Bool):Kd (entryPlaceOf f b):=by
 refine Kd.bind NW fun o=>?_
 split <;> trivial
theorem Ql:∀l:List Env,Kd (readyFrames l)
 | []=>trivial
 | env::outer=>by
  unfold readyFrames
  split
  ·refine Kd.bind (PV _) fun o=>?_
   split
   ·trivial
   ·refine Kd.bind ?_ fun b=>Kd.bind ?_ fun v=>?_
    ·unfold behindIsImport
     split
     ·trivial
     ·split
      ·trivial
      ·exact Kd.bind (Kz _ _) fun _=>trivial
    ·unfold keptBack
     split
     ·split
      ·trivial
      ·exact Kd.bind (Kd.bind NW fun _=>trivial) fun _=>trivial
     ·trivial
    ·exact ⟨fun _=>rfl,Ql _⟩
  ·trivial
theorem Ro (env:Env):Kd (PySem.frameOf env):=by
 refine Kd.bind (Kd.bind NW fun _=>trivial) fun l=>Kd.bind ?_ fun o=>?_
 ·unfold frameObject
  split
  ·trivial
  ·exact Kd.bind (Ql _) fun _=>trivial
 ·split <;> trivial
theorem Vh (a b c d e:Value) (l:List Value):Kd (EntryCells.newEntry a b c d e l):=by
 unfold EntryCells.newEntry newFields newObj
 have k:∀vs:Array _,Kd (newObjAsIs (.type "traceback") (.fields vs)):=fun vs=>by
  exact Kd.bind (fun _=>trivial) fun _=>trivial
 dsimp only
 split <;> split <;> first|trivial|exact k _
theorem Sx (e:Value) (env:Env):Kd (noteFrame e env):=by
 unfold noteFrame
 split
 ·rename_i f _
  refine Kd.bind (Kz _ _) fun hd=>?_
  have k:∀x:Value,Kd (do let a ← PySem.frameOf env;let pl ← entryPlaceOf f (x != .none);let b ← EntryCells.newEntry x a .none (rawInt f) .none pl;setField e 1 b):=fun x =>
   Kd.bind (Ro _) fun _=>Kd.bind (N0 _ _) fun _=>Kd.bind (Vh _ _ _ _ _ _) fun _=>Im _ _ _
  split
  ·refine Kd.bind (Kz _ _) fun y=>?_
   split
   ·trivial
   ·exact Kd.bind (Im _ _ _) fun _=>k hd
  ·exact k hd
 ·trivial
theorem Lh (e:Value) (fr:Option Addr):Kd (setFlight e fr):=by
 refine Kd.bind (Kz _ _) fun _=>?_
 split
 ·exact Im _ _ _
 ·trivial
theorem NX (env:Env) (e:Value):Kd (leaving env e):=Kd.bind (Sx _ _) fun _=>Lh _ _
section
variable {M:Model}{A:Around}{E:Value→Shared→Prop}{s:Shared}{base:Heap}{env:Env}{outer l:List Env}{L e:Addr}{cls a0:Value}{dd:Option Addr}{Q:Unit→Shared→Prop}
theorem Rn (hfr:A.frames=some (env::outer)) (hf:env.frame=some L) (fly:Heap.FlyingW base (env::outer) e cls a0 s.heap) (hd:DictAt e dd s.heap)
  (k:∀h',Heap.FlyingW base outer e cls a0 h'→s.heap.UpToSlots h'→DictAt e dd h'→Q () { s with heap:=h' }):wpAny M A (leaving env (.ref e)) Q E s:=by
 refine wpAny_mono (Kd.any (NX _ _) hd (wpAny_leaves_onW (Q:=fun _ s3=>∃h',s3={ s with heap:=h' }/\Heap.FlyingW _ _ e _ a0 h'/\s.heap.UpToSlots h') (E:=fun _ _=>False) hfr hf fly fun h' x y=>⟨h',rfl,x,y⟩)) (fun _ s3 q=>?_) fun _ _ z=>z.1.elim
 obtain ⟨⟨h',rfl,x,y⟩,z⟩:=q
 exact k h' x y z
theorem Nz {oe:Obj}{vs:Array Value}(hfr:A.frames=some (env::outer)) (hl:s.heap.FunFrames base (env::outer)) (hf:env.frame=some L) (he:s.heap.get? e=some oe) (hkb:base.StaysIn s.heap)
  (hen:base.get? e=none) (hd:oe.data=.fields vs) (h1:vs[1]?=some .none) (h0:vs[0]?=some a0)
  (k:∀h',Heap.FlyingW base outer e oe.cls a0 h'→s.heap.UpToSlots h'→DictAt e oe.dict h'→Q () { s with heap:=h' }):wpAny M A (leaving env (.ref e)) Q E s:=by
 refine wpAny_mono (Kd.any (NX _ _) (DictAt.of he) (wpAny_leaving_firstW (Q:=fun _ s3=>∃h',s3={ s with heap:=h' }/\Heap.LeftW _ _ e _ a0 _ h') (E:=fun _ _=>False) hfr hl hf he hkb hen hd h1 h0 fun h' x=>⟨h',rfl,x⟩)) (fun _ s3 q=>?_) fun _ _ z=>z.1.elim
 obtain ⟨⟨h',rfl,k1,⟨_,_,k2⟩,k3,k4⟩,z⟩:=q
 exact k h' ⟨k1,hen,k2,k3⟩ k4 z
theorem T5 (hfr:A.frames=some (env::outer)) (hf:env.frame=some L) (fly:Heap.FlyingW base (env::outer) e cls a0 s.heap) (hd:DictAt e dd s.heap)
  (k:∀h',Heap.HeldW base (env::outer) e cls a0 L h'→s.heap.UpToSlots h'→DictAt e dd h'→Q () { s with heap:=h' }):wpAny M A (noteFrame (.ref e) env) Q E s:=by
 refine wpAny_mono (Kd.any (Sx _ _) hd (wpAny_looks_onW (Q:=fun _ s3=>∃h',s3={ s with heap:=h' }/\Heap.HeldW _ _ e _ a0 L h'/\s.heap.UpToSlots h') (E:=fun _ _=>False) hfr hf fly fun h' x y=>⟨h',rfl,x,y⟩)) (fun _ s3 q=>?_) fun _ _ z=>z.1.elim
 obtain ⟨⟨h',rfl,x,y⟩,z⟩:=q
 exact k h' x y z
theorem Yu (hh:Heap.HeldW base l e cls a0 L s.heap) (hd:DictAt e dd s.heap)
  (k:∀h',Heap.FlyingW base l e cls a0 h'→s.heap.UpToSlots h'→DictAt e dd h'→Q () { s with heap:=h' }):wpAny M A (setFlight (.ref e) none) Q E s:=by
 refine wpAny_mono (Kd.any (Lh _ _) hd (wpAny_landsW (Q:=fun _ s3=>∃h',s3={ s with heap:=h' }/\Heap.FlyingW _ l e _ a0 h'/\s.heap.UpToSlots h') (E:=fun _ _=>False) hh fun h' x y=>⟨h',rfl,x,y⟩)) (fun _ s3 q=>?_) fun _ _ z=>z.1.elim
 obtain ⟨⟨h',rfl,x,y⟩,z⟩:=q
 exact k h' x y z
theorem PU (hh:Heap.FlyingW base l e cls a0 s.heap) (hd:DictAt e dd s.heap)
  (k:∀h',Heap.FlyingW base l e cls a0 h'→s.heap.UpToSlots h'→DictAt e dd h'→Q () { s with heap:=h' }):wpAny M A (setFlight (.ref e) none) Q E s:=by
 refine wpAny_mono (Kd.any (Lh _ _) hd (lands_againW (Q:=fun _ s3=>∃h',s3={ s with heap:=h' }/\Heap.FlyingW _ l e _ a0 h'/\s.heap.UpToSlots h') (E:=fun _ _=>False) hh fun h' x y=>⟨h',rfl,x,y⟩)) (fun _ s3 q=>?_) fun _ _ z=>z.1.elim
 obtain ⟨⟨h',rfl,x,y⟩,z⟩:=q
 exact k h' x y z
end
end L2
namespace L2
open PySem PySem.Spec PyProof.Rows
def CXF (P:Program) (w:World):CXT:=fun outer H s E e' s'=>∃(e:Addr) (C a0:Value) (H':Hp) (B:Heap) (dd:Option Addr),
 e'=.ref e/\s'.os=s.os/\AllBare s'.gens/\HOk P w H' B/\Heap.FlyingW B outer e C a0 s'.heap/\Un (frs outer) [] H H' s.heap s'.heap /\
 (∀b o,s.heap.get? b=some o→b∉frs outer→∃o',B.get? b=some o'/\(H b=none→o'=o))/\DictAt e dd s'.heap/\E C dd H'
theorem Un.TQ {fs ex:List Addr}{H H':Hp}{h h1 h2:Heap}(u:Un fs ex H H' h h1) (up:h1.UpToSlots h2) (frm:∀b o,h1.get? b=some o→b∈fs→∀vs,o.data≠.fields vs)
  (cov:∀b o,h.get? b=some o→b∉fs→∃o',h2.get? b=some o'/\(H b=none→o'=o)):Un fs ex H H' h h2 where
 keep:=fun b o e n hb hx=>by
  obtain ⟨o',e',q⟩:=cov b o e hb
  rw [e',q n]
 slot:=fun b o e n hb hx=>by
  obtain ⟨sl,e1⟩:=u.slot b o e n hb hx
  obtain ⟨sl2,e2⟩:=up b _ e1 (frm b _ e1 hb)
  exact ⟨sl2,e2⟩
 free:=u.free
 there:=fun b o e hx=>by
  by_cases hb:b∈fs
  ·obtain ⟨o1,e1⟩:=u.there b o e hx
   obtain ⟨sl2,e2⟩:=up b _ e1 (frm b _ e1 hb)
   exact ⟨_,e2⟩
  ·obtain ⟨o',e',_⟩:=cov b o e hb
   exact ⟨o',e'⟩
 KP:=u.KP
 KI:=u.KI
 KQ:=u.KQ
section
variable {P:Program}{w:World}{K:PySem.W.Frag}{mg:Str→Option Value}{base:Heap}{N:List Str}{qual:Str}{scope:Scope}{f:Addr}{cd:Value}{A:Around}{outer:List Env}{s₀:Shared}{H₀:Hp}{E E':XK}
theorem Z1 (hE:∀C dd H',E C dd H'→E' C dd H'):Passes (CXF P w) (Di (CXF P w) P w K mg base N qual scope f cd A outer s₀ H₀ E') E:=by
 rintro pins σ H s e' s' I ⟨e,C,a0,H',B,dd,rfl,os,bare,hokB,fly,un,cov,hdd,q⟩
 have I':=I.TL   os un (hokB.kept fly.1) bare fun b hb=>absurd hb (by simp)
 have hfr:=I.ok.frames
 refine Rn hfr rfl fly hdd fun h' fly' up hdd'=>⟨e,C,a0,H',B,dd,rfl,os.trans I.os,bare,hokB,fly',?_,?_,hdd',hE C dd H' q⟩
 ·have lt0:∀b o,s₀.heap.get? b=some o→b∉frs _→b∉frs (envOfC qual scope _ f cd::outer):=fun b o e1 hb hm=>by
   rcases List.mem_cons.mp hm with z|z
   ·rw [z] at e1
    exact Nat.lt_irrefl _ (Heap.lt_size e1)
   ·exact hb z
  refine Un.TQ I'.base up (fun b o e1 hb=>?_) fun b o e1 hb=>?_
  ·have:=(fly.2.2.1.mem  (show b∈s₀.heap.objs.size::frs _ from List.mem_cons_of_mem _ hb)).2
   obtain ⟨o1,e2,h2⟩:=this
   rw [e1] at e2
   cases e2
   exact h2
  ·by_cases n:H₀ b=none
   ·have e2:=I.base.keep b o e1 n hb (by simp [Di])
    have n2:=I.base.free b o e1 n (by simp [Di])
    obtain ⟨o',e3,q3⟩:=cov b o e2 (lt0 b o e1 hb)
    exact ⟨o',fly'.1 _ _ e3,fun _=>q3 n2⟩
   ·obtain ⟨o2,e2⟩:=I.base.there b o e1 (by simp [Di])
    obtain ⟨o',e3,_⟩:=cov b o2 e2 (lt0 b o e1 hb)
    exact ⟨o',fly'.1 _ _ e3,fun z=>absurd z n⟩
 ·intro b o e1 hb
  have hb2:b∉frs (envOfC qual scope _ f cd::outer):=fun hm=>by
   rcases List.mem_cons.mp hm with z|z
   ·rw [z] at e1
    exact Nat.lt_irrefl _ (Heap.lt_size e1)
   ·exact hb z
  by_cases n:H₀ b=none
  ·have e2:=I.base.keep b o e1 n hb (by simp [Di])
   have n2:=I.base.free b o e1 n (by simp [Di])
   obtain ⟨o',e3,q3⟩:=cov b o e2 hb2
   exact ⟨o',e3,fun _=>q3 n2⟩
  ·obtain ⟨o2,e2⟩:=I.base.there b o e1 (by simp [Di])
   obtain ⟨o',e3,_⟩:=cov b o2 e2 hb2
   exact ⟨o',e3,fun z=>absurd z n⟩
end
end L2
namespace L2
open PySem PySem.Spec PyProof.Rows
section
variable {X:Cx}{pins:List (Addr×Obj)}{σ:St}{H H':Hp}{s s':Shared}{B h':Heap}
theorem Inv.TQ (I:Inv X pins σ H s) (I':Inv X pins σ H' s') (hnc:X.env.cells=[]) (hex:X.ex=[]) (hst:X.stack=X.env::X.outer) (hfl:X.env.frame=some X.env.locals)
  (cov:∀b o,s.heap.get? b=some o→b∉frs X.stack→∃o',B.get? b=some o'/\(H b=none→o'=o)) (hokB:HOk X.prog X.w H' B) (KU:B.StaysIn h') (up:s'.heap.UpToSlots h')
  (FF:s'.heap.FunFrames B X.stack):Inv X pins σ H' { s' with heap:=h' }:=by
 have inS:∀b,b∈frs X.stack↔b=X.env.locals\/b∈X.fs:=fun b=>by
  rw [hst]
  unfold frs
  rw [List.filterMap_cons,hfl]
  exact List.mem_cons
 have nofl:∀b o,s'.heap.get? b=some o→b∈frs _→∀vs,o.data≠.fields vs:=fun b o e hb=>by
  obtain ⟨_,o1,e1,q⟩:=FF.mem  hb
  rw [e] at e1;cases e1
  exact q
 refine ⟨I'.ok,I'.os,I'.bare,?_,?_,fun x c z=>?_,I'.free,I'.Fy,fun p hp=>?_,hokB.kept KU,I'.len⟩
 ·refine Un.TQ I'.base up (fun b o e hb=>nofl b o e ((inS b).mpr (.inr hb))) fun b o e hb=>?_
  have hb2:b∉frs _:=fun z=>by
   rcases (inS b).mp z with q|q
   ·rw [q] at e
    exact absurd (Nat.lt_of_lt_of_le (Heap.lt_size e) I.ok.above) (Nat.lt_irrefl _)
   ·exact hb q
  by_cases n:X.H₀ b=none
  ·by_cases hx:b∈X.ex
   ·rw [hex] at hx;cases hx
   ·have e2:=I.base.keep b o e n hb hx
    have n2:=I.base.free b o e n hx
    obtain ⟨o',e3,q3⟩:=cov b o e2 hb2
    exact ⟨o',KU _ _ e3,fun _=>q3 n2⟩
  ·by_cases hx:b∈X.ex
   ·rw [hex] at hx;cases hx
   ·obtain ⟨o2,e2⟩:=I.base.there b o e hx
    obtain ⟨o',e3,_⟩:=cov b o2 e2 hb2
    exact ⟨o',KU _ _ e3,fun z=>absurd z n⟩
 ·obtain ⟨m,hn,hl⟩:=I'.loc
  refine ⟨m,up.ns hn,fun i x v e1 e2 e3=>?_⟩
  obtain ⟨u,r,l⟩:=hl i x v e1 e2 e3
  refine ⟨u,r,?_⟩
  rcases l with l|⟨_,c,ec,_⟩
  ·exact .inl l
  ·rw [hnc] at ec;cases ec
 ·rw [hnc] at z;cases z
 ·obtain ⟨a1,a2,a3,a4,a5⟩:=I'.pin p hp
  obtain ⟨b1,b2,b3,b4,b5⟩:=I.pin p hp
  obtain ⟨o',e3,q3⟩:=cov _ _ b1 fun z=>((inS _).mp z).elim a3 a4
  have:=KU _ _ e3
  rw [q3 b2] at this
  exact ⟨this,a2,a3,a4,a5⟩
end
end L2
namespace L2
open PySem PySem.Spec PyProof.Rows
section
variable {X:Cx}{pins:List (Addr×Obj)}{σ:St}{H:Hp}{s:Shared}
theorem name_goes {M:Model}{A:Around}{E:Value→Shared→Prop}{i:Nat}{x:Str}{pos:Pos}{Q:Unit→Shared→Prop}(I:Inv X pins σ H s) (hN:X.N.Nodup) (hi:X.N[i]?=some x) (hk:X.env.kindOf x=some .local)
  (h:∀s',Inv X pins (σ.set i none) H s'→Q () s'):wpAny M A (do bindName X.env x .none;unbindBehindTheSuite X.env x pos) Q E s:=by
 obtain ⟨m,hn,hl⟩:=id I.loc
 have hcls:(X.env.scope.kind==.class||(X.env.scope.kind==.module&&X.env.locals != X.env.globals))=false:=by rw [I.ok.kind];rfl
 have hiσ:i < σ.length:=by rw [I.len];exact (List.getElem?_eq_some_iff.mp hi).1
 have cne:=I.cne
 refine wpAny_nameGoes_keeps hk hn hcls fun h' v hn' hs=>h _ ?_
 obtain ⟨oL,_,_,hoL,_⟩:=id hn
 have hok':HOk X.prog X.w H h':=fun b ob e=>by
  refine (I.hok b ob e).KU (fun c w' hc q=>(hs.2 c ?_).trans q) (fun _ q=>q) fun _ _ q=>q
  rintro rfl
  rcases hc with rfl|hc
  ·rw [I.free] at e;cases e
  ·rw [I.free] at hc;cases hc
 refine ⟨I.ok,I.os,I.bare,⟨fun b o e n hb hx=>?_,fun b o e n hb hx=>?_,I.base.free,fun b o e hx=>?_,I.base.KP,I.base.KI,I.base.KQ⟩,⟨_,hn',fun j y v' e1 e2 e3=>?_⟩,fun y c e=>?_,I.free,I.Fy,fun p hp=>?_,hok',by simpa using I.len⟩
 ·exact (hs.2 b (Nat.ne_of_lt (Nat.lt_of_lt_of_le (Heap.lt_size e) I.ok.above))).trans (I.base.keep b o e n hb hx)
 ·obtain ⟨sl,e1⟩:=I.base.slot b o e n hb hx
  exact ⟨sl,(hs.2 b (Nat.ne_of_lt (Nat.lt_of_lt_of_le (Heap.lt_size e) I.ok.above))).trans e1⟩
 ·obtain ⟨o',e1⟩:=I.base.there b o e hx
  exact ⟨o',(hs.2 b (Nat.ne_of_lt (Nat.lt_of_lt_of_le (Heap.lt_size e) I.ok.above))).trans e1⟩
 ·by_cases hj:j=i
  ·subst hj
   rw [List.getElem?_set_self hiσ] at e2
   cases e2
  ·rw [List.getElem?_set_ne (Ne.symm hj)] at e2
   obtain ⟨u',r',q⟩:=hl j y v' e1 e2 e3
   refine ⟨u',r',?_⟩
   rcases q with ⟨k,e⟩|⟨k,c,e,z⟩
   ·refine .inl ⟨k,?_⟩
    have:y≠x:=fun e=>hj (NP hN e1 (e ▸ hi))
    simp [this,e]
   ·exact .inr ⟨k,c,e,z.sameBut hs (cne y c e)⟩
 ·obtain ⟨w',z⟩:=I.cell y c e
  exact ⟨w',z.sameBut hs (cne y c e)⟩
 ·obtain ⟨e,n,ne,nf,d⟩:=I.pin p hp
  exact ⟨(hs.2 p.1 ne).trans e,n,ne,nf,d⟩
def Cx.Hr (X:Cx) (e:Addr):Cx:={ X with A:=X.A.mark (some (.ref e)),calm:=false,xe:=fun _ _=>False }
theorem Inv.Hr (I:Inv X pins σ H s) (e:Addr):Inv (X.Hr e) pins σ H s :=
 ⟨⟨I.ok.mod,I.ok.kind,I.ok.glob,I.ok.blt,I.ok.above,I.ok.inj,I.ok.has,I.ok.cab,(fun z=>by cases z),I.ok.frames,I.ok.stk,I.ok.exf,I.ok.bs,I.ok.bsz,I.ok.QS,I.ok.Qr,I.ok.Io,I.ok.frf⟩,I.os,I.bare,I.base,I.loc,I.cell,I.free,I.Fy,I.pin,I.hok,I.len⟩
theorem Inv.uncaught {e:Addr}(I:Inv (X.Hr e) pins σ H s) (hc:X.calm=true→X.A.handled=none):Inv X pins σ H s :=
 ⟨⟨I.ok.mod,I.ok.kind,I.ok.glob,I.ok.blt,I.ok.above,I.ok.inj,I.ok.has,I.ok.cab,hc,I.ok.frames,I.ok.stk,I.ok.exf,I.ok.bs,I.ok.bsz,I.ok.QS,I.ok.Qr,I.ok.Io,I.ok.frf⟩,I.os,I.bare,I.base,I.loc,I.cell,I.free,I.Fy,I.pin,I.hok,I.len⟩
def SE (e:Addr) (C:Value) (dd:Option Addr):HO:=.ext fun h=>∃o,h.get? e=some o/\o.cls=C/\o.dict=dd/\∃vs,o.data=.fields vs
theorem Inv.Vr {e:Addr}{C:Value}{dd:Option Addr}(I:Inv X pins σ H s) (he:∃o,s.heap.get? e=some o/\o.cls=C/\o.dict=dd/\∃vs,o.data=.fields vs) (hn:H e=none) (h0:∀o,X.s₀.heap.get? e≠some o) (hL:e≠X.env.locals) (hc:∀x c,X.env.cells.lookup x=some c→c≠e) (hp:∀p∈X.pn++pins,p.1≠e) :
  Inv X pins σ (upd H e (SE e C dd)) s:=by
 have ne:∀b o,H b=some o→b≠e:=fun b o z q=>by rw [q,hn] at z;cases z
 refine ⟨I.ok,I.os,I.bare,⟨I.base.keep,I.base.slot,fun b o e1 n hx=>?_,I.base.there,fun b xs z=>?_,fun b o u z=>?_,fun b ps z=>?_⟩,I.loc,I.cell,?_,fun x c z=>?_,fun p q=>?_,?_,I.len⟩
 ·have q:b≠e:=fun q=>h0 o (by rw [←q];exact e1)
  rw [AM q];exact I.base.free b o e1 n hx
 ·have:=I.base.KP b xs z;rw [AM (ne _ _ this)];exact this
 ·have:=I.base.KI b o u z;rw [AM (ne _ _ this)];exact this
 ·obtain ⟨more,q⟩:=I.base.KQ b ps z;exact ⟨_,by rw [AM (ne _ _ q)];exact q⟩
 ·rw [AM hL.symm];exact I.free
 ·rw [AM (hc x c z)];exact I.Fy x c z
 ·obtain ⟨a1,a2,a3,a4,a5⟩:=I.pin p q
  exact ⟨a1,by rw [AM (hp p q)];exact a2,a3,a4,a5⟩
 ·obtain ⟨o,ho,hcls⟩:=he
  exact I.hok.UZ hn ⟨⟨o,ho,hcls⟩,⟨o,ho⟩,fun h1 h2 ⟨o,e1,r1⟩ k=>⟨o,k o e1,r1⟩⟩
end
end L2
namespace L2
open PySem PySem.Spec PyProof.Rows
theorem BJ.got {P:Program}{w:World}{H:Hp}{h:Heap}{a:Addr}{o:HO}(x:BJ P w H h a o):∃ob,h.get? a=some ob:=by
 cases o with
 | lst xs=>obtain ⟨_,_,_,_,e⟩:=x;exact ⟨_,e⟩
 | tup xs=>obtain ⟨_,_,_,ob,e,_⟩:=x;exact ⟨_,e⟩
 | dK kvs=>obtain ⟨_,_,_,_,o,_,_,e,_⟩:=x;exact ⟨_,e⟩
 | dT kvs=>obtain ⟨_,_,_,_,o,_,_,e,_⟩:=x;exact ⟨_,e⟩
 | set S n=>obtain ⟨o,_,_,_,e,_⟩:=x;exact ⟨_,e⟩
 | ins C dx fs=>obtain ⟨_,_,_,e,_⟩:=x;exact ⟨_,e⟩
 | own y=>obtain ⟨_,e⟩:=x;exact ⟨_,e⟩
 | xd fs=>obtain ⟨_,⟨_,_,_,e,_⟩,_⟩:=x;exact ⟨_,e⟩
 | rng lo hi=>obtain ⟨_,_,_,e⟩:=x;exact ⟨_,e⟩
 | frz ob u=>obtain ⟨e,_⟩:=x;exact ⟨_,e⟩
 | tbl ps=>exact ⟨_,(show h.get? a=some _ from x)⟩
 | met f y=>exact ⟨_,(show h.get? a=some _ from x)⟩
 | ext φ=>obtain ⟨_,⟨_,e⟩,_⟩:=x;exact ⟨_,e⟩
end L2
namespace L2
open PySem PySem.Spec PyProof.Rows
theorem Fun.okX {P:Program}{w:World}{K:PySem.W.Frag}{mg:Str→Option Value}{base:Heap}{x qual:Str}{st:Stmt}{f:Addr}{fd:FuncData}{N ps:List Str}{k:Nat}{sp:Sp}(F:Fun K x qual st f fd) (S:AR N ps (AH st)) (len:∀vs H Q E,sp vs H Q E→vs.length=ps.length)
  (hbody:∀(cdv:Value) (A:Around) (outer:List Env) (s:Shared) (H:Hp) (vs:List V) (Q:VK) (E:XK),Co k (A.deeper (envOfC qual (AH st) s.heap.objs.size f cdv))→sp vs H Q E →
   ∃t,PSs (Di (CXF P w) P w K mg base N qual (AH st) f cdv A outer s H E) (Ho st) t/\t { nx:=fun _ H'=>Q .non H',rt:=Q } (start N vs) H):Ao P w K mg base (CXF P w) (k+1) f fd ps sp:=by
 obtain ⟨oc,od,kV,doc,pm,an,cdv,ct,osl,rfl,lk,hcd⟩:=F.ex
 refine Xx lk hcd S len fun A outer s H vs Q E hr hsp=>?_
 obtain ⟨t,h,q⟩:=hbody _ A _ s H vs Q E hr hsp
 exact ⟨t,h,q⟩
end L2
namespace L2
open PySem PySem.Spec PyProof.Rows
theorem Bo {α β:Type}{F:α→β→Prop}:∀{l₁:List α}{l₂:List β},l₁.length=l₂.length→(∀(i:Nat) a b,l₁[i]?=some a→l₂[i]?=some b→F a b)→Paired F l₁ l₂
 | [],[],_,_=>.nil
 | a::l₁,b::l₂,hl,h=>.cons (h 0 a b rfl rfl) (Bo (by grind) fun i x y hx hy=>h (i+1) x y (by grind) (by grind))
section
variable {X:Cx}
theorem UJ {K:PySem.W.Frag}(hc:X.calm=true) (hK:X.K=K:=by rfl):DT X (.builtin "min") (fun xs H Q=>∃(p:Addr) (ns:List Int),xs=[.ref p]/\SqL K H p (ns.map V.int)/\0<ns.length/\∀M,M∈ns→(∀a,a∈ns→M≤a)→Q (.int M) H):=by
 subst hK
 intro pins s σ H xs us Q I r h
 obtain ⟨p,ns,rfl,hq,hne,q⟩:=h
 obtain ⟨u,rfl,ru⟩:=vals1 r
 cases ru
 obtain ⟨its,rv,pl,hz⟩:=I.list hq
 have hi:=intsAre_of rv
 obtain ⟨zs,e⟩:=hi.allInts.items
 have hns:ns=zs.toList.map (·.1):=by
  rw [←nums_intItems,←e]
  exact (show numsOf _=ns from hi.numsOf).symm
 have hsz:0<zs.size:=by
  grind
 have hl  := e ▸ pl.isList
 refine min_intList (I.ok.hd hc) hl hsz fun v h' tk hv hk=>?_
 obtain ⟨t,rfl⟩:=intItems_at hv
 obtain ⟨h1,h2⟩:=argBest_lt (numAt zs) (zs.size-1)
 refine ⟨.int _,H,I.kept  hk,⟨_,rfl⟩,q _ ?_ fun a ha=>?_⟩
 ·rw [numAt_eq];grind
 ·rw [hns] at ha
  obtain ⟨j,hj,rfl⟩:=mem_getD ha
  rw [←numAt_eq];grind
end
end L2
namespace L2
open PySem PySem.Spec PyProof.Rows
theorem HOk.others {P:Program}{w:World}{H:Hp}{h h':Heap}(l:List Addr) (x:HOk P w H h) (hn:∀a∈l,H a=none) (k:∀b u,b∉l→h.get? b=some u→h'.get? b=some u):HOk P w H h':=by
 intro b u e
 refine (x b u e).KU (fun c v hc q=>k c v ?_ q) (fun _ q=>q) fun _ _ q=>q
 grind
def Ite (K:PySem.W.Frag) (a:Addr):It :=
 ⟨fun i H=>∃xs x,SqL K H a xs/\xs[i]?=some x,fun i H x H'=>∃p y,x=.ref p/\H p=none/\H'=upd H p (.tup [.int (i:Int),y])/\∀xs,SqL K H a xs→xs[i]?=some y,fun i H=>∃xs,SqL K H a xs/\xs.length≤i⟩
theorem TU {P:Program}{w:World}{K:PySem.W.Frag}{elts:List Expr}{x1}{tpos:Pos}(a e it:Addr) (hne:e≠it) :
  Turn P w K (.Tuple elts x1 tpos) (Ite K a) [e,it] e (fun i h=>(∃old,IsEnum h e it i old)/\h.IsListIter it a i) where
 mem:=by simp
 obj:=fun i h st b hb=>by
  obtain ⟨⟨old,he⟩,o,e2,c,d⟩:=st
  grind
 keep:=fun i h h' st k=>by
  obtain ⟨⟨old,he⟩,st⟩:=st
  exact ⟨(by grind),st.at (by grind)⟩
 item:=by
  intro X hP hw hK hc i pins s σ H E I hf st hg
  subst hP hw hK
  obtain ⟨xs,x,hq,hx⟩:=hg
  obtain ⟨its,rv,p,hz⟩:=I.list hq
  obtain ⟨u,hu,ru⟩:=rv.get hx
  obtain ⟨⟨old,he⟩,hit⟩:=st
  obtain ⟨f0,f1,f2,f3,f4,f5⟩:=hf e (by simp)
  obtain ⟨g0,g1,g2,g3,g4,g5⟩:=hf it (by simp)
  have elt:e<s.heap.objs.size:=Heap.lt_size he
  have ilt:it<s.heap.objs.size:=by obtain ⟨o,q,_⟩:=id hit;exact Heap.lt_size q
  refine wpAny_pyNext_enum_item he hit p.isList (x:=u) (by simpa using hu) hne fun h' eo hit' ht hsz kk=>⟨_,rfl,wpAny_letOwnedTupleGo_enum eo fun h2 he2 sb=>?_⟩
  have hp:H s.heap.objs.size=none:=I.hok.fresh (Nat.le_refl _)
  have pe:s.heap.objs.size≠e:=Nat.ne_of_gt elt
  have kk2:∀b o,b∉[e,it]→s.heap.get? b=some o→h2.get? b=some o:=fun b o hb q=>by
   have b1:b≠e:=fun z=>hb (by simp [z])
   have b2:b≠it:=fun z=>hb (by simp [z])
   exact (sb.2 b b1).trans (kk b o b1 b2 q)
  have hit2:h2.IsListIter it a (i+1):=by
   obtain ⟨o,q,c,d⟩:=id hit'
   exact ⟨o,(sb.2 it (fun z=>hne z.symm)).trans q,c,d⟩
  have ht2  := (sb.2 _ pe).trans ht
  have hok:HOk X.prog X.w (upd H s.heap.objs.size (.tup [.int (i:Int),x])) h2:=by
   refine (I.hok.others [e,it] (fun b hb=>(hf b hb).1) kk2).UZ hp ?_
   exact ⟨show 2≤sizeLine by decide,[.int i s.toks,u],.cons ⟨_,rfl⟩ (.cons ru .nil),⟨_,ht2,rfl,_,rfl⟩⟩
  have un:Un (frs X.stack) [e,it] H (upd H s.heap.objs.size (.tup [.int (i:Int),x])) s.heap h2:=by
   refine ⟨(by grind),fun b o q n hb hx=>⟨o.slots,kk2 b o hx q⟩,fun b o q n hx=>?_,(by grind),fun b ys q=>?_,fun b o u q=>?_,fun b ps q=>?_⟩
   ·rw [AM (Nat.ne_of_lt (Heap.lt_size q))];exact n
   ·rw [AM (Af q hp)];exact q
   ·rw [AM (Af q hp)];exact q
   ·exact ⟨#[],by rw [AM (Af q hp),Array.append_empty];exact q⟩
  have I2  :=
   I.TL (s':={ s with heap:=h2,toks:=s.toks+1 }) (ch:=[e,it]) rfl un hok I.bare (by grind)
  refine ⟨.ref s.heap.objs.size,_,I2,rfl,⟨_,x,rfl,hp,rfl,fun ys hy=>by rw [I.Qg hy hq];exact hx⟩,⟨⟨u,?_⟩,hit2⟩,fun b hb=>?_⟩
  ·grind
  ·have hb':b≠s.heap.objs.size:=(by grind)
   rw [AM hb']
   exact (hf b hb).1
 done:=by
  intro X hP hw hK hc i pins s σ H E I hf st hg
  subst hP hw hK
  obtain ⟨xs,hq,hx⟩:=hg
  obtain ⟨its,rv,p,hz⟩:=I.list hq
  obtain ⟨⟨old,he⟩,hit⟩:=st
  obtain ⟨f0,f1,f2,f3,f4,f5⟩:=hf it (by simp)
  have hl:=rv.length
  exact wpAny_pyNext_enum_end (I.ok.hd hc) he hit p.isList (by simp;omega) fun h' eb=>⟨rfl,I.turned (t':=s.toks) (fun b o hb e=>eb b o hb e) f0 f1 f3 f4 f5⟩
 self:=fun _ _ _ _ _ st h=>by
  obtain ⟨⟨old,he⟩,_⟩:=st
  exact wpAny_pyIter_enum he h
section
variable {X:Cx}
def aR (K:PySem.W.Frag) (tl:TE):TI:=fun σ H R=>tl σ H fun x H1=>∃a,x=.ref a/\(∃xs,SqL K H1 a xs)/\R (Ite K a) H1
theorem O4 {K:PySem.W.Frag}{l:Expr}{tl:TE}{elts:List Expr}{x1}{tpos p pos:Pos}(hg:Gl X "enumerate") (hm:X.mg "enumerate" = none) (hl:PE X l tl) (hK:X.K=K:=by rfl)
  (hs:starEach [l] X.env=[(false,eval l X.env)]:=by rfl):PI X (.Tuple elts x1 tpos) (.Call (.Name "enumerate" p) [l] [] pos) (aR K tl):=by
 subst hK
 intro pins s σ H R I h
 refine Call_ (Ld I hg hm boot_enumerate (PyProof.Rows.callWith_type1 ?_ hs rfl))
 rw [hs]
 refine Calls.spliced_cons (thn (hl _ s σ H _ I h) fun v s1 ⟨x,H1,I1,r1,q1⟩=>?_)
 refine Calls.spliced_nil ?_
 obtain ⟨a,e,⟨xs,hq⟩,q⟩:=q1
 subst e
 cases r1
 obtain ⟨its,rv,p,hz⟩:=I1.list hq
 refine call_enumerate_list p.isList fun h' he hit hsz kk=>?_
 have I2  := I1.kept (t':=s1.toks) kk
 refine wpAny_pyIter_enum he ?_
 refine ⟨_,[s1.heap.objs.size+1,s1.heap.objs.size],_,_,H1,rfl,I2,TU a _ _ (by grind),(by grind),fun b hb=>?_,q⟩
 rcases List.mem_cons.mp hb with z|z
 ·subst z
  exact I1.Rq (Nat.le_succ _) (I1.hok.fresh (Nat.le_succ _))
 ·have z:b=s1.heap.objs.size:=by grind
  subst z
  exact I1.Rq (Nat.le_refl _) (I1.hok.fresh (Nat.le_refl _))
end
section
variable {X:Cx}
theorem U7 {iter elt:Expr}{ifs:List Expr}{scope osc:Scope}{wi:TI}{tt:TT}{te:TE}{x y:Str}{px py tpos:Pos}{kk}{pos:Pos}(fr:List (Str×Nat))
  (hc:X.calm=true) (hi:PI X (.Tuple [.Name x px,.Name y py] kk tpos) iter wi) (ho:X.env.scope=osc)
  (hk:scope.kind=.function) (hcell:∀y∈scope.names,y.2≠.cell) (hnames:∀y∈scope.names,y.2=.local→scope.names.lookup y.1=some .local)
  (hfree:∀y∈scope.names,y.2=.free→osc.names.lookup y.1=some .cell\/osc.names.lookup y.1=some .free) (hfr:Nt X scope fr)
  (hx:scope.names.lookup x=some .local) (hy:scope.names.lookup y=some .local) (hnd:(x::y::fr.map (·.1)).Nodup)
  (ht:∀C s H ex,PTs (A9 X scope (x::y::fr.map (·.1)) C s H ex) ifs tt)
  (he:∀C s H ex,PE (A9 X scope (x::y::fr.map (·.1)) C s H ex) elt te)
  (hs:∀x,foldedSetIterable iter X.env x=pure x:=by intro _;rfl) :
  PE X (.ListComp elt [⟨.Tuple [.Name x px,.Name y py] kk tpos,iter,ifs,0⟩] scope pos) (Mv 2 (fr.map (·.2)) wi (aS X.K 2 (Vn (GN 0) (Vn (GN 1) aT))) tt te) :=
 Si (own:=[x,y]) hc hi hk hcell hnames (fun y hy e=>by show X.env.scope.names.lookup y.1=_\/X.env.scope.names.lookup y.1=_;rw [ho];exact hfree y hy e) hfr
  (fun C s H ex=>RK (show (A9 X scope (x::y::fr.map (fun p:Str×Nat=>p.1)) C s H ex).calm=true from hc) (G7 (Kq (i:=0) hnd rfl (.inl (lookup_relabel_local hx)) (.inr (lookup_relabel_local hx))) (G7 (Kq (i:=1) hnd rfl (.inl (lookup_relabel_local hy)) (.inr (lookup_relabel_local hy))) O5))) ht he hs
end
theorem Qp {K:PySem.W.Frag}{a:Addr}{xs:List V}{g:TG}{tb:TS}{D:Ends}{σ:St}{H:Hp}(Pv:Nat→St→Hp→Prop) (h0:Pv 0 σ H) (hl:∀i σ H,i≤xs.length→Pv i σ H→SqL K H a xs)
  (hs:∀(i:Nat) x σ H p,xs[i]?=some x→Pv i σ H→H p=none→g (.ref p) σ (upd H p (.tup [.int (i:Int),x])) fun σ2 H2=>tb { D with nx:=Pv (i+1),ct:=Pv (i+1),bk:=D.nx } σ2 H2) (hd:∀σ H,Pv xs.length σ H→D.nx σ H) :
  ∃W:Nat→Nat→St→Hp→Prop,(∃m,W 0 m σ H)/\∀i m σ H,W i m σ H →
   ((Ite K a).stop i H/\D.nx σ H)\/((Ite K a).go i H/\∃N:St→Hp→Prop,(∀σ' H',N σ' H'→∃m',m'<m/\W (i+1) m' σ' H')/\∀x H',(Ite K a).yld i H x H'→g x σ H' fun σ2 H2=>tb { D with nx:=N,ct:=N,bk:=D.nx } σ2 H2):=by
 refine ⟨fun i m σ H=>m=xs.length-i/\i≤xs.length/\Pv i σ H,⟨xs.length,by simp,Nat.zero_le _,h0⟩,?_⟩
 rintro i m σ H ⟨rfl,hi,p⟩
 have q:=hl i σ H hi p
 by_cases hlt:i<xs.length
 ·refine .inr ⟨⟨xs,xs[i],q,by simp [hlt]⟩,Pv (i+1),fun σ' H' p'=>⟨xs.length-(i+1),by omega,rfl,hlt,p'⟩,fun x H' y=>?_⟩
  obtain ⟨r,z,rfl,hr,rfl,hy⟩:=y
  exact hs i z σ H r (hy xs q) p hr
 ·have e:i=xs.length:=by omega
  subst e
  exact .inl ⟨⟨xs,q,Nat.le_refl _⟩,hd σ H p⟩
theorem UI {K:PySem.W.Frag}{a:Addr}{fr:List Nat}{tt:TT}{te:TE}{σ:St}{H:Hp}{Q:VK}{xs:List V}{g:TG}(pk:Nat→V→Bool) (f:Nat→V→V) (hn:xs.length≤sizeLine) (hq:∀H1,AO H H1→SqL K H1 a xs)
  (hg:∀(i:Nat) x p o1 o2 H1 (R:St→Hp→Prop),xs[i]?=some x→AO H H1→H1 p=some (.tup [.int (i:Int),x])→R (some (.int (i:Int))::some x::fr.map (pick σ)) H1→g (.ref p) (o1::o2::fr.map (pick σ)) H1 R)
  (htt:∀(i:Nat) x H1 (R:Bool→Hp→Prop),xs[i]?=some x→AO H H1→(∀H2,AO H1 H2→R (pk i x) H2)→tt (some (.int (i:Int))::some x::fr.map (pick σ)) H1 R)
  (hte:∀(i:Nat) x H1 (R:VK),xs[i]?=some x→pk i x=true→AO H H1→(∀H2,AO H1 H2→R (f i x) H2)→te (some (.int (i:Int))::some x::fr.map (pick σ)) H1 R)
  (hd:∀H1,AO H H1→∀D,H1 D=none→Q (.ref D) (upd H1 D (.lst (((List.zip (List.range xs.length) xs).filter fun q=>pk q.1 q.2).map fun q=>f q.1 q.2)))) :
  MZ 2 fr g tt te σ Q (Ite K a) H:=by
 refine ⟨fun i m τ acc H'=>m=xs.length-i/\i≤xs.length/\AO H H'/\(∃o1 o2,τ=o1::o2::fr.map (pick σ))/\acc=((((List.zip (List.range xs.length) xs).take i).filter fun q=>pk q.1 q.2).map fun q=>f q.1 q.2),
  ⟨xs.length,by simp,Nat.zero_le _,AO.refl H,⟨none,none,rfl⟩,rfl⟩,?_⟩
 rintro i m τ acc H' ⟨rfl,hi,s1,⟨o1,o2,rfl⟩,hacc⟩
 have hzl:(List.zip (List.range xs.length) xs).length=xs.length:=by simp
 by_cases hlt:i<xs.length
 ·have hxi:xs[i]?=some xs[i]:=List.getElem?_eq_getElem hlt
  have tk:(List.zip (List.range xs.length) xs).take (i+1)=(List.zip (List.range xs.length) xs).take i++[(i,xs[i])]:=by
   rw [List.take_add_one]
   have:(List.zip (List.range xs.length) xs)[i]?=some (i,xs[i]):=by
    rw [List.getElem?_zip_eq_some]
    exact ⟨by simp [hlt],hxi⟩
   rw [this]
   rfl
  refine .inr ⟨⟨xs,xs[i],hq _ s1,hxi⟩,?_,fun x H1 y=>?_⟩
  ·have:acc.length≤i:=by
    rw [hacc,List.length_map]
    refine Nat.le_trans (List.length_filter_le _ _) ?_
    rw [List.length_take]
    exact Nat.min_le_left _ _
   omega
  ·obtain ⟨p,z,rfl,hp,rfl,hz⟩:=y
   have ez:z=xs[i]:=Option.some.inj ((hz xs (hq _ s1)).symm.trans hxi)
   subst ez
   have s2:=s1.upd (o:=.tup [.int (i:Int),xs[i]]) hp
   refine hg i xs[i] p o1 o2 _ _ hxi s2 AG ?_
   refine htt i xs[i] _ _ hxi s2 fun H2 s3=>?_
   cases hpk:pk i xs[i] with
   | true =>
    rw [if_pos rfl]
    refine hte i xs[i] _ _ hxi hpk (s2.trans s3) fun H3 s4=>⟨xs.length-(i+1),by omega,rfl,hlt,(s2.trans s3).trans s4,⟨_,_,rfl⟩,?_⟩
    rw [tk,List.filter_append,List.map_append,←hacc]
    simp [hpk]
   | false =>
    rw [if_neg Bool.false_ne_true]
    refine ⟨xs.length-(i+1),by omega,rfl,hlt,s2.trans s3,⟨_,_,rfl⟩,?_⟩
    rw [tk,List.filter_append,List.map_append,←hacc]
    simp [hpk]
 ·have e:i=xs.length:=by omega
  subst e
  rw [List.take_of_length_le (by rw [hzl];exact Nat.le_refl _)] at hacc
  exact .inl ⟨⟨xs,hq _ s1,Nat.le_refl _⟩,fun D hD=>by rw [hacc];exact hd H' s1 D hD⟩
end L2
namespace L2
open PySem PySem.Spec PyProof.Rows
abbrev TX:=St→Hp→VK→XK→Prop
def PEX (X:Cx) (e:Expr) (t:TX):Prop :=
 ∀(pins:List (Addr×Obj)) (s:Shared) (σ:St) (H:Hp) (Q:VK) (E:XK),Inv X pins σ H s→t σ H Q E →
  wpAny (model X.prog X.w) X.A (eval e X.env) (EP X pins σ Q) (fun e' s'=>∃H1 s1,Inv X pins σ H1 s1/\CXF X.prog X.w X.stack H1 s1 E e' s') s
section
variable {X:Cx}{k:Nat}{f C:Addr}{fd:FuncData}{ps:List Str}{sp:Sp}{x:Str}{p pos:Pos}{e:Expr}{es:List Expr}{t:TA}{te:TE}
def YB (sp:Sp) (t:TA):TX:=fun σ H Q E=>t σ H fun vs H1=>sp vs H1 Q E
theorem U1 (F:Ao X.prog X.w X.K X.mg X.base (CXF X.prog X.w) k f fd ps sp) (hr:Co k X.A) (hg:Gl X x) (hm:X.mg x=some (.ref f)) (hk:PySem.W.keepIn X.K (.ref f)=true) (hb:Binds X.K fd ps [])
  (ha:PA X.nox (e::es) t) (hdb:(x==("__debug__" : Str))=false:=by decide) (he:starEach (e::es) X.env=(false,eval e X.env)::starEach es X.env:=by rfl) (hpl:(backTo pos (starEach es X.env)).any (·.1)=false:=by rfl) :
  PEX X (.Call (.Name x p) (e::es) [] pos) (YB sp t):=by
 intro pins s σ H Q E I h
 refine wpAny_Call_Name_kw (Gq I hg hm ?_ hdb)
 refine PySem.W.callWith_K  I.ok.mod.kin hk (wpAny_mono (ha _ _ s σ H _ (I.Ms _) h) (fun us s1 ⟨vs,H1,I1w,r,q⟩=>⟨I1w.kIn,?_⟩) fun _ _ z=>False.elim z) he hpl
 have I1:=I1w.Ha
 have hl:us.length=ps.length:=by rw [←r.length];exact F.len _ _ _ _ q
 refine wpAny_call (codeAny_mono (F.run _ _ s1 H1 _ us vs Q _ hr I1.Vu (by have:=hb s1 us I1.kIn (by simpa using hl);simpa using this) r q) fun rr s' hq=>?_)
 cases rr with
 | ok fl =>
  cases fl with
  | ret u =>
   obtain ⟨v,H',I',rv,qv⟩:=I1.after hq
   exact ⟨v,H',I',rv,qv⟩
  | next=>exact False.elim hq
  | brk=>exact False.elim hq
  | cont=>exact False.elim hq
 | error ev=>exact ⟨H1,s1,I1,hq⟩
end
section
variable {X:Cx}{cn n:Str}{rpos np hpos pos:Pos}{e0:Expr}{tx:TX}{CF:Addr}{b₀:Stmt}{suite:List Stmt}{th:Addr→TS}{i:Nat}
def Xj (K:PySem.W.Frag) (CF:Addr) (i:Nat) (th:Addr→TS) (D:Ends) (σ:St):XK:=fun C dd H'=>PySem.W.exmOne K C (.ref CF)=some true /\
 ∀e,H' e=none→th e { nx:=fun σ' H''=>D.nx (σ'.set i none) H'',rt:=D.rt } (σ.set i (some (.ref e))) (upd H' e (SE e C dd))
theorem Vf {pins:List (Addr×Obj)}{σ:St}{H1:Hp}{s1 s':Shared}{D:Ends}{ev:Value}(hnc:X.env.cells=[]) (hex:X.ex=[]) (hst:X.stack=X.env::X.outer) (hfl:X.env.frame=some X.env.locals)
  (hgc:Gl X cn) (hmc:X.mg cn=some (.ref CF)) (hN:X.N.Nodup) (hi:X.N[i]?=some n) (hln:X.env.kindOf n=some .local) (hfn:X.fn n=true\/X.env.scope.names.lookup n=some .local)
  (hs:∀e,PSs (X.Hr e) (b₀::suite) (th e)) (hdc:(cn==("__debug__" : Str))=false) (I1:Inv X pins σ H1 s1) (hq:CXF X.prog X.w X.stack H1 s1 (Xj X.K CF i th D σ) ev s') :
  wpAny (model X.prog X.w) X.A (noteFrame ev X.env) (fun _ s₂=>wpAny (model X.prog X.w) X.A (setFlight ev none) (fun _ s₃=>wpAny (model X.prog X.w) X.A (handleBy ev X.env [.ExceptHandler (some (.Name cn np)) (some n) (b₀::suite) hpos]) (SP X pins D) X.xe s₃) X.xe s₂) X.xe s':=by
 obtain ⟨e,C,a0,H',B,dd,rfl,os,bare,hokB,fly,un,cov,hdd,hmat,hh⟩:=hq
 have I2:=I1.TL (s':=s') (ch:=[]) os un (hokB.kept fly.1) bare fun b hb=>absurd hb (by simp)
 have hfr:X.A.frames=some (X.env::X.outer):=by rw [←hst];exact I1.ok.frames
 have fly':Heap.FlyingW B (X.env::X.outer) e C a0 s'.heap:=by rw [←hst];exact fly
 refine T5 hfr hfl fly' hdd fun h3 held up3 hd3=>?_
 refine Yu held hd3 fun h4 fly4 up4 hd4=>?_
 have I4:Inv X pins σ H' { s' with heap:=h4 }:=Inv.TQ I1 I2 hnc hex hst hfl cov hokB fly4.1 (up3.trans up4) fly.2.2.1
 obtain ⟨oe,hoe,hoec⟩:=fly.there
 have eB:B.get? e=none:=fly.2.1
 have efl:∃vs,oe.data=.fields vs:=by
  obtain ⟨_,_,_,oe',vs,T,oT,ts,a1,a2,a3,_⟩:=fly
  rw [hoe] at a1;cases a1
  exact ⟨_,a3⟩
 have nfr:e∉frs X.stack:=fun z=>by
  obtain ⟨_,o1,e1,q1⟩:=fly.2.2.1.mem (b:=e) z
  rw [hoe] at e1;cases e1
  obtain ⟨vs,q2⟩:=efl
  exact q1 vs q2
 have inS:X.env.locals∈frs X.stack:=by
  rw [hst];unfold frs;rw [List.filterMap_cons,hfl];exact List.mem_cons_self
 have ns1:∀o,s1.heap.get? e≠some o:=fun o z=>by
  obtain ⟨o',q1,_⟩:=cov e o z nfr
  rw [eB] at q1;cases q1
 have hn0:H' e=none:=by
  cases z:H' e with
  | none=>rfl
  | some u =>
   obtain ⟨o',q1⟩:=(hokB e u z).got
   rw [eB] at q1;cases q1
 refine wpAny_handleBy_cons (codeAny_handlers_test (Gq (X:=X.Hr e) (I4.Hr e) hgc hmc ?_ hdc)) (by intro q;cases q)
 obtain ⟨o4,ho4,hc4⟩:=fly4.there
 have LT:PySem.W.Looks (model X.prog X.w) h4 (typeOf (.ref e)) C:=by
  rw [←hc4]
  exact (PySem.W.Looks.ld ho4).andThen .now
 refine PySem.W.exm_one (M:=model X.prog X.w) I4.kIn LT hmat _ _ _ _ (fun b o z=>z) ?_
 show codeAny _ _ _ _ _
 refine codeAny_handlers_suite_as (PU fly4 hd4 fun h5 fly5 up5 hd5=>?_)
 have I5:Inv X pins σ H' { s' with heap:=h5 }:=Inv.TQ I1 I2 hnc hex hst hfl cov hokB fly5.1 ((up3.trans up4).trans up5) fly.2.2.1
 have there5:∃o,h5.get? e=some o/\o.cls=C/\o.dict=dd/\∃vs,o.data=.fields vs:=by
  obtain ⟨oe5,vs5,g1,g2,g3,_⟩:=fly5.first
  exact ⟨oe5,g1,g2,hd5.get g1,vs5,g3⟩
 have I6:=I5.Vr (e:=e) (C:=C) (dd:=dd) there5 hn0 (fun o z=>?_) (fun z=>nfr (z ▸ inS)) (fun x c z=>by rw [hnc] at z;cases z) (fun p hp z=>?_)
 ·refine KS (X:=X.Hr e) (I6.Hr e) hN hi (.inl hln) (v:=.ref e) rfl (fun s7 I7=>?_) hfn
  refine wpAny_mono (hs e pins s7 _ _ _ I7 (hh e hn0)) (fun fl s8 q8=>?_) fun _ _ z=>False.elim z
  cases fl with
  | next =>
   obtain ⟨σ8,H8,I8,q8⟩:=q8
   exact name_goes (I8.uncaught fun z=>I1.ok.hd z) hN hi hln fun s9 I9=>⟨_,_,I9,q8⟩
  | ret u =>
   obtain ⟨v,σ8,H8,I8,rv,q8⟩:=q8
   exact name_goes (I8.uncaught fun z=>I1.ok.hd z) hN hi hln fun s9 I9=>⟨v,_,_,I9,rv,q8⟩
  | brk=>obtain ⟨_,_,_,z⟩:=q8;exact False.elim z
  | cont=>obtain ⟨_,_,_,z⟩:=q8;exact False.elim z
 ·obtain ⟨o',q1⟩:=I1.base.there e o z (by rw [hex];simp)
  exact ns1 o' q1
 ·have b1:=(I1.pin p hp).1
  rw [z] at b1
  exact ns1 _ b1
end
structure ExD (K:PySem.W.Frag) (C:Addr) (bm:List Value):Prop where
 obj:∃(nm q:Str) (NS:Addr) (bs:List Value) (hdct:Bool) (sn:List Str) (sub:List Value) (ab:Bool) (col:Option Bool) (dd:Option Addr) (k0 k1 k2 k3 k5:Option Value),
  K.lookup C=some (excClassObj nm q C NS bs bm hdct sn sub ab col dd k0 k1 k2 k3 k5 "ValueError.__new__") /\
   ∀h:Heap,K.In h→(∃mN,h.Ns NS mN/\mN "__init__" = none)/\OwnTail h [.type "ValueError", .type "Exception", .type "BaseException", .type "object"] bm
theorem Y2 {K:PySem.W.Frag}{C:Addr}(q:PySem.W.excIn K C [.type "ValueError", .type "Exception", .type "BaseException", .type "object"] "ValueError.__new__" = true):∃bm,ExD K C bm:=by
 unfold PySem.W.excIn at q
 split at q
 ·rename_i dd cd sl ho
  split at q
  ·rename_i C2 bm k0 k1 k2 k3 nn k5 hm hs
   simp at q
   obtain ⟨⟨⟨⟨⟨e1,e2⟩,e3⟩,e4⟩,e5⟩,e6⟩:=q
   have hsl:sl=#[k0,k1,k2,k3,some (.builtin nn),k5]:=by rw [←Array.toArray_toList (xs:=sl),hs]
   cases cd with
   | mk a1 a2 a3 a4 a5 a6 a7 a8 a9 a10 a11 =>
    subst hsl e1 e2 e3 hm
    exact ⟨bm,⟨a1,a5,a4,a2,a6,a7,a8,a9,a10,dd,k0,k1,k2,k3,k5,ho,fun h X=>⟨⟨_,.of_isNs (PySem.W.isNs_of_in X e5),PySem.W.nsMap_none_of_in X e5 e6⟩,PySem.W.tail_of_in X e4⟩⟩⟩
  ·cases q
 ·cases q
section
variable {P:Program}{w:World}{K:PySem.W.Frag}{mg:Str→Option Value}{base:Heap}{N:List Str}{qual:Str}{scope:Scope}{f:Addr}{cd:Value}{A:Around}{outer:List Env}{s₀:Shared}{H₀:Hp}{E':XK}
end
end L2
namespace L2
open PySem PySem.Spec PyProof.Rows
open AutoSeq1 (wpAny_loadPart')
open MeetsSeq
section
variable {X:Cx}
end
theorem cC {c A B:Prop}[Decidable c] (hc:c) (h:A):if decide c=true then A else B:=by rw [decide_eq_true hc];exact Ek h
theorem aL {c A B:Prop}[Decidable c] (hc:¬ c) (h:B):if decide c=true then A else B:=by rw [decide_eq_false hc];exact DJ h
end L2
namespace L2
open PySem PySem.Spec PyProof.Rows
structure ExI (K:PySem.W.Frag) (C:Addr):Prop where
 ga:PySem.W.findIn K (.ref C) "__getattribute__" = some (some (.builtin "BaseException.__getattribute__"))
 gt:PySem.W.findIn K (.ref C) "__getattr__" = some none
 ck:PySem.W.findIn K (.ref C) "__class__" = some (some (.builtin "object.__class__"))
 sb:PySem.W.subIn K (.ref C) (.type "BaseException")=some true
 so:PySem.W.subIn K (.ref C) (.type "object")=some true
 cl:(PySem.W.clsIn K C).isSome=true
section
variable {prog:Program}{w:World}{A:Around}{E:Value→Shared→Prop}{K:PySem.W.Frag}{h:Heap}{g:Array GenState}{d:Drawn}{t:Nat}{os:OsState}{a C:Addr}{o:Obj}
theorem Lm (hx:h.get? a=some o) (hc:o.cls=.ref C):PySem.W.Looks (model prog w) h (typeOf (.ref a)) (.ref C):=by
 rw [←hc]
 exact (PySem.W.Looks.ld hx).andThen .now
theorem N2 {R:Result→Shared→Prop}(X:ExI K C) (kin:K.In h) (hx:h.get? a=some o) (hc:o.cls=.ref C) (hq:R (.ok (.ret (.ref C))) ⟨h,g,d,t,os⟩) :
  codeAny (model prog w) A (.call (.builtin "getset_descriptor.__get__") ⟨[.builtin "object.__class__", .ref a,.ref C],[]⟩) R ⟨h,g,d,t,os⟩:=by
 have gsT:(⟨h,g,d,t,os⟩:Shared).TypeIs (.builtin "object.__class__") "getset_descriptor" := F.typeOf_object_class
 have LS:PySem.W.Looks (model prog w) h (isSubtype (.ref C) (.type (".".intercalate ("object.__class__".cutAt '.').dropLast))) true:=by
  rw [F.owner_object_class]
  exact PySem.W.looks_subIn kin X.so
 refine codeAny_call_builtin F.slot_gs_get.plain F.entry_gs_get ?_
 refine F.slot_gs_get.check _ _ _ _ _ _ _ _ gsT (F.args_gs_get _ _ _) ?_
 repeat (any_goals (first|assumption|(with_reducible refine wpAny_loadPart_at hx ?_;rw [hc])|with_reducible refine LS.at ?_|wp_step))
 refine ⟨Code.quiet_builtin _ (by decide +kernel),codeAny_builtin F.entry_object_class ?_⟩
 repeat (any_goals (first|assumption|(with_reducible refine wpAny_loadPart_at hx ?_;rw [hc])|wp_step))
theorem Md {tk:Tok}{Q:Fin→Shared→Prop}(X:ExI K C) (kin:K.In h) (hx:h.get? a=some o) (hc:o.cls=.ref C) (hq:Q (.done (.ret (.ref C))) ⟨h,g,d,t,os⟩) :
  wpAny (model prog w) A (Builtin.«object.__getattribute__» ⟨[.ref a,.str "__class__" tk],[]⟩) Q E ⟨h,g,d,t,os⟩:=by
 have gsT:(⟨h,g,d,t,os⟩:Shared).TypeIs (.builtin "object.__class__") "getset_descriptor" := F.typeOf_object_class
 have y5:=F.typeOf_object_class
 have y6:=F.slot_gs_get.lookup
 have y7:=F.slot_gs_set.lookup
 have LC:=PySem.W.looks_findIn (M:=model prog w) kin X.ck
 repeat (any_goals (first|assumption|(with_reducible refine wpAny_loadPart_at hx ?_;rw [hc])|with_reducible refine LC.at ?_|wp_step))
 refine N2 X kin hx hc ?_
 repeat (any_goals (first|assumption|wp_step))
theorem OW {M:Model}{nameV:Value}{Q:Unit→Shared→Prop}(X:ExI K C) (kin:K.In h) (hx:h.get? a=some o) (hc:o.cls=.ref C) (hq:Q () ⟨h,g,d,t,os⟩) :
  wpAny M A (checkBuiltinCall "BaseException.__getattribute__" ⟨[.ref a,nameV],[]⟩) Q E ⟨h,g,d,t,os⟩:=by
 have k1:builtinKind "BaseException.__getattribute__" = some .slot:=by decide +kernel
 have k2:splitId "BaseException.__getattribute__" = some ("BaseException", "__getattribute__"):=by decide +kernel
 have LB:PySem.W.Looks M h (isSubtype (.ref C) (.type "BaseException")) true:=PySem.W.looks_subIn kin X.sb
 have k3:=F.args_bexc_ga (.ref a) nameV
 simp only [checkBuiltinCall,k1,k2]
 refine wpAny_bind ?_
 unfold isInstance
 repeat (first|(with_reducible refine wpAny_loadPart_at hx ?_;rw [hc])|with_reducible refine LB.at ?_|wp_step)
 exact hq
theorem PY {tk:Tok}{Q:Value→Shared→Prop}(X:ExI K C) (kin:K.In h) (hx:h.get? a=some o) (hc:o.cls=.ref C) (hq:Q (.ref C) ⟨h,g,d,t,os⟩) :
  wpAny (model prog w) A (getAttrBy (.ref a) (.str "__class__" tk) false) Q E ⟨h,g,d,t,os⟩:=by
 have L0:PySem.W.Looks (model prog w) h (typeOf (.ref a)) (.ref C):=Lm hx hc
 have L1:=PySem.W.looks_findIn (M:=model prog w) kin X.ga
 have LH:PySem.W.Looks (model prog w) h (hookBefore (.ref C)) none:=PySem.W.looks_hook kin (by rw [if_pos (show onTheHeap (Value.ref C)=true from rfl)];exact X.gt)
 have f3:=F.attrBase_ValueError.ga.bind (.ref a)
 unfold getAttrBy
 refine wpAny_holding (wpAny_bind (L0.at (wpAny_bind (L1.at ?_))))
 show wpAny _ _ (getAttrByItsOwn (.ref a) (.str "__class__" tk) (.ref C) (.builtin "BaseException.__getattribute__") false false) _ _ _
 unfold getAttrByItsOwn
 refine wpAny_bind (LH.at (wpAny_bind (wpAny_attempt (wpAny_holding ?_))))
 show wpAny _ _ (boundAndCalled (.builtin "BaseException.__getattribute__") (.ref a) (.str "__class__" tk)) _ _ _
 unfold boundAndCalled
 rw [f3]
 refine wpAny_bind (wpAny_pure (wpAny_call ?_))
 refine codeAny_call_builtin F.attrBase_ValueError.ga.plain F.entry_bexc_ga (OW X kin hx hc (Md X kin hx hc ?_))
 exact wpAny_pure hq
theorem Qj (X:ExI K C):PySem.W.KitX K (.ref a) (.ref C) (fun h=>∃o,h.get? a=some o/\o.cls=.ref C) where
 ty:=fun _ _ _ ⟨o,hx,hc⟩=>by
  rw [←hc]
  exact (PySem.W.Looks.ld hx).andThen .now
 it:=fun M h kin _=>by
  obtain ⟨cd,hcd⟩:=Option.isSome_iff_exists.mp X.cl
  unfold PySem.W.clsIn at hcd
  split at hcd
  ·rename_i ho
   intro A' Q' E' s' k q
   unfold isType loadHead
   exact wpAny_bind (wpAny_loadPart (k _ _ (kin _ _ ho)) (wpAny_pure q))
  ·cases hcd
 ne:=fun h tp dd its n sl kin htp=>by
  obtain ⟨cd,hcd⟩:=Option.isSome_iff_exists.mp X.cl
  refine Bool.eq_false_iff.mpr fun q=>?_
  have e:C=tp:=Value.ref.inj (beq_iff_eq.mp q)
  subst e
  unfold PySem.W.clsIn at hcd
  split at hcd
  ·rename_i ho
   have z:=(kin _ _ ho).symm.trans htp
   cases z
  ·cases hcd
 ca:=fun {prog w A E Q s} kin ⟨o,hx,hc⟩ k=>by
  obtain ⟨h,g,d,t,os⟩:=s
  unfold getAttr? getAttrBy?
  repeat (any_goals (first|assumption|with_reducible apply PY X kin hx hc|wp_step))
end
section
variable {X:Cx}
def Qv:V→Option Value
 | .ref p=>some (.ref p)
 | .ty n=>some (.type n)
 | _=>none
theorem Ni {K:PySem.W.Frag}(hK:X.K=K:=by rfl):DT X (.builtin "isinstance") (fun xs H Q=>∃(e Ca:Addr) (dd:Option Addr) (c:V) (cv:Value) (b:Bool),xs=[.ref e,c]/\Qv c=some cv/\H e=some (SE e (.ref Ca) dd)/\ExI K Ca/\PySem.W.kitOne K (.ref Ca) cv=some b/\Q (.bl b) H):=by
 subst hK
 intro pins s σ H xs us Q I r h
 obtain ⟨e,Ca,dd,c,cv,b,rfl,rc,he,ex,hk,q⟩:=h
 obtain ⟨u,u2,rfl,ru,ru2⟩:=vals2 r
 cases ru
 have hcv:u2=cv:=by
  cases c with
  | ref p=>exact (show u2=Value.ref p from ru2).trans (Option.some.inj rc)
  | ty n=>exact (show u2=Value.type n from ru2).trans (Option.some.inj rc)
  | _=>cases rc
 subst hcv
 have hobj:∃o,s.heap.get? e=some o/\o.cls=.ref Ca:=(I.hok e _ he).1.imp fun o z=>⟨z.1,z.2.1⟩
 exact PySem.W.kia_one (Qj ex) I.kIn hobj hk (by intro z;cases z) fun tk=>⟨.bl b,H,I.tok tk,rfl,q⟩
end
theorem AO.Ma {H H':Hp}{b:Addr}{o:HO}(e:AO H H') (h:H b=none):AO H (L2.upd H' b o):=fun c u q=>by
 rw [AM (Af q h)]
 exact e c u q
end L2
namespace L2
open PySem PySem.Spec PyProof.Rows
section
variable {X:Cx}{k:Nat}{f C:Addr}{fd:FuncData}{ps:List Str}{sp:Sp}{m:Str}{apos pos:Pos}{e o:Expr}{es:List Expr}{t:TA}{ta te:TE}
abbrev TSX:=Ends→(St→XK)→St→Hp→Prop
def PSX (X:Cx) (st:Stmt) (t:TSX):Prop :=
 ∀(pins:List (Addr×Obj)) (s:Shared) (σ:St) (H:Hp) (D:Ends) (E:St→XK),Inv X pins σ H s→t D E σ H →
  wpAny (model X.prog X.w) X.A (exec st X.env) (SP X pins D) (fun e' s'=>∃σ1 H1 s1,Inv X pins σ1 H1 s1/\CXF X.prog X.w X.stack H1 s1 (E σ1) e' s') s
def Xf (X:Cx) (sts:List Stmt) (t:TSX):Prop :=
 ∀(pins:List (Addr×Obj)) (s:Shared) (σ:St) (H:Hp) (D:Ends) (E:St→XK),Inv X pins σ H s→t D E σ H →
  wpAny (model X.prog X.w) X.A (execs sts X.env) (SP X pins D) (fun e' s'=>∃σ1 H1 s1,Inv X pins σ1 H1 s1/\CXF X.prog X.w X.stack H1 s1 (E σ1) e' s') s
variable {st:Stmt}{sts a b:List Stmt}{c0:Expr}{tx:TX}{u v:TSX}{tc:TT}{x:Str}{px:Pos}{i:Nat}
theorem Wl (hN:X.N.Nodup) (hi:X.N[i]?=some x) (hx:Loc X.env.scope x) (h:PEX X e tx) (hs:swapsWith e (some (.Name x px)) pos.line X.env=pure false:=by rfl) (hf:X.fn x=true\/X.env.scope.names.lookup x=some .local:=by first|exact .inl rfl|exact .inr rfl|assumption) :
  PSX X (.Assign [.Name x px] e pos) (fun D E σ H=>tx σ H (fun v H1=>D.nx (σ.set i (some v)) H1) (E σ)):=by
 intro pins s σ H D E I hq
 refine wpAny_Assign_Name (wpAny_mono (h pins s σ H _ _ I hq) (fun v s1 ⟨y,H1,I1,r1,q1⟩=>?_) fun ev s' ⟨H1,s1,I1,z⟩=>⟨σ,H1,s1,I1,z⟩) hs
 exact KS I1 hN hi hx r1 (fun s2 I2=>⟨_,H1,I2,q1⟩) hf
theorem Uw:Xf X [] (fun D _ σ H=>D.nx σ H):=fun _ _ σ H _ _ I h=>wpAny_execs_nil ⟨σ,H,I,h⟩
theorem Tc (h1:PSX X st u) (h2:Xf X sts v):Xf X (st::sts) (fun D E σ H=>u { D with nx:=v D E } E σ H):=by
 intro pins s σ H D E I h
 refine wpAny_execs_cons (thn (h1 pins s σ H { D with nx:=v D E } E I h) fun f s1 q=>?_)
 cases f with
 | next =>
  obtain ⟨σ',H',I',q⟩:=q
  exact h2 pins s1 σ' H' D E I' q
 | ret v=>exact q
 | brk=>exact q
 | cont=>exact q
variable {cn n:Str}{np hpos:Pos}{CF:Addr}{b₀:Stmt}{suite:List Stmt}{th:Addr→TS}
theorem Wn (hnc:X.env.cells=[]) (hex:X.ex=[]) (hst:X.stack=X.env::X.outer) (hfl:X.env.frame=some X.env.locals) (hx:Xf X sts u)
  (hgc:Gl X cn) (hmc:X.mg cn=some (.ref CF)) (hN:X.N.Nodup) (hi:X.N[i]?=some n) (hln:X.env.kindOf n=some .local) (hfn:X.fn n=true\/X.env.scope.names.lookup n=some .local)
  (hs:∀e,PSs (X.Hr e) (b₀::suite) (th e)) (hdc:(cn==("__debug__" : Str))=false:=by decide) :
  PS X (.Try sts [.ExceptHandler (some (.Name cn np)) (some n) (b₀::suite) hpos] [] [] pos) (fun D σ H=>u D (fun σ1=>Xj X.K CF i th D σ1) σ H):=by
 intro pins s σ H D I h
 refine wpAny_Try_except (wpAny_mono (hx pins s σ H D _ I h) (fun f s1 q=>?_) fun ev s' ⟨σ1,H1,s1,I1,hq⟩=>Vf hnc hex hst hfl hgc hmc hN hi hln hfn hs hdc I1 hq)
 cases f with
 | next=>exact wpAny_execs_nil q
 | ret v=>exact q
 | brk=>exact q
 | cont=>exact q
end
section
variable {X:Cx}
theorem MW {K:PySem.W.Frag}(hK:X.K=K:=by rfl):DT X (.builtin "isinstance") (fun xs H Q=>∃(e Ca p:Addr) (dd:Option Addr) (cs:List V) (cvs:List Value) (b:Bool),xs=[.ref e,.ref p]/\H p=some (.tup cs)/\cs.mapM Qv=some cvs/\H e=some (SE e (.ref Ca) dd)/\ExI K Ca/\PySem.W.kitAny K (.ref Ca) cvs=some b/\Q (.bl b) H):=by
 subst hK
 intro pins s σ H xs us Q I r h
 obtain ⟨e,Ca,p,dd,cs,cvs,b,rfl,ep,hcs,he,ex,hk,q⟩:=h
 obtain ⟨u,u2,rfl,ru,ru2⟩:=vals2 r
 cases ru
 cases ru2
 have hobj:∃o,s.heap.get? e=some o/\o.cls=.ref Ca:=(I.hok e _ he).1.imp fun o z=>⟨z.1,z.2.1⟩
 obtain ⟨its,rv,ht,hz⟩:=I.tuple (SqT.of ep)
 obtain ⟨⟨c,dd,dt,sl⟩,ho,hc,n,hd⟩:=ht
 have hc:c=.type "tuple" := hc
 have hd:dt=.seq its.toArray n:=hd
 subst hc hd
 have hall:∀{cs:List V} {cvs its:List Value},cs.mapM Qv=some cvs→Vals cs its→its=cvs:=by
  intro cs
  induction cs with
  | nil=>intro cvs its h1 h2;cases h2;simpa using h1.symm
  | cons c r ih =>
   intro cvs its h1 h2
   cases h2 with
   | cons ha hb =>
    rename_i y ys
    rw [List.mapM_cons] at h1
    cases hcl:Qv c with
    | none=>rw [hcl] at h1;cases h1
    | some z =>
     rw [hcl] at h1
     cases hr:r.mapM Qv with
     | none=>rw [hr] at h1;cases h1
     | some zs =>
      rw [hr] at h1
      have h1:z::zs=cvs:=Option.some.inj h1
      rw [←h1,ih hr hb]
      congr 1
      cases c with
      | ref p=>exact (show y=Value.ref p from ha).trans (Option.some.inj hcl)
      | ty n=>exact (show y=Value.type n from ha).trans (Option.some.inj hcl)
      | _=>cases hcl
 have e2:=hall hcs rv
 subst e2
 exact PySem.W.kia_tup (Qj ex) I.kIn hobj ho hk (by intro z;cases z) fun tk=>⟨.bl b,H,I.tok tk,rfl,q⟩
end
end L2
namespace L2
open PySem Builtin Builtin.Str
section
variable {X:Cx}
theorem OD:∀(l:List (Str×Tok)),Vals ((l.map (·.1)).map V.str) (strValues l)
 | []=>.nil
 | (z,t)::r=>.cons ⟨t,rfl⟩ (OD r)
theorem Ig {K:PySem.W.Frag}(hK:X.K=K:=by rfl):MtR X "str.split" (fun x xs H Q=>∃z y:Str,x=.str z/\xs=[.str y]/\0<y.length/\z.length+2≤sizeLine/\∀l,H l=none→Q (.ref l) (upd H l (.lst ((Txt.split z y).map V.str)))):=by
 subst hK
 intro pins s σ H x xs v us Q I rx rs h
 obtain ⟨z,y,rfl,rfl,hy,hz,q⟩:=h
 obtain ⟨t,rfl⟩:=rx
 obtain ⟨u,rfl,t2,rfl⟩:=vals1 rs
 have hy':(y.length==0)=false:=beq_eq_false_iff_ne.mpr (by omega)
 have fin:∀(l:List (Str×Tok)) (k:Nat),l.map (·.1)=Txt.split z y→l.length≤sizeLine→EP X pins σ Q (.ref s.heap.objs.size) { s with heap:=s.heap.push { cls:=.type "list", data:=.seq (strValues l).toArray },toks:=k }:=fun l k e hl =>
  ⟨.ref s.heap.objs.size,_,I.laid (t':=k) (fun b o' hb=>Heap.get?_push_of_some _ hb) (Nat.le_refl _) (show BJ X.prog X.w _ _ _ (.lst ((Txt.split z y).map V.str)) from ⟨by rw [←e];simpa using hl,strValues l,0,by rw [←e];exact OD l,Heap.get?_push_size _ rfl⟩),rfl,q _ (I.hok.fresh (Nat.le_refl _))⟩
 cases h1:(decide (z.length<y.length)||decide (strKind z<strKind y))
 ·cases hf:(occurrences z y 0 z.length (z.length+1)).isEmpty
  ·have es:Txt.split z y=partsBetween z (occurrences z y 0 z.length (z.length+1)) y.length:=(if_neg (ne_true_of_eq_false h1)).trans (if_neg (ne_true_of_eq_false hf))
   have hn:(partsBetween z (occurrences z y 0 z.length (z.length+1)) y.length).length≤sizeLine:=by rw [←es];exact Nat.le_trans (PyProof.Rows.split_le z y) hz
   refine call_meets F.slot_str_split (typeIs_str _ _ _) F.entry_str_split (F.args_str_split_2 _ _) (meets_str_split_sep z y t t2 h1 hy' hf (by omega) hn) ?_
   show wants _ _ _ { s with toks:=_,heap:=s.heap.push { cls:=.type "list", data:=.seq (strsFrom s.toks (partsBetween z (occurrences z y 0 z.length (z.length+1)) y.length)).toArray } }
   rw [strsFrom_eq]
   exact fin (numbered s.toks _) _ ((numbered_texts _ _).trans ((if_neg (ne_true_of_eq_false h1)).trans (if_neg (ne_true_of_eq_false hf))).symm) (by have:=congrArg List.length (numbered_texts s.toks (partsBetween z (occurrences z y 0 z.length (z.length+1)) y.length));rw [List.length_map] at this;omega)
  ·exact call_meets F.slot_str_split (typeIs_str _ _ _) F.entry_str_split (F.args_str_split_2 _ _) (meets_str_split_not_found z y t t2 h1 hy' hf)
    (fin [(z,t)] s.toks ((if_neg (ne_true_of_eq_false h1)).trans (if_pos hf)).symm (show 1≤sizeLine by decide))
 ·exact call_meets F.slot_str_split (typeIs_str _ _ _) F.entry_str_split (F.args_str_split_2 _ _) (meets_str_split_cannot_occur z y t t2 h1)
   (fin [(z,t)] s.toks (if_pos h1).symm (show 1≤sizeLine by decide))
end
theorem XO (c:Nat) (a b:Str) (r:List Str):(Str.join ⟨#[c]⟩ (a::b::r)).cps.toList=a.cps.toList++c::(Str.join ⟨#[c]⟩ (b::r)).cps.toList:=by
 show (a++⟨#[c]⟩++Str.join ⟨#[c]⟩ (b::r)).cps.toList=_
 show ((a.cps++#[c])++(Str.join ⟨#[c]⟩ (b::r)).cps).toList=_
 simp
theorem WN {a b:Str}(h:a.cps.toList=b.cps.toList):a=b:=by
 cases a;simp_all
theorem P0 (x:Str) (c:Nat):Txt.split x ⟨#[c]⟩≠[]:=fun e=>by
 have h:=StrLaws.join_split x ⟨#[c]⟩
 rw [e] at h
 have h:(⟨#[]⟩:Str)=x:=h
 rw [←h] at e
 have e2:Txt.split ⟨#[]⟩ ⟨#[c]⟩=[⟨#[]⟩]:=if_pos (by rw [Bool.or_eq_true];exact .inl rfl)
 rw [e2] at e
 cases e
end L2
namespace L2
open PySem PySem.Spec PyProof.Rows
open MeetsSeq
section
variable {X:Cx}
theorem Kt {α β:Type}{F:α→β→Prop}:∀{l₁:List α}{l₂:List β},Paired F l₁ l₂→∀{i:Nat}{a:α}{b:β},l₁[i]?=some a→l₂[i]?=some b→F a b
 | _,_,.nil,i,a,b,h,_=>by grind
 | _,_,.cons h _,0,a,b,h1,h2=>by
  grind
 | _,_,.cons _ r,i+1,a,b,h1,h2=>Kt r (i:=i) (by grind) (by grind)
theorem XN {k:Key}{v:Value}(h:Il k v=true):RelV (kV k) v:=by
 rcases A7 h with ⟨i,t,rfl,rfl⟩|⟨x,t,rfl,rfl⟩
 ·exact ⟨t,rfl⟩
 ·exact ⟨t,rfl⟩
theorem T6 {kvs:List (Key×V)}{vs:List (Key×Value)}{acc:List Value}(rel:KV kvs vs) (hl:acc.length=vs.length) (h:∀(j:Nat) (v:Value),acc[j]?=some v→∃(k:Key) (x:Value),vs[j]?=some (k,x)/\Il k v=true):Vals (kvs.map fun p=>kV p.1) acc:=by
 refine Bo ?_ ?_
 ·rw [List.length_map,hl];exact Paired.length rel
 ·intro i a b ha hb
  obtain ⟨k,x,hv,hk⟩:=h i b hb
  rw [List.getElem?_map] at ha
  obtain ⟨p,hp,rfl⟩:=Option.map_eq_some_iff.mp ha
  have q:=Kt rel hp hv
  rw [q.1]
  exact XN hk
end
end L2
namespace L2
open PySem
section
variable {prog:Program}{w:World}{A:Around}{E:Value→Shared→Prop}{s:Shared}
end
end L2
set_option maxRecDepth 100000
namespace L2
open PySem PySem.Spec PyProof.Rows
open MeetsSeq
section
variable {X:Cx}{o i value:Expr}{pos pos':Pos}{td ty tv:TE}
end
end L2
namespace L2
open PySem PySem.Spec PyProof.Rows
structure ExF (K:PySem.W.Frag) (C:Addr) (f:Str):Prop where
 ex:ExI K C
 hd:PySem.W.hasDictIn K C=true
 na:PySem.W.findIn K (.ref C) f=some none
 sa:PySem.W.findIn K (.ref C) "__setattr__" = some (some (.builtin "object.__setattr__"))
section
variable {prog:Program}{w:World}{A:Around}{E:Value→Shared→Prop}{K:PySem.W.Frag}{h:Heap}{g:Array GenState}{d:Drawn}{t:Nat}{os:OsState}{a C dx:Addr}{o:Obj}{f:Str}{v:Value}
theorem Vp {mA:Str→Option Value}{vs:Array Value}(hx:h.get? a=some o) (hc:o.cls=.ref C) (hd:o.dict=some dx) (hf:o.data=.fields vs) (n:h.Ns1 dx mA) :
  ∃od,PySem.W.InstAt h a o C (some od)/\∀name,PySem.W.lookIn name od=some (mA name):=by
 obtain ⟨od,ho,hl⟩:=OP n
 refine ⟨od,⟨hx,hc,?_,?_⟩,hl⟩
 ·unfold PySem.W.notCls
  rw [hf]
 ·rw [hd]
  exact ho
theorem Qs {expr:Bool}{Q:Value→Shared→Prop}{mA:Str→Option Value}{vs:Array Value}(X:ExF K C f) (kin:K.In h) (hx:h.get? a=some o) (hc:o.cls=.ref C) (hd:o.dict=some dx) (hf:o.data=.fields vs) (n:h.Ns1 dx mA)
  (hv:mA f=some v) (hv':PySem.W.handedIn v=true) (hq:∀t',Q v ⟨h,g,d,t',os⟩):wpAny (model prog w) A (getAttr (.ref a) f expr) Q E ⟨h,g,d,t,os⟩:=by
 obtain ⟨od,J,hl⟩:=Vp hx hc hd hf n
 have L0:PySem.W.Looks (model prog w) h (typeOf (.ref a)) (.ref C):=Lm hx hc
 have L1:=PySem.W.looks_findIn (M:=model prog w) kin X.ex.ga
 have LH:PySem.W.Looks (model prog w) h (hookBefore (.ref C)) none:=PySem.W.looks_hook kin (by rw [if_pos (show onTheHeap (Value.ref C)=true from rfl)];exact X.ex.gt)
 have L2:=PySem.W.looks_find (M:=model prog w) (name:=f) kin J (PySem.W.findObj_own X.hd X.na rfl (by rw [hl,hv]))
 have f3:=F.attrBase_ValueError.ga.bind (.ref a)
 unfold getAttr getAttrBy
 refine wpAny_bind (wpAny_mkText (wpAny_holding (wpAny_bind (L0.at (wpAny_bind (L1.at ?_))))))
 show wpAny _ _ (getAttrByItsOwn (.ref a) (.str f _) (.ref C) (.builtin "BaseException.__getattribute__") true expr) _ _ _
 unfold getAttrByItsOwn
 refine wpAny_bind (LH.at (wpAny_bind (wpAny_attempt (wpAny_holding ?_))))
 have hb:callGetattribute (.ref a) (.str f t) (.builtin "BaseException.__getattribute__") expr=boundAndCalled (.builtin "BaseException.__getattribute__") (.ref a) (.str f t):=by
  unfold callGetattribute
  cases expr <;> rfl
 rw [hb]
 unfold boundAndCalled
 rw [f3]
 refine wpAny_bind (wpAny_pure (wpAny_call ?_))
 refine codeAny_call_builtin F.attrBase_ValueError.ga.plain F.entry_bexc_ga (OW X.ex kin hx hc ?_)
 unfold Builtin.«object.__getattribute__»
 repeat (any_goals (first|assumption|with_reducible refine L0.at ?_|with_reducible refine L2.at ?_|wp_step))
 show wpAny _ _ (handedOut v) _ _ _
 rw [PySem.W.handedOut_of hv']
 exact wpAny_pure (hq _)
theorem UB {Q:Unit→Shared→Prop}{vs:Array Value}(X:ExF K C f) (kin:K.In h) (hm:∃cd own,PySem.W.clsIn K C=some cd/\cd.mro=own++[.type "ValueError", .type "Exception", .type "BaseException", .type "object"]/\∀c∈own,∃b,c=.ref b)
  (hx:h.get? a=some o) (hc:o.cls=.ref C) (hd:o.dict=none) (hf:o.data=.fields vs) (hne:a≠C)
  (hq:∀h' t',h'.Ns1 h.objs.size (fun y=>if y=f then some v else none)→h'.get? a=some { o with dict:=some h.objs.size }→(∀b u,b≠a→h.get? b=some u→h'.get? b=some u)→Q () ⟨h',g,d,t',os⟩) :
  wpAny (model prog w) A (setAttr (.ref a) f v) Q E ⟨h,g,d,t,os⟩:=by
 obtain ⟨oc,od,odt,osl⟩:=o
 have hc:oc=.ref C:=hc
 have hd:od=none:=hd
 have hf:odt=.fields vs:=hf
 subst hc hd hf
 have L0:PySem.W.Looks (model prog w) h (typeOf (.ref a)) (.ref C):=Lm hx rfl
 have L1:=PySem.W.looks_findIn (M:=model prog w) kin X.sa
 have L2:=PySem.W.looks_findIn (M:=model prog w) kin X.na
 have SF:=F.store_ValueError
 have f3:=SF.slot.bind (.ref a)
 obtain ⟨cd,own,hcd,hmro,hown⟩:=hm
 have L3:PySem.W.Looks (model prog w) h (mroOf (.ref C)) cd.mro:=(PySem.W.looks_clsIn kin hcd).andThen .now
 have hpass:refuseLoop (.ref a) "__setattr__" cd.mro=pure ():=by
  rw [hmro]
  clear hmro
  induction own with
  | nil=>exact SF.passes (.ref a)
  | cons c r ih =>
   obtain ⟨b,rfl⟩:=hown c List.mem_cons_self
   exact (refuseLoop_ref _ _ _ _).trans (ih fun c hc=>hown c (List.mem_cons_of_mem _ hc))
 unfold setAttr callSpecial? specialOf
 repeat (any_goals (first|assumption|with_reducible refine L0.at ?_|with_reducible refine L1.at ?_|wp_step))
 have LS:PySem.W.Looks (model prog w) h (isInstance (.ref a) (.type "object")) true:=L0.andThen (PySem.W.looks_subIn kin X.ex.so)
 refine codeAny_call_builtin SF.slot.plain SF.entry (@PySem.W.check_slot (model prog w) _ _ _ "object.__setattr__" "object" "__setattr__" (.ref a) [.str f _,v] [] _ SF.kind SF.split LS (SF.args (.ref a) (.str f _) v) ?_)
 have L4:=PySem.W.looks_clsIn (M:=model prog w) kin hcd
 have hhd:cd.hasDict=true:=by
  obtain ⟨cd',e1,e2⟩:=PySem.W.any_some X.hd
  rw [hcd] at e1
  cases e1
  exact e2
 have LD:∀{Q':Option Addr→Shared→Prop} {E':Value→Shared→Prop} {A':Around} {t':Nat},Q' (some h.objs.size) ⟨(h.push { cls:=.type "dict", data:=.dict #[] }).update a fun o=>{ o with dict:=some h.objs.size },g,d,t',os⟩→wpAny (model prog w) A' (instanceDict a true) Q' E' ⟨h,g,d,t',os⟩:=by
  intro Q' E' A' t' q
  have hx₁:(h.push { cls:=.type "dict", data:=.dict #[] }).get? a=some ⟨.ref C,none,.fields vs,osl⟩:=Heap.get?_push_of_some _ hx
  unfold instanceDict
  refine wpAny_bind (wpAny_loadPart_at hx (wpAny_bind (L4.at ?_)))
  rw [hhd]
  exact wpAny_bind (wpAny_alloc' (wpAny_bind (wpAny_update' hx₁ (wpAny_pure q))))
 have LT:∀{Q':Fin→Shared→Prop} {E':Value→Shared→Prop} {A':Around} {t' tk:Nat},(∀h' t',h'.Ns1 h.objs.size (fun y=>if y=f then some v else none)→h'.get? a=some ⟨.ref C,some h.objs.size,.fields vs,osl⟩→(∀b u,b≠a→h.get? b=some u→h'.get? b=some u)→Q' (.done (.ret .none)) ⟨h',g,d,t',os⟩) →
   wpAny (model prog w) A' (Builtin.ObjectAttr.storeInDict h.objs.size (.str f tk) f v) Q' E' ⟨(h.push { cls:=.type "dict", data:=.dict #[] }).update a fun o=>{ o with dict:=some h.objs.size },g,d,t',os⟩:=by
  intro Q' E' A' t' tk q
  have hx₁:(h.push { cls:=.type "dict", data:=.dict #[] }).get? a=some ⟨.ref C,none,.fields vs,osl⟩:=Heap.get?_push_of_some _ hx
  have hxs:a≠h.objs.size:=Nat.ne_of_lt (Heap.lt_size hx)
  have hgd:((h.push { cls:=.type "dict", data:=.dict #[] }).update a fun o=>{ o with dict:=some h.objs.size }).get? h.objs.size=some { cls:=.type "dict", data:=.dict #[] } :=
   (Heap.get?_update_ne _ _ _ _ hxs.symm).trans (Heap.get?_push_at rfl rfl)
  have hnd:((h.push { cls:=.type "dict", data:=.dict #[] }).update a fun o=>{ o with dict:=some h.objs.size }).Ns h.objs.size (fun _=>none) :=
   ⟨_,#[],_,hgd,rfl,fun e he=>absurd he (by simp),fun _=>rfl⟩
  unfold Builtin.ObjectAttr.storeInDict Builtin.ObjectAttr.newKeyGuard
  refine wpAny_bind (wpAny_pure (wpAny_bind (wpAny_nsSet1 (Heap.Ns1.of_empty hnd) fun h' hn' hs=>?_)))
  obtain ⟨oD,esD,epD,hoD,hdD,hcD⟩:=hn'.count (Within.cons f v Within.nil)
  refine wpAny_bind (wpAny_lookBehind hoD (by rw [hdD];exact pastItsLine_dict (Nat.le_trans hcD (by rw [List.length_cons,List.length_nil,sizeLine_eq];omega))) ?_)
  refine wpAny_pure (q h' _ hn' ?_ fun b u hb e=>?_)
  ·exact (hs.2 a hxs).trans (Heap.get?_update_self _ hx₁ rfl)
  ·exact (hs.2 b (Nat.ne_of_lt (Heap.lt_size e))).trans ((Heap.get?_update_ne _ _ _ _ hb).trans (Heap.get?_push_of_some _ e))
 unfold Builtin.«object.__setattr__»
 repeat (first|rw [refuse_eq]|rw [hpass]|with_reducible refine L0.at ?_|with_reducible refine L3.at ?_|with_reducible refine L2.at ?_|with_reducible refine LD ?_|(with_reducible refine LT fun h' t' n1 n2 n3=>?_;exact wpAny_pure (wpAny_pure (hq h' t' n1 n2 n3)))|wp_step)
end
abbrev VB:List Value:=[.type "ValueError", .type "Exception", .type "BaseException", .type "object"]
structure ExP (K:PySem.W.Frag) (C cF fI:Addr) (f:Str):Prop where
 lk:∃(nm q:Str) (NS:Addr) (bs:List Value) (hdct:Bool) (sn:List Str) (sub:List Value) (ab:Bool) (col:Option Bool) (dd:Option Addr) (k0 k1 k2 k3 k5:Option Value),
  K.lookup C=some (excClassObj nm q C NS bs (.ref cF::VB) hdct sn sub ab col dd k0 k1 k2 k3 k5 "ValueError.__new__")
 tl:PySem.W.excIn K cF VB "ValueError.__new__" = true
 init:PySem.W.findIn K (.ref C) "__init__" = some (some (.ref fI))
 fn:PySem.W.isFn K (.ref fI)=true
 fl:ExF K C f
theorem ExP.mro {K:PySem.W.Frag}{C cF fI:Addr}{f:Str}(X:ExP K C cF fI f):∃cd own,PySem.W.clsIn K C=some cd/\cd.mro=own++[.type "ValueError", .type "Exception", .type "BaseException", .type "object"]/\∀c∈own,∃b,c=.ref b:=by
 obtain ⟨nm,q,NS,bs,hdct,sn,sub,ab,col,dd,k0,k1,k2,k3,k5,lk⟩:=X.lk
 refine ⟨_,[.ref C,.ref cF],by unfold PySem.W.clsIn;rw [lk],rfl,fun c hc=>?_⟩
 simp only [List.mem_cons,List.not_mem_nil,or_false] at hc
 rcases hc with rfl|rfl <;> exact ⟨_,rfl⟩
theorem ExP.tail {K:PySem.W.Frag}{C cF fI:Addr}{f:Str}(X:ExP K C cF fI f) {h:Heap}(kin:K.In h):OwnTail h VB (.ref cF::VB):=by
 obtain ⟨bm,⟨nm,q,NS,bs,hdct,sn,sub,ab,col,dd,k0,k1,k2,k3,k5,lk,more⟩⟩:=Y2 X.tl
 obtain ⟨⟨mN,hN,hni⟩,_⟩:=more h kin
 exact .own (kin _ _ lk) hN hni .base
def KN (e C t:Addr) (dd:Option Addr):HO:=.ext fun h=>h.get? e=some ⟨.ref C,dd,.fields #[.ref t,.none,.none,.none,.bool false,.none],#[]⟩
section
variable {X:Cx}{o e value:Expr}{f:Str}{pos pos':Pos}{ta tv:TE}
def ZP (K:PySem.W.Frag) (ta:TE) (f:Str):TE:=fun σ H Q=>ta σ H fun x H1=>∃a C dx fs v,x=.ref a/\H1 a=some (SE a (.ref C) (some dx))/\H1 dx=some (.xd fs)/\ExF K C f/\fs.lookup f=some v/\Q v H1
theorem Wq (he:PE X e ta) (hb:attributeBase e f X.env (eval e X.env)=eval e X.env):PE X (.Attribute e f pos) (ZP X.K ta f):=by
 intro pins s σ H Q I h
 refine TM hb (thn (he pins s σ H _ I h) fun u s1 ⟨x,H1,I1,rx,a,C,dx,fs,v,ex,ea,ed,c,l,q⟩=>?_)
 subst ex
 obtain rfl:u=Value.ref a:=rx
 obtain ⟨o,ho,hc,hd,vs,hf⟩:=(I1.hok a _ ea).1
 obtain ⟨mA,hn,r⟩:=I1.hok dx _ ed
 obtain ⟨u,hu,ru⟩:=GY.some_of (v:=v) (o:=mA f) (by rw [←l];exact r f)
 obtain ⟨hp,g,d,t,os⟩:=s1
 exact Qs c I1.kIn ho hc hd hf hn hu (OV ru) fun t'=>⟨v,H1,I1.tok t',ru,q⟩
def Zp (K:PySem.W.Frag) (ta tv:TE) (f:Str):TS:=fun D σ H=>tv σ H fun y H1=>ta σ H1 fun x H2=>∃a C cF fI t,x=.ref a/\H2 a=some (KN a C t none)/\ExP K C cF fI f /\
 ∀dx,H2 dx=none→D.nx σ (upd (upd H2 dx (.xd [(f,y)])) a (KN a C t (some dx)))
theorem Wm (ha:PE X o ta) (hv:PE X value tv) (hs:swapsWith value (some (.Attribute o f pos')) pos.line X.env=pure false):PS X (.Assign [.Attribute o f pos'] value pos) (Zp X.K ta tv f):=by
 intro pins s σ H D I h
 refine plainObj_wpAny_Assign_Attribute (thn (hv pins s σ H _ I h) fun u s1 ⟨y,H1,I1,ry,q⟩=>thn (ha pins s1 σ H1 _ I1 q) fun ov s2 ⟨x,H2,I2,rx,a,C,cF,fI,t,ex,ea,c,q2⟩=>?_) hs
 subst ex
 obtain rfl:ov=Value.ref a:=rx
 have ho:s2.heap.get? a=some ⟨.ref C,none,.fields #[.ref t,.none,.none,.none,.bool false,.none],#[]⟩:=(I2.hok a _ ea).1
 obtain ⟨hp,g,d,tk,os⟩:=s2
 have ho:hp.get? a=some ⟨.ref C,none,.fields #[.ref t,.none,.none,.none,.bool false,.none],#[]⟩:=ho
 have hal:=Heap.lt_size ho
 refine UB c.fl I2.kIn c.mro ho rfl rfl rfl (fun z=>?_) fun h' t' n1 n2 n3=>?_
 ·obtain ⟨nm,q,NS,bs,hdct,sn,sub,ab,col,dd,k0,k1,k2,k3,k5,lk⟩:=c.lk
  have:=I2.kIn _ _ lk
  rw [←z] at this
  have this:hp.get? a=_:=this
  rw [ho] at this
  cases this
 obtain ⟨oD,esD,epD,hoD,rD⟩:=id n1
 have hfr:H2 hp.objs.size=none:=I2.hok.fresh (Nat.le_refl _)
 have nfree:oD.isFreed=false:=(Heap.get?_some_iff.mp hoD).2
 have e1:(hp.push oD).get? hp.objs.size=some oD:=Heap.get?_push_size hp nfree
 have N1:(hp.push oD).Ns1 hp.objs.size (fun y=>if y=f then some u else none):=n1.at fun o z=>by
  rw [hoD] at z
  cases z
  exact e1
 have J1:Inv X pins σ (upd H2 hp.objs.size (.xd [(f,y)])) ⟨hp.push oD,g,d,tk,os⟩:=I2.laid (a:=hp.objs.size) (o:=.xd [(f,y)]) (h':=hp.push oD) (t':=tk) (fun b u q=>Heap.get?_push_of_some _ q) (Nat.le_refl _) ⟨_,N1,fun n=>by
  show GY (List.lookup n [(f,y)]) (if n=f then some u else none)
  by_cases z:n=f
  ·have hb:(n==f)=true:=beq_iff_eq.mpr z
   simp only [List.lookup,hb,if_pos z]
   exact ry
  ·have hb:(n==f)=false:=beq_eq_false_iff_ne.mpr z
   simp only [List.lookup,hb,if_neg z]
   trivial⟩
 have hna:a≠hp.objs.size:=Nat.ne_of_lt hal
 have ea':upd H2 hp.objs.size (.xd [(f,y)]) a=some (KN a C t none):=by rw [AM hna];exact ea
 have J2:=J1.write (x:=a) (e:=a) (o:=KN a C t (some hp.objs.size)) (h':=h') (t':=t') (by rw [ea'];exact True.intro) (.inl rfl) (fun b v hb z=>?_) ⟨_,n2⟩ ⟨n2,⟨_,n2⟩,fun h1 h2 e k=>k _ e⟩
 ·exact ⟨σ,_,J2,q2 hp.objs.size hfr⟩
 ·rcases Heap.get?_push_cases (show (hp.push oD).get? b=some v from z) with ⟨rfl,rfl⟩|z
  ·exact hoD
  ·exact n3 b v hb z
end
section
variable {prog:Program}{w:World}{A:Around}{E:Value→Shared→Prop}{K:PySem.W.Frag}{h:Heap}{g:Array GenState}{d:Drawn}{t:Nat}{os:OsState}{C cF fI:Addr}{f:Str}
def F7 (h:Heap) (C:Addr) (us:List Value):Heap:=(h.push { cls:=.type "tuple", data:=.seq us.toArray }).push { cls:=.ref C,data:=.fields #[.ref h.objs.size,.none,.none,.none,.bool false,.none] }
theorem Vq {us:List Value}{Q:Value→Shared→Prop}(X:ExP K C cF fI f) (kin:K.In h) (hl:us.length≤sizeLine)
  (hq:wpAny (model prog w) (A.under (.builtin "type.__call__" ⟨.ref C::us,[]⟩)) (call (.ref fI) (.ref (h.objs.size+1)::us)) (fun r s'=>r=.none/\Q (.ref (h.objs.size+1)) s') E ⟨F7 h C us,g,d,t,os⟩) :
  wpAny (model prog w) A (call (.ref C) us) Q E ⟨h,g,d,t,os⟩:=by
 obtain ⟨nm,q,NS,bs,hdct,sn,sub,ab,col,dd,k0,k1,k2,k3,k5,lk⟩:=X.lk
 have hC:h.get? C=_:=kin _ _ lk
 have T:=X.tail kin
 have f1:=tc_lookup
 have f2:=tc_bind (.ref C)
 have hT:(⟨h,g,d,t,os⟩:Shared).TypeIs (.ref C) "type" := ⟨_,hC,rfl⟩
 refine wpAny_call (codeAny_of_tree ?_)
 show wpAny _ _ (callAny (.ref C) _) _ _ _
 repeat (any_goals (first|assumption|with_reducible refine wpAny_loadPart_at hC ?_|wp_step))
 refine ⟨rfl,?_⟩
 refine codeAny_call_builtin_at (Code.quiet_builtin _ (by decide +kernel)) entry_typeCall (wpAny_check_type_call_sub hC ?_)
 have FB:=PySem.F.excBase_ValueError
 repeat (first|with_reducible refine wpAny_loadPart_at hC ?_|with_reducible refine wpAny_madeBy_exc hC ?_|wp_step)
 refine codeAny_call_builtin_code (Code.quiet_builtin _ FB.quiet) (wpAny_check_new_subU FB (by decide) T hC ?_)
 refine codeAny_exc_new_subU FB (by decide) FB T hC ?_ hl
 show wpAny _ _ _ _ _ ⟨F7 h C us,g,d,t,os⟩
 have kp:∀b o,h.get? b=some o→(F7 h C us).get? b=some o:=fun b o e=>Heap.get?_push_of_some _ (Heap.get?_push_of_some _ e)
 have kin':K.In (F7 h C us):=fun b o e=>kp b o (kin b o e)
 have hC₁:=kp _ _ hC
 have hget:(F7 h C us).get? (h.objs.size+1)=some { cls:=.ref C,data:=.fields #[.ref h.objs.size,.none,.none,.none,.bool false,.none] }:=by unfold F7;heap_get
 have LI:=PySem.W.looks_findIn (M:=model prog w) kin' X.init
 have LB:=PySem.W.bind_fn (M:=model prog w) kin' (.ref (h.objs.size+1)) (beq_iff_eq.mp X.fn)
 have hcC:(Value.ref C::.ref cF::VB).contains (.ref C)=true:=by simp
 unfold isInstance
 repeat (first|with_reducible refine wpAny_loadPart_at hget ?_|(with_reducible refine wpAny_isSubtype_exc hC₁ ?_;rw [hcC])|wp_step)
 show wpAny _ _ (typeLookup (.ref C) _) _ _ _
 refine LI.at (wpAny_holding (wpAny_bind (LB.at (wpAny_bind (wpAny_mono hq (fun r s' hr=>?_) fun _ _ z=>z)))))
 obtain ⟨rfl,hQ⟩:=hr
 wp_walk
 exact hQ
end
def RD (K:PySem.W.Frag) (f:Str):Sp:=fun vs H Q _=>∃e C cF fI t v,vs=[.ref e,v]/\H e=some (KN e C t none)/\ExP K C cF fI f/\∀dx,H dx=none→Q .non (upd (upd H dx (.xd [(f,v)])) e (KN e C t (some dx)))
section
variable {P:Program}{w:World}{K:PySem.W.Frag}{mg:Str→Option Value}{base:Heap}{N:List Str}{qual:Str}{scope:Scope}{f:Addr}{cd:Value}{A:Around}{outer:List Env}{s₀:Shared}{H₀:Hp}{E':XK}{fl:Str}
theorem Ys {pins:List (Addr×Obj)}{σ:St}{H1:Hp}{s2 s3:Shared}{e C t dx:Addr}{v:V}
  (I2:Inv (Di (CXF P w) P w K mg base N qual scope f cd A outer s₀ H₀ E') pins σ H1 s2) (he2:s2.heap.get? e=none) (hd1:H1 dx=none) (hde:dx≠e)
  (I3:Inv (Di (CXF P w) P w K mg base N qual scope f cd A outer s₀ H₀ E') pins σ (upd (upd (upd H1 e (KN e C t none)) dx (.xd [(fl,v)])) e (KN e C t (some dx))) s3)
  (q:E' (.ref C) (some dx) (upd H1 dx (.xd [(fl,v)]))):(Di (CXF P w) P w K mg base N qual scope f cd A outer s₀ H₀ E').xe (.ref e) s3:=by
 have hfr:=I3.ok.frames
 have FF:=I3.stack
 have he1:H1 e=none:=by
  cases z:H1 e with
  | none=>rfl
  | some u =>
   obtain ⟨o',q1⟩:=(I2.hok e u z).got
   rw [he2] at q1;cases q1
 generalize hH3:upd (upd (upd H1 e (KN e C t none)) dx (.xd [(fl,v)])) e (KN e C t (some dx))=H3 at I3
 have h3e:H3 e=some (KN e C t (some dx)):=by rw [←hH3,AG]
 have h3:∀b,b≠e→H3 b=upd H1 dx (.xd [(fl,v)]) b:=fun b hb=>by
  rw [←hH3,AM hb]
  unfold upd
  rw [if_neg hb]
 have hHe:upd H1 dx (.xd [(fl,v)]) e=none:=by rw [AM hde.symm];exact he1
 have h3':∀b u,upd H1 dx (.xd [(fl,v)]) b=some u→b≠e/\H3 b=some u:=fun b u z=>by
  have hb:b≠e:=fun z2=>by rw [z2,hHe] at z;cases z
  exact ⟨hb,by rw [h3 b hb];exact z⟩
 have hoe:s3.heap.get? e=some ⟨.ref C,some dx,.fields #[.ref t,.none,.none,.none,.bool false,.none],#[]⟩:=(I3.hok e _ h3e).1
 let hid:=e::frs (envOfC qual scope s₀.heap.objs.size f cd::outer)
 let B:=PySem.W.hideAll s3.heap hid
 have hB:B.StaysIn s3.heap:=fun b o z=>PySem.W.of_hideAll _ z
 have inB:∀b o,s3.heap.get? b=some o→b≠e→b∉frs (envOfC qual scope s₀.heap.objs.size f cd::outer)→B.get? b=some o:=fun b o z n1 n2=>PySem.W.hideAll_get _ z fun hm=>(List.mem_cons.mp hm).elim n1 n2
 have FB:s3.heap.FunFrames B (envOfC qual scope s₀.heap.objs.size f cd::outer):=PySem.W.funFrames_hide FF fun env he a ha=>List.mem_cons_of_mem _ (List.mem_filterMap.mpr ⟨env,he,ha⟩)
 have eB:B.get? e=none:=PySem.W.hideAll_none _ List.mem_cons_self
 have nst:∀b o,s₀.heap.get? b=some o→b≠e:=fun b o e1 z=>by
  obtain ⟨o2,e2⟩:=I2.base.there b o e1 (by simp [Di])
  rw [z,he2] at e2
  cases e2
 have cov:∀b o,s₀.heap.get? b=some o→b∉frs outer→∃o',B.get? b=some o'/\(H₀ b=none→o'=o):=fun b o e1 hb=>by
  have hb2:b∉frs (envOfC qual scope s₀.heap.objs.size f cd::outer):=fun hm=>by
   unfold frs at hm
   rw [List.filterMap_cons] at hm
   rcases List.mem_cons.mp hm with z|z
   ·rw [z] at e1
    exact Nat.lt_irrefl _ (Heap.lt_size e1)
   ·exact hb z
  by_cases n:H₀ b=none
  ·have e2:=I3.base.keep b o e1 n hb (by simp [Di])
   exact ⟨o,inB b o e2 (nst b o e1) hb2,fun _=>rfl⟩
  ·obtain ⟨o2,e2⟩:=I3.base.there b o e1 (by simp [Di])
   exact ⟨o2,inB b o2 e2 (nst b o e1) hb2,fun z=>absurd z n⟩
 have free3:∀b u,H3 b=some u→b∉frs (envOfC qual scope s₀.heap.objs.size f cd::outer):=fun b u z hm=>by
  have n:=I3.Ov b hm
  rw [n] at z;cases z
 have hokB:HOk P w (upd H1 dx (.xd [(fl,v)])) B:=fun a o z=>by
  obtain ⟨hae,z3⟩:=h3' a o z
  refine (I3.hok a o z3).KU (fun b u hb z2=>?_) (fun b zb=>?_) fun b xs zb=>?_
  ·rcases hb with rfl|hb
   ·exact inB b u z2 hae (free3 b _ z3)
   ·refine inB b u z2 (fun zz=>?_) (free3 b _ hb)
    rw [zz,h3e] at hb
    cases hb
  ·have hb:b≠e:=fun zz=>by rw [zz,h3e] at zb;cases zb
   rw [←h3 b hb];exact zb
  ·have hb:b≠e:=fun zz=>by rw [zz,h3e] at zb;cases zb
   rw [←h3 b hb];exact zb
 have un:Un (frs outer) [] H₀ (upd H1 dx (.xd [(fl,v)])) s₀.heap s3.heap:=⟨I3.base.keep,I3.base.slot,fun b o e1 n hx=>by
   have:=I3.base.free b o e1 n hx
   rw [←h3 b (nst b o e1)];exact this,
  I3.base.there,fun b xs zb=>by
   have zb:=I3.base.KP b xs zb
   have hb:b≠e:=fun zz=>by rw [zz,h3e] at zb;cases zb
   rw [←h3 b hb];exact zb,
  fun b o u zb=>by
   have zb:=I3.base.KI b o u zb
   have hb:b≠e:=fun zz=>by rw [zz,h3e] at zb;cases zb
   rw [←h3 b hb];exact zb,
  fun b ps zb=>by
   obtain ⟨more,zb⟩:=I3.base.KQ b ps zb
   have hb:b≠e:=fun zz=>by rw [zz,h3e] at zb;cases zb
   exact ⟨more,by rw [←h3 b hb];exact zb⟩⟩
 show wpAny (model P w) _ (leaving _ (.ref e)) _ _ _
 refine Nz (base:=B) (a0:=.ref t) hfr FB rfl hoe hB eB rfl rfl rfl fun h2 fly up hdd=>⟨e,.ref C,_,_,B,some dx,rfl,I3.os,I3.bare,hokB,fly,?_,cov,hdd,q⟩
 refine Un.TQ un up (fun b o e1 hb=>?_) fun b o e1 hb=>?_
 ·obtain ⟨_,o1,e2,h2'⟩:=FF.mem (b:=b) (show b∈s₀.heap.objs.size::frs outer from List.mem_cons_of_mem _ hb)
  rw [e1] at e2
  cases e2
  exact h2'
 ·obtain ⟨o',e2,q2⟩:=cov b o e1 hb
  exact ⟨o',fly.1 _ _ e2,q2⟩
theorem JJ {x:Str}{np cpos pos:Pos}{e:Expr}{te:TE}{C cF fI:Addr}{fd:FuncData}{k:Nat}{ps:List Str}(XP:ExP K C cF fI fl) (F:Ao P w K mg base CX0 k fI fd ps (RD K fl)) (hb:Binds K fd ps [])
  (hr:Co (k+1) (Di (CXF P w) P w K mg base N qual scope f cd A outer s₀ H₀ E').A)
  (hm:PE (Di (CXF P w) P w K mg base N qual scope f cd A outer s₀ H₀ E') (.Name x np) (tC (.ref C))) (he:PE (Di (CXF P w) P w K mg base N qual scope f cd A outer s₀ H₀ E') e te)
  (hts:backTo cpos (starEach [e] (envOfC qual scope s₀.heap.objs.size f cd))=[(false,eval e (envOfC qual scope s₀.heap.objs.size f cd))]:=by rfl) :
  PS (Di (CXF P w) P w K mg base N qual scope f cd A outer s₀ H₀ E') (.Raise (some (.Call (.Name x np) [e] [] cpos)) none pos) (fun D σ H=>te σ H fun v H1=>∀dx,H1 dx=none→E' (.ref C) (some dx) (upd H1 dx (.xd [(fl,v)]))):=by
 intro pins s σ H D I h
 obtain ⟨nm,q,NS,bs,hdct,sn,sub,ab,col,dd,k0,k1,k2,k3,k5,lk⟩:=XP.lk
 have ev:∀(Q:VK),Q (.ref C) H→wpAny (model P w) _ (eval (.Name x np) _) (EP (Di (CXF P w) P w K mg base N qual scope f cd A outer s₀ H₀ E') pins σ Q) _ s:=fun Q hq=>hm pins s σ H Q I hq
 have hd:(Di (CXF P w) P w K mg base N qual scope f cd A outer s₀ H₀ E').A.handled=none:=I.ok.hd rfl
 have hcB:(Value.ref C::.ref cF::VB).contains (.type "BaseException")=true:=by simp
 rw [arm_exec_Raise]
 simp only [evalOpt,Option.map]
 refine wpAny_bind (wpAny_standAt ?_)
 unfold raiseStmt
 refine wpAny_bind (wpAny_bind (wpAny_mono (wpAny_Call_ofName (wpAny_mono (ev (fun v H1=>v=.ref C/\H1=H) ⟨rfl,rfl⟩) (fun fv s1 z1=>?_) fun _ _ z=>z)) (fun v s3 h3=>wpAny_bind (wpAny_standAt (wpAny_pure h3))) fun _ _ z=>z))
 obtain ⟨v0,H1,I1,r1,e1,e2⟩:=z1
 subst e1 e2
 obtain rfl:fv=Value.ref C:=r1
 have hts2:backTo cpos (starEach [e] (Di (CXF P w) P w K mg base N qual scope f cd A outer s₀ H₀ E').env)=[(false,eval e (envOfC qual scope s₀.heap.objs.size f cd))]:=hts
 unfold callWith
 rw [hts2]
 refine wpAny_bind (wpAny_holding ?_)
 refine Calls.evalArgs_plain (Calls.spliced_cons (thn (he pins s1 σ _ _ I1 h) fun u2 s2 ⟨y,H2,I2,ry,q2⟩=>Calls.spliced_nil ?_))
 refine wpAny_bind (wpAny_standAt ?_)
 have hC2:=I2.kIn C _ lk
 obtain ⟨hp,g,d,tk,os⟩:=s2
 refine wpAny_bind (wpAny_keeperOf_exc hC2 ?_)
 show wpAny _ _ (call (.ref C) [u2] >>= fun r=>_) _ _ _
 refine wpAny_bind (Vq XP I2.kIn (by show 1≤sizeLine;decide) ?_)
 have hfr1:H2 (hp.objs.size+1)=none:=I2.hok.fresh (Nat.le_succ _)
 have hget:(F7 hp C [u2]).get? (hp.objs.size+1)=some ⟨.ref C,none,.fields #[.ref hp.objs.size,.none,.none,.none,.bool false,.none],#[]⟩:=by unfold F7;heap_get
 have J:Inv (Di (CXF P w) P w K mg base N qual scope f cd A outer s₀ H₀ E') pins σ (upd H2 (hp.objs.size+1) (KN (hp.objs.size+1) C hp.objs.size none)) ⟨F7 hp C [u2],g,d,tk,os⟩ :=
  I2.laid (t':=tk) (fun b o e=>Heap.get?_push_of_some _ (Heap.get?_push_of_some _ e)) (Nat.le_succ _) ⟨hget,⟨_,hget⟩,fun h1 h2 e k=>k _ e⟩
 have r2:Vals [V.ref (hp.objs.size+1),y] [Value.ref (hp.objs.size+1),u2]:=.cons rfl (.cons ry .nil)
 have sp2:RD K fl [.ref (hp.objs.size+1),y] (upd H2 (hp.objs.size+1) (KN (hp.objs.size+1) C hp.objs.size none)) (fun v H3=>v=.non/\∃dx,H2 dx=none/\dx≠hp.objs.size+1/\H3=upd (upd (upd H2 (hp.objs.size+1) (KN (hp.objs.size+1) C hp.objs.size none)) dx (.xd [(fl,y)])) (hp.objs.size+1) (KN (hp.objs.size+1) C hp.objs.size (some dx))) E0:=by
  refine ⟨_,C,cF,fI,_,y,rfl,AG,XP,fun dx hdx=>⟨rfl,dx,?_,?_,rfl⟩⟩
  ·have hne:dx≠hp.objs.size+1:=fun z=>by rw [z,AG] at hdx;cases hdx
   rw [AM hne] at hdx
   exact hdx
  ·exact fun z=>by rw [z,AG] at hdx;cases hdx
 have hl:([Value.ref (hp.objs.size+1),u2]:List Value).length=ps.length:=by rw [←r2.length];exact F.len _ _ _ _ sp2
 refine wpAny_call (codeAny_mono (F.run _ (Di (CXF P w) P w K mg base N qual scope f cd A outer s₀ H₀ E').stack _ _ ⟨[Value.ref (hp.objs.size+1),u2],[]⟩ [Value.ref (hp.objs.size+1),u2] _ _ E0 (hr.make C [u2] [])
  (J.Vu.make C [u2] []) (by have:=hb _ [Value.ref (hp.objs.size+1),u2] J.kIn (by simpa using hl);simpa using this) r2 sp2) fun rr s' hq'=>?_)
 cases rr with
 | error ev=>exact hq'.elim
 | ok fl2 =>
  cases fl2 with
  | ret u =>
   obtain ⟨v,H',I3,rv,ev,dx,hd1,hde,rfl⟩:=J.after hq'
   subst ev
   refine ⟨rv,wpAny_bind (wpAny_holding (wpAny_point (wpAny_pure ?_)))⟩
   have hoe:s'.heap.get? (hp.objs.size+1)=some ⟨.ref C,some dx,.fields #[.ref hp.objs.size,.none,.none,.none,.bool false,.none],#[]⟩:=(I3.hok _ _ AG).1
   have hC3:=I3.kIn C _ lk
   have fin:=Ys I2 (Heap.get?_none_of_le (Nat.le_succ _)) hd1 hde I3 (q2 dx hd1)
   obtain ⟨hp3,g3,d3,tk3,os3⟩:=s'
   repeat (first|with_reducible refine wpAny_loadPart_at hoe ?_|with_reducible refine wpAny_loadPart_at hC3 ?_|(with_reducible refine wpAny_isSubtype_exc hC3 ?_;rw [hcB])|wp_step)
   exact wpAny_raiseNew_none hd fin
  | next=>exact False.elim hq'
  | brk=>exact False.elim hq'
  | cont=>exact False.elim hq'
end
end L2
namespace L2
open PySem PySem.Spec PyProof.Rows
theorem Fx {a b:Int}{A B:Prop}(h1:a=b→A) (h2:¬ a=b→B):if decide (V.int a=V.int b)=true then A else B :=
 By (fun e=>h1 (V.int.inj (of_decide_eq_true e))) fun e=>h2 fun z=>of_decide_eq_false e (congrArg V.int z)
theorem K4 {a b:Str}{A B:Prop}(h1:a=b→A) (h2:¬ a=b→B):if decide (V.str a=V.str b)=true then A else B :=
 By (fun e=>h1 (V.str.inj (of_decide_eq_true e))) fun e=>h2 fun z=>of_decide_eq_false e (congrArg V.str z)
theorem NY {c:Prop}[Decidable c] {A B:Prop}(h1:c→A) (h2:¬ c→B):if decide c=true then A else B :=
 (by grind)
theorem Qn {c:Bool}{A B:Prop}(h:if c=true then B else A):if (!c)=true then A else B:=by
 cases c
 ·exact h
 ·exact h
theorem AO.Q7 {H:Hp}{a:Addr}{o:HO}(h:H a=none):AO H (L2.upd H a o):=(AO.refl H).upd h
end L2
namespace Srt
open PySem PyProof.Rows
structure Cmp (prog:Program) (w:World) (A:Around) (s:Shared) (κ:SortKind) (O:KeyOrd) (kf:Value→O.α) (a₀:Array Keyed):Prop where
 ask:∀p∈a₀.toList,∀q∈a₀.toList,∀(Q:Bool→Shared→Prop) (E:Value→Shared→Prop),Q (O.blt (kf p.1) (kf q.1)) s→wpAny (model prog w) A (keyLt' κ p.1 q.1) Q E s
structure SB (κ:SortKind) (a₀:Array Keyed) (st:SortSt):Prop where
 perm:(arrOf st).Perm a₀
 kind:kindOf st=κ
 failed:failedOf st=none
def KX {O:KeyOrd}(kf:Value→O.α) (xs:Array Keyed) (i:Nat):O.α:=kf ((xs[i]?.map (·.1)).getD .none)
def Up {O:KeyOrd}(kf:Value→O.α) (xs:Array Keyed) (lo hi:Nat):Prop:=∀i j,lo≤i→i≤j→j<hi→O.kle (KX kf xs i) (KX kf xs j)
theorem Ik {O:KeyOrd}{kf:Value→O.α}{xs ys:Array Keyed}{i j:Nat}(h:xs[i]?=ys[j]?):KX kf xs i=KX kf ys j:=by unfold KX;rw [h]
section
variable {prog:Program}{w:World}{A:Around}{E:Value→Shared→Prop}{s:Shared}{κ:SortKind}{O:KeyOrd}{kf:Value→O.α}{a₀:Array Keyed}{st:SortSt}
theorem SB.size (B:SB κ a₀ st):(arrOf st).size=a₀.size:=B.perm.size_eq
theorem SB.put (B:SB κ a₀ st) {xs:Array Keyed}(h:xs.Perm (arrOf st)):SB κ a₀ (setArr st xs):=⟨h.trans B.perm,B.kind,B.failed⟩
theorem SB.at (B:SB κ a₀ st) {i:Nat}(hi:i<a₀.size):∃p,(arrOf st)[i]?=some p/\p∈a₀.toList/\KX kf (arrOf st) i=kf p.1:=by
 have hi':i<(arrOf st).size:=by rw [B.size];exact hi
 refine ⟨(arrOf st)[i],(by grind),(Array.perm_iff_toList_perm.mp B.perm).mem_iff.mp (by simp),?_⟩
 unfold KX
 grind
theorem bY (C:Cmp prog w A s κ O kf a₀) (B:SB κ a₀ st) {p q:Keyed}(hp:p∈a₀.toList) (hq:q∈a₀.toList) {Q:Option Bool→SortSt→Prop}(h:Q (some (O.blt (kf p.1) (kf q.1))) st):wpS (model prog w) A E s (lt' p q) Q st:=by
 rw [lt'_eq]
 refine wpS_bind (wpS_get ?_)
 rw [B.kind]
 exact wpS_bind (wpS_lift (wpAny_attempt (C.ask p hp q hq _ _ ⟨rfl,wpS_pure h⟩)))
theorem ND (C:Cmp prog w A s κ O kf a₀) (B:SB κ a₀ st) {i j:Nat}(hi:i<a₀.size) (hj:j<a₀.size) {Q:Option Bool→SortSt→Prop}(h:Q (some (O.blt (KX kf (arrOf st) i) (KX kf (arrOf st) j))) st):wpS (model prog w) A E s (ltAt' i j) Q st:=by
 obtain ⟨p,ep,mp,kp⟩:=B.at  hi
 obtain ⟨q,eq,mq,kq⟩:=B.at  hj
 rw [kp,kq] at h
 show wpS _ _ _ _ (elem' _ i >>= fun x=>elem' _ j >>= fun y=>lt' x y) Q st
 rw [elem'_eq,elem'_eq,ep,eq]
 exact wpS_bind (wpS_pure (wpS_bind (wpS_pure (bY C B mp mq h))))
theorem Le {xs:Array Keyed}{i j:Nat}(hj:j≤xs.size) (k:Nat):KX kf (mirror xs i j ((j-i) / 2)) k=if i≤k/\k<j then KX kf xs (i+j-1-k) else KX kf xs k:=by
 have e:=getElem?_mirror_all  (i:=i) hj k
 by_cases h:i≤k/\k<j
 ·rw [if_pos h] at e ⊢;exact Ik e
 ·rw [if_neg h] at e ⊢;exact Ik e
theorem OQ {xs:Array Keyed}{src d:Nat}(hs:src<xs.size) (hd:d≤src) (k:Nat):KX kf (bubble xs src d) k=if k=src-d then KX kf xs src else if src-d<k/\k≤src then KX kf xs (k-1) else KX kf xs k:=by
 have e:=getElem?_bubble hs d hd k
 by_cases h1:k=src-d
 ·rw [if_pos h1] at e ⊢;exact Ik e
 ·rw [if_neg h1] at e ⊢
  by_cases h2:src-d<k/\k≤src
  ·rw [if_pos h2] at e ⊢;exact Ik e
  ·rw [if_neg h2] at e ⊢;exact Ik e
structure Hy (lo:Nat) (st st':SortSt):Prop where
 pend:pendingOf st'=pendingOf st
 low:∀k,k<lo→(arrOf st')[k]?=(arrOf st)[k]?
theorem Hy.refl (lo:Nat) (st:SortSt):Hy lo st st:=⟨rfl,fun _ _=>rfl⟩
theorem Hy.trans {lo:Nat}{a b c:SortSt}(x:Hy lo a b) (y:Hy lo b c):Hy lo a c:=⟨y.pend.trans x.pend,fun k h=>(y.low k h).trans (x.low k h)⟩
theorem Uu (C:Cmp prog w A s κ O kf a₀) {lo n ok:Nat}(hn:lo+n≤a₀.size) (hok:ok≤n) (B:SB κ a₀ st) (hs:Up kf (arrOf st) lo (lo+ok)) {Q:Bool→SortSt→Prop}
  (h:∀st',SB κ a₀ st'→Hy lo st st'→Up kf (arrOf st') lo (lo+n)→Q true st'):wpS (model prog w) A E s (binarySort' lo n ok) Q st:=by
 rw [binarySort'_eq]
 refine wpS_bind (wpS_mono (wpS_forRange (I:=fun k c st'=>c=(none,())/\SB κ a₀ st'/\Hy lo st st'/\Up kf (arrOf st') lo (lo+min k n))
  (Q:=fun c st'=>c=(none,())/\SB κ a₀ st'/\Hy lo st st'/\Up kf (arrOf st') lo (lo+n)) ?step ?fin ?init) ?post)
 case post =>
  rintro c st' ⟨rfl,B',K',u⟩
  exact wpS_pure (h st' B' K' u)
 case init =>
  refine ⟨rfl,B,Hy.refl _ _,fun i j h1 h2 h3=>?_⟩
  by_cases z:ok=0
  ·obtain rfl:i=j:=by omega
   exact KeyOrd.kle_refl _
  ·exact hs i j h1 h2 (by omega)
 case fin =>
  grind
 case step =>
  rintro k c st' hk1 hk2 ⟨rfl,B',K',u⟩
  rw [show min k n=k by omega] at u
  refine wpS_bind (wpS_mono (wpS_forRange (I:=fun x c st2=>st2=st'/\∃l r,c=(none,l,r)/\l≤r/\r≤k/\r-l≤k-x /\
    (∀i,i<l→O.kle (KX kf (arrOf st') (lo+i)) (KX kf (arrOf st') (lo+k)))/\(∀i,r≤i→i<k→O.klt (KX kf (arrOf st') (lo+k)) (KX kf (arrOf st') (lo+i))))
   (Q:=fun c st2=>st2=st'/\∃l r,c=(none,l,r)/\l≤k/\(∀i,i<l→O.kle (KX kf (arrOf st') (lo+i)) (KX kf (arrOf st') (lo+k)))/\(∀i,l≤i→i<k→O.klt (KX kf (arrOf st') (lo+k)) (KX kf (arrOf st') (lo+i)))) ?i1 ?i2 ?i3) ?i4)
  case i3=>grind
  case i2 =>
   rintro c st2 ⟨rfl,l,r,rfl,h1,h2,h3,h4,h5⟩
   grind
  case i1 =>
   rintro x c st2 _ hx ⟨rfl,l,r,rfl,h1,h2,h3,h4,h5⟩
   dsimp only
   by_cases g:l≥r
   ·rw [if_pos g]
    obtain rfl:l=r:=by omega
    exact wpS_pure ⟨rfl,l,l,rfl,h2,h4,h5⟩
   ·rw [if_neg g]
    refine wpS_bind (ND C B' (by omega) (by omega) ?_)
    cases e:O.blt (KX kf (arrOf st2) (lo+k)) (KX kf (arrOf st2) (lo+(l+r) / 2)) with
    | true =>
     refine wpS_pure ⟨rfl,l,(l+r) / 2,rfl,by omega,by omega,by omega,h4,fun i q1 q2=>?_⟩
     exact KeyOrd.klt_of_klt_of_kle e (u _ _ (by omega) (by omega) (by omega))
    | false =>
     refine wpS_pure ⟨rfl,(l+r) / 2+1,r,rfl,by omega,by omega,by omega,fun i q1=>?_,h5⟩
     exact KeyOrd.kle_trans (u (lo+i) (lo+(l+r) / 2) (by omega) (by omega) (by omega)) (show O.kle _ _ from e)
  case i4 =>
   rintro c st2 ⟨rfl,l,r,rfl,h1,h4,h5⟩
   show wpS _ _ _ _ (moveDown' (lo+k) (lo+l) >>= fun _=>pure (ForInStep.yield (none,()))) _ _
   rw [moveDown'_eq]
   have hks:lo+k<(arrOf st2).size:=by rw [B'.size];omega
   have hd:lo+k-(lo+l)≤lo+k:=by omega
   refine wpS_bind (wpS_modify (wpS_pure ⟨rfl,B'.put (bubble_perm _ _ _),K'.trans ⟨rfl,fun z hz=>?_⟩,?_⟩))
   ·rw [getElem?_bubble hks _ hd,if_neg (by omega),if_neg (by omega)]
   ·rw [show min (k+1) n=k+1 by omega]
    intro i j q1 q2 q3
    rw [OQ hks hd,OQ hks hd]
    have lowv  := fun z z1 z2=>by
     have:=h4 (z-lo) (by omega)
     rwa [show lo+(z-lo)=z by omega] at this
    have hiv:∀z,lo+l≤z→z<lo+k→O.klt (KX kf (arrOf st2) (lo+k)) (KX kf (arrOf st2) z):=fun z z1 z2=>by
     have:=h5 (z-lo) (by omega) (by omega)
     rwa [show lo+(z-lo)=z by omega] at this
    repeat' split
    all_goals first
     | (exfalso;omega)
     | exact KeyOrd.kle_refl _
     | exact lowv _ (by omega) (by omega)
     | exact KeyOrd.kle_of_klt (hiv _ (by omega) (by omega))
     | exact u _ _ (by omega) (by omega) (by omega)
end
end Srt
namespace Srt
open PySem PyProof.Rows
section
variable {prog:Program}{w:World}{A:Around}{E:Value→Shared→Prop}{s:Shared}{κ:SortKind}{O:KeyOrd}{kf:Value→O.α}{a₀:Array Keyed}{st:SortSt}
theorem Up.grow {xs:Array Keyed}{lo n:Nat}(u:Up kf xs lo (lo+n)) (h1:1≤n) (h:O.kle (KX kf xs (lo+n-1)) (KX kf xs (lo+n))):Up kf xs lo (lo+(n+1)):=fun i j q1 q2 q3=>by
 by_cases z:j=lo+n
 ·subst z
  by_cases z2:i=lo+n
  ·subst z2;exact KeyOrd.kle_refl _
  ·exact KeyOrd.kle_trans (u i _ q1 (by omega) (by omega)) h
 ·exact u i j q1 q2 (by omega)
def Dn (kf:Value→O.α) (xs:Array Keyed) (lo hi:Nat):Prop:=∀i j,lo≤i→i≤j→j<hi→O.kle (KX kf xs j) (KX kf xs i)
theorem Dn.grow {xs:Array Keyed}{lo n:Nat}(u:Dn kf xs lo (lo+n)) (h1:1≤n) (h:O.kle (KX kf xs (lo+n)) (KX kf xs (lo+n-1))):Dn kf xs lo (lo+(n+1)):=fun i j q1 q2 q3=>by
 by_cases z:j=lo+n
 ·subst z
  by_cases z2:i=lo+n
  ·subst z2;exact KeyOrd.kle_refl _
  ·exact KeyOrd.kle_trans h (u i _ q1 (by omega) (by omega))
 ·exact u i j q1 q2 (by omega)
theorem Gr (B:SB κ a₀ st) {lo i j:Nat}(hi:lo≤i) (hj:j≤a₀.size):SB κ a₀ (setArr st (mirror (arrOf st) i j ((j-i) / 2)))/\Hy lo st (setArr st (mirror (arrOf st) i j ((j-i) / 2))):=by
 refine ⟨B.put (mirror_perm _ _ _ _),rfl,fun k hk=>?_⟩
 rw [getElem?_mirror_all (by rw [B.size];exact hj),if_neg (by omega)]
theorem JM (B:SB κ a₀ st) {i j:Nat}(hj:j≤a₀.size) (h:∀k,i≤k→k<j→KX kf (arrOf st) k=KX kf (arrOf st) (j-1)) (k:Nat):KX kf (mirror (arrOf st) i j ((j-i) / 2)) k=KX kf (arrOf st) k:=by
 rw [Le (by rw [B.size];exact hj)]
 grind
theorem Ut (C:Cmp prog w A s κ O kf a₀) {lo nrem n0:Nat}(hn:lo+nrem≤a₀.size) (h0:1≤n0) (h1:n0≤nrem) (B:SB κ a₀ st) (u:Up kf (arrOf st) lo (lo+n0)) {Q:Option (Option Nat)×Nat→SortSt→Prop}
  (h:∀n,n0≤n→n≤nrem→Up kf (arrOf st) lo (lo+n)→(n<nrem→O.klt (KX kf (arrOf st) (lo+n)) (KX kf (arrOf st) (lo+n-1)))→Q (none,n) st)
  {f:Nat→Option (Option Nat)×Nat→StateT SortSt Sem (ForInStep (Option (Option Nat)×Nat))} (hf:∀x c,f x c=(do
   match (← ltAt' (lo+c.2) (lo+c.2-1)) with
   | some b=>if b=true then pure (.done (none,c.2)) else pure (.yield (none,c.2+1))
   | none=>pure (.done (some none,c.2)))):wpS (model prog w) A E s (forIn [n0:nrem] (none,n0) f) Q st:=by
 refine wpS_forRange (I:=fun x c st'=>st'=st/\c=(none,x)/\n0≤x/\x≤nrem/\Up kf (arrOf st) lo (lo+x)) ?_ ?_ (by grind)
 ·rintro x c st' hx1 hx2 ⟨rfl,rfl,h2,h3,u'⟩
  rw [hf]
  refine wpS_bind (ND C B (by omega) (by omega) ?_)
  cases e:O.blt _ _ with
  | true=>exact wpS_pure (h x h2 h3 u' fun _=>e)
  | false=>exact wpS_pure ⟨rfl,rfl,by omega,by omega,u'.grow (by omega) e⟩
 grind
end
section
variable {prog:Program}{w:World}{A:Around}{E:Value→Shared→Prop}{s:Shared}{κ:SortKind}{O:KeyOrd}{kf:Value→O.α}{a₀:Array Keyed}{st:SortSt}
abbrev RSt:=Option (Option Nat)×Nat
def QC (lo:Nat) (c:RSt):StateT SortSt Sem (ForInStep RSt):=ltAt' (lo+c.2) (lo+c.2-1) >>= fun o=>match o with
 | some b=>if b=true then pure (.done (none,c.2)) else pure (.yield (none,c.2+1))
 | _=>pure (.done (some none,c.2))
def tl3 (lo nrem n:Nat):StateT SortSt Sem (Option Nat):=reverseSlice' lo (lo+n) >>= fun _=>forIn [n:nrem] ((none,n):RSt) (fun _ c=>QC lo c) >>= fun c=>match c.1 with
 | some r=>pure r
 | none=>pure (some c.2)
abbrev DSt:=Option (Option Nat)×Nat×Nat
def Xy (lo:Nat) (c:DSt):StateT SortSt Sem (ForInStep DSt):=ltAt' (lo+c.2.1) (lo+c.2.1-1) >>= fun o=>match o with
 | some b=>if b=true then (if c.2.2 > 0 then reverseSlice' (lo+c.2.1-(c.2.2+1)) (lo+c.2.1) >>= fun _=>pure (.yield (none,c.2.1+1,0)) else pure (.yield (none,c.2.1+1,0)))
   else ltAt' (lo+c.2.1-1) (lo+c.2.1) >>= fun o2=>match o2 with
    | some b2=>if b2=true then pure (.done (none,c.2.1,c.2.2)) else pure (.yield (none,c.2.1+1,c.2.2+1))
    | _=>pure (.done (some none,c.2.1,c.2.2))
 | _=>pure (.done (some none,c.2.1,c.2.2))
def dsc (lo nrem n:Nat):StateT SortSt Sem (Option Nat):=liftM (rule "list.sort.descending-run") >>= fun _=>forIn [n+1:nrem] ((none,n+1,0):DSt) (fun _ c=>Xy lo c) >>= fun c=>match c.1 with
 | some r=>pure r
 | none=>if c.2.2 > 0 then reverseSlice' (lo+c.2.1-(c.2.2+1)) (lo+c.2.1) >>= fun _=>tl3 lo nrem c.2.1 else tl3 lo nrem c.2.1
theorem Xp (C:Cmp prog w A s κ O kf a₀) {lo nrem n:Nat}(hn:lo+nrem≤a₀.size) (h0:1≤n) (h1:n≤nrem) (B:SB κ a₀ st) (dn:Dn kf (arrOf st) lo (lo+n)) {Q:Option Nat→SortSt→Prop}
  (h:∀m st',SB κ a₀ st'→Hy lo st st'→1≤m→m≤nrem→Up kf (arrOf st') lo (lo+m)→Q (some m) st'):wpS (model prog w) A E s (tl3 lo nrem n) Q st:=by
 refine wpS_bind (wpS_modify ?_)
 obtain ⟨B1,K1⟩:=Gr B (Nat.le_refl lo) (show lo+n≤a₀.size by omega)
 have u:Up kf (mirror _ lo (lo+n) _) lo (lo+n):=fun i j q1 q2 q3=>by
  rw [Le (by rw [B.size];omega),Le (by rw [B.size];omega),if_pos (by omega),if_pos (by omega)]
  exact dn _ _ (by omega) (by omega) (by omega)
 refine wpS_bind (Ut C hn h0 h1 B1 u (fun m m1 m2 u2 _=>?_) fun x c=>congrArg (ltAt' _ _ >>= ·) (by grind))
 exact wpS_pure (by grind)
theorem Xq (C:Cmp prog w A s κ O kf a₀) {lo nrem n:Nat}(hn:lo+nrem≤a₀.size) (h0:1≤n) (h1:n<nrem) (B:SB κ a₀ st) (eq:∀k,lo≤k→k<lo+n→KX kf (arrOf st) k=KX kf (arrOf st) (lo+n-1)) (lt:O.klt (KX kf (arrOf st) (lo+n)) (KX kf (arrOf st) (lo+n-1))) {Q:Option Nat→SortSt→Prop}
  (h:∀m st',SB κ a₀ st'→Hy lo st st'→1≤m→m≤nrem→Up kf (arrOf st') lo (lo+m)→Q (some m) st'):wpS (model prog w) A E s (dsc lo nrem n) Q st:=by
 unfold dsc
 refine wpS_bind (wpS_lift (wpAny_rule ⟨rfl,?_⟩))
 have dn0  := Dn.grow (fun i j q1 q2 q3=>by rw [eq i q1 (by omega),eq j (by omega) q3];exact KeyOrd.kle_refl _) h0 (KeyOrd.kle_of_klt lt)
 refine wpS_bind (wpS_mono (wpS_forRange (I:=fun x c st'=>∃e,c=(none,x,e)/\n+1≤x/\x≤nrem/\e+1≤x/\SB κ a₀ st'/\Hy lo st st'/\Dn kf (arrOf st') lo (lo+x)/\∀k,lo+x-(e+1)≤k→k<lo+x→KX kf (arrOf st') k=KX kf (arrOf st') (lo+x-1))
  (Q:=fun c st'=>∃x e,c=(none,x,e)/\n+1≤x/\x≤nrem/\e+1≤x/\SB κ a₀ st'/\Hy lo st st'/\Dn kf (arrOf st') lo (lo+x)/\∀k,lo+x-(e+1)≤k→k<lo+x→KX kf (arrOf st') k=KX kf (arrOf st') (lo+x-1)) ?step ?fin ?init) ?post)
 case init=>exact ⟨0,rfl,Nat.le_refl _,h1,by omega,B,Hy.refl _ _,dn0,(by grind)⟩
 case fin =>
  grind
 case step =>
  rintro x c st' hx1 hx2 ⟨e,rfl,x1,x2,e1,B',K',dn,eqs⟩
  unfold Xy
  dsimp only
  refine wpS_bind (ND C B' (by omega) (by omega) ?_)
  cases b:O.blt (KX kf (arrOf st') (lo+x)) _ with
  | true =>
   dsimp only
   rw [if_pos rfl]
   have dn2:∀ys:Array Keyed,(∀k,KX kf ys k=KX kf (arrOf st') k)→Dn kf ys lo (lo+(x+1)):=fun ys hk=>by
    have:=dn.grow (by omega) (KeyOrd.kle_of_klt b)
    intro i j q1 q2 q3
    rw [hk,hk]
    exact this i j q1 q2 q3
   by_cases he:e > 0
   ·rw [if_pos he,reverseSlice'_eq]
    refine wpS_bind (wpS_modify (wpS_pure ?_))
    obtain ⟨B1,K1⟩:=Gr B' (show lo≤lo+x-(e+1) by omega) (show lo+x≤a₀.size by omega)
    exact ⟨0,rfl,by omega,by omega,by omega,B1,K'.trans K1,dn2 _ (JM B' (by omega) eqs),(by grind)⟩
   ·rw [if_neg he]
    exact wpS_pure (by grind)
  | false =>
   dsimp only
   refine wpS_bind (ND C B' (by omega) (by omega) ?_)
   cases b2:O.blt _ (KX kf (arrOf st') (lo+x)) with
   | true=>exact wpS_pure ⟨x,e,rfl,x1,x2,e1,B',K',dn,eqs⟩
   | false =>
    have ek  := O.total _ _ b2 b
    refine wpS_pure ⟨e+1,rfl,by omega,by omega,by omega,B',K',dn.grow (by omega) b2,fun k q1 q2=>?_⟩
    grind
 case post =>
  rintro c st' ⟨x,e,rfl,x1,x2,e1,B',K',dn,eqs⟩
  dsimp only
  by_cases he:e > 0
  ·rw [if_pos he,reverseSlice'_eq]
   obtain ⟨B1,K1⟩:=Gr B' (show lo≤lo+x-(e+1) by omega) (show lo+x≤a₀.size by omega)
   refine Xp C hn (by omega) x2 B1 (fun i j q1 q2 q3=>?_) fun m st2 B2 K2=>h m st2 B2 ((K'.trans K1).trans K2)
   rw [JM B' (by omega) eqs,JM B' (by omega) eqs]
   exact dn i j q1 q2 q3
  ·rw [if_neg he]
   exact Xp C hn (by omega) x2 B' dn fun m st2 B2 K2=>h m st2 B2 (K'.trans K2)
theorem UR {M:Model}{α σ:Type}{m m':StateT σ Sem α}{Q:α→σ→Prop}{t:σ}(e:m'=m) (h:wpS M A E s m Q t):wpS M A E s m' Q t:=by grind
theorem Wh (C:Cmp prog w A s κ O kf a₀) {lo nrem:Nat}(hn:lo+nrem≤a₀.size) (h1:1≤nrem) (B:SB κ a₀ st) {Q:Option Nat→SortSt→Prop}
  (h:∀n st',SB κ a₀ st'→Hy lo st st'→1≤n→n≤nrem→Up kf (arrOf st') lo (lo+n)→Q (some n) st'):wpS (model prog w) A E s (countRun' lo nrem) Q st:=by
 have u1:Up kf (arrOf st) lo (lo+1):=fun i j q1 q2 q3=>by
  obtain rfl:i=j:=by omega
  exact KeyOrd.kle_refl _
 refine wpS_bind (Ut C hn (Nat.le_refl _) h1 B u1 (fun n n1 n2 u kl=>?_) fun x c=>congrArg (ltAt' _ _ >>= ·) (funext fun o=>by cases o <;> rfl))
 dsimp only
 by_cases hnr:n=nrem
 ·subst hnr
  rw [if_pos (beq_self_eq_true n)]
  exact wpS_pure (h n st B (Hy.refl _ _) n1 n2 u)
 ·rw [if_neg (by simpa using hnr)]
  by_cases hg:n > 1
  ·rw [if_pos hg]
   refine wpS_bind (ND C B (by omega) (by omega) ?_)
   cases b:O.blt _ _ with
   | true=>exact wpS_pure (h n st B (Hy.refl _ _) n1 n2 u)
   | false =>
    have eqk  := fun k q1 q2=>by
     refine KeyOrd.kle_antisymm (u k (lo+n-1) q1 (by omega) (by omega)) (KeyOrd.kle_trans (show O.kle _ _ from b) (u lo k (Nat.le_refl _) q1 q2))
    refine wpS_bind ?_
    refine wpS_modify ?_
    refine UR (m:=dsc lo nrem n) ?same ?_
    case same =>
     exact (by
      refine congrArg _ (funext fun _=>congr (congrArg _ (congrArg (forIn _ _) (funext fun _=>funext fun c=>?_))) (funext fun c=>?_))
      ·refine congrArg (ltAt' _ _ >>= ·) (funext fun o=>?_)
       cases o with
       | none=>rfl
       | some b =>
        cases b with
        | true=>rfl
        | false=>exact congrArg (ltAt' _ _ >>= ·) (funext fun o2=>by cases o2 <;> rfl)
      ·obtain ⟨c1,c2⟩:=c
       have t3:∀n,tl3 lo nrem n=(reverseSlice' lo (lo+n) >>= fun _=>forIn [n:nrem] ((none,n):RSt) _ >>= fun c=>match c.1 with
        | some r=>pure r
        | none=>pure (some c.2)):=fun _=>rfl
       have t4:∀n (X:Nat→RSt→StateT SortSt Sem (ForInStep RSt)) (Y:RSt→StateT SortSt Sem (Option Nat)),(∀x c,X x c=QC lo c)→(∀c,Y c=match c.1 with
        | some r=>pure r
        | none=>pure (some c.2))→(reverseSlice' lo (lo+n) >>= fun _=>forIn [n:nrem] ((none,n):RSt) X >>= Y)=tl3 lo nrem n:=fun n X Y h1 h2=>by
        rw [t3,show X=fun _ c=>QC lo c from funext fun x=>funext fun c=>h1 x c,show Y=_ from funext h2]
       cases c1 with
       | some r=>rfl
       | none =>
        by_cases z:c2.2 > 0
        ·rw [if_pos z,if_pos z]
         refine congrArg (reverseSlice' _ _ >>= ·) (funext fun _=>?_)
         exact t4 _ _ _ (fun x c=>congrArg _ (funext fun o=>by cases o <;> rfl)) (fun c=>by obtain ⟨d1,d2⟩:=c;cases d1 <;> rfl)
        ·rw [if_neg z,if_neg z]
         exact t4 _ _ _ (fun x c=>congrArg _ (funext fun o=>by cases o <;> rfl)) (fun c=>by obtain ⟨d1,d2⟩:=c;cases d1 <;> rfl))
    obtain ⟨B1,K1⟩:=Gr B (Nat.le_refl lo) (show lo+n≤a₀.size by omega)
    have me:=JM B (i:=lo) (j:=lo+n) (by omega) eqk
    refine Xq C hn n1 (by omega) B1 (fun k q1 q2=>?_) ?_ fun m st2 B2 K2=>h m st2 B2 (K1.trans K2)
    ·rw [me,me]
     exact eqk k q1 q2
    ·rw [me,me]
     exact kl (by omega)
  ·rw [if_neg hg]
   refine UR (m:=dsc lo nrem n) ?same ?_
   case same =>
     exact (by
      refine congrArg _ (funext fun _=>congr (congrArg _ (congrArg (forIn _ _) (funext fun _=>funext fun c=>?_))) (funext fun c=>?_))
      ·refine congrArg _ (funext fun o=>?_)
       cases o with
       | none=>rfl
       | some b =>
        cases b with
        | true=>rfl
        | false=>exact congrArg (ltAt' _ _ >>= ·) (funext fun o2=>by cases o2 <;> rfl)
      ·obtain ⟨c1,c2⟩:=c
       have t3:∀n,tl3 lo nrem n=(reverseSlice' lo (lo+n) >>= fun _=>forIn [n:nrem] ((none,n):RSt) _ >>= fun c=>match c.1 with
        | some r=>pure r
        | none=>pure (some c.2)):=fun _=>rfl
       have t4:∀n (X:Nat→RSt→StateT SortSt Sem (ForInStep RSt)) (Y:RSt→StateT SortSt Sem (Option Nat)),(∀x c,X x c=QC lo c)→(∀c,Y c=match c.1 with
        | some r=>pure r
        | none=>pure (some c.2))→(reverseSlice' lo (lo+n) >>= fun _=>forIn [n:nrem] ((none,n):RSt) X >>= Y)=tl3 lo nrem n:=fun n X Y h1 h2=>by
        rw [t3,show X=fun _ c=>QC lo c from funext fun x=>funext fun c=>h1 x c,show Y=_ from funext h2]
       cases c1 with
       | some r=>rfl
       | none =>
        by_cases z:c2.2 > 0
        ·rw [if_pos z,if_pos z]
         refine congrArg (reverseSlice' _ _ >>= ·) (funext fun _=>?_)
         exact t4 _ _ _ (fun x c=>congrArg _ (funext fun o=>by cases o <;> rfl)) (fun c=>by obtain ⟨d1,d2⟩:=c;cases d1 <;> rfl)
        ·rw [if_neg z,if_neg z]
         exact t4 _ _ _ (fun x c=>congrArg _ (funext fun o=>by cases o <;> rfl)) (fun c=>by obtain ⟨d1,d2⟩:=c;cases d1 <;> rfl))
   obtain rfl:n=1:=by omega
   exact Xq C hn n1 (by omega) B (fun k q1 q2=>by rw [show k=lo+1-1 by omega]) (kl (by omega)) h
end
end Srt
namespace Srt
open PySem PyProof.Rows
section
variable {prog:Program}{w:World}{A:Around}{E:Value→Shared→Prop}{s:Shared}{κ:SortKind}{O:KeyOrd}{kf:Value→O.α}{a₀:Array Keyed}{st:SortSt}
theorem aH {arr:Array Keyed}{i:Nat}(hi:i<arr.size):KX kf arr i=kf arr[i].1:=by
 unfold KX
 grind
end
section
variable {R:Keyed→Keyed→Prop}{la lb lo:List Keyed}{i j k:Nat}
end
section
variable {prog:Program}{w:World}{A:Around}{E:Value→Shared→Prop}{s:Shared}{κ:SortKind}{O:KeyOrd}{kf:Value→O.α}{a₀:Array Keyed}{st:SortSt}
theorem WH {M:Model}{A:Around}{E:Value→Shared→Prop}{s:Shared}{α:Type}{c:Prop}[Decidable c] {x y:StateT SortSt Sem α}{Q:α→SortSt→Prop}{st:SortSt}(h:c) (k:wpS M A E s x Q st):wpS M A E s (if c then x else y) Q st:=by grind
theorem SJ {M:Model}{A:Around}{E:Value→Shared→Prop}{s:Shared}{α:Type}{c:Prop}[Decidable c] {x y:StateT SortSt Sem α}{Q:α→SortSt→Prop}{st:SortSt}(h:¬ c) (k:wpS M A E s y Q st):wpS M A E s (if c then x else y) Q st:=by grind
end
section
variable {prog:Program}{w:World}{A:Around}{E:Value→Shared→Prop}{s:Shared}{κ:SortKind}{O:KeyOrd}{kf:Value→O.α}{a₀:Array Keyed}{st:SortSt}
end
section
variable {prog:Program}{w:World}{A:Around}{E:Value→Shared→Prop}{s:Shared}{κ:SortKind}{O:KeyOrd}{kf:Value→O.α}{a₀:Array Keyed}{st:SortSt}
end
end Srt
namespace L2
open PySem PySem.Spec PyProof.Rows
def kLt:Key→Key→Bool
 | .inl a,.inl b=>decide (a<b)
 | .inl _,.inr _=>true
 | .inr _,.inl _=>false
 | .inr x,.inr y=>decide (x.cps.toList<y.cps.toList)
theorem K0:∀a,kLt a a=false
 | .inl a=>decide_eq_false (by grind)
 | .inr x=>decide_eq_false (by grind)
theorem Lj:∀{a b c},kLt a b=true→kLt b c=true→kLt a c=true
 | .inl a,.inl b,.inl c,h1,h2=>decide_eq_true (Int.lt_trans (of_decide_eq_true h1) (of_decide_eq_true h2))
 | .inl _,.inl _,.inr _,_,_=>rfl
 | .inl _,.inr _,.inr _,_,_=>rfl
 | .inr x,.inr y,.inr z,h1,h2=>decide_eq_true (List.lt_trans (of_decide_eq_true h1) (of_decide_eq_true h2))
theorem JO:∀{a b},kLt a b=false→kLt b a=false→a=b
 | .inl a,.inl b,h1,h2=>by
  have h1:=of_decide_eq_false h1
  have h2:=of_decide_eq_false h2
  grind
 | .inr x,.inr y,h1,h2=>by
  have h1:=of_decide_eq_false h1
  have h2:=of_decide_eq_false h2
  rw [WN (List.le_antisymm (by grind) (List.not_lt.mp h1))]
def An:List Key→List Key→Bool
 | [],[]=>false
 | [],_::_=>true
 | _::_,[]=>false
 | a::x,b::y=>if a=b then An x y else kLt a b
theorem Kx:∀x,An x x=false
 | []=>rfl
 | a::x=>by rw [An,if_pos rfl];exact Kx x
theorem Hk:∀{x y z},An x y=true→An y z=true→An x z=true
 | [],[],_,h,_=>by cases h
 | [],_::_,[],_,h=>by cases h
 | [],_::_,_::_,_,_=>rfl
 | _::_,[],_,h,_=>by cases h
 | _::_,_::_,[],_,h=>by cases h
 | a::x,b::y,c::z,h1,h2=>by
  unfold An at h1 h2 ⊢
  by_cases e1:a=b
  ·subst e1
   rw [if_pos rfl] at h1
   by_cases e2:a=c
   ·subst e2
    rw [if_pos rfl] at h2 ⊢
    exact Hk h1 h2
   grind
  ·rw [if_neg e1] at h1
   by_cases e2:b=c
   ·grind
   ·rw [if_neg e2] at h2
    have h3:=Lj h1 h2
    have:a≠c:=fun e=>by rw [e,K0] at h3;cases h3
    grind
theorem Hl:∀{x y},An x y=false→An y x=false→x=y
 | [],[],_,_=>rfl
 | [],_::_,h,_=>by cases h
 | _::_,[],_,h=>by cases h
 | a::x,b::y,h1,h2=>by
  unfold An at h1 h2
  by_cases e:a=b
  ·subst e
   rw [if_pos rfl] at h1 h2
   rw [Hl h1 h2]
  ·rw [if_neg e] at h1
   rw [if_neg (by grind)] at h2
   exact absurd (JO h1 h2) e
@[reducible] def lexOrd:KeyOrd where
 α:=List Key
 blt:=An
 irrefl:=Kx
 trans _ _ _:=Hk
 negTrans a b c h:=by
  cases e:An a b with
  | true=>exact .inl rfl
  | false =>
   cases e2:An b a with
   | true=>exact .inr (Hk e2 h)
   | false=>rw [←Hl e e2];exact .inr h
 total _ _:=Hl
def A2:Value→Key
 | .int i _=>.inl i
 | .str x _=>.inr x
 | _=>.inl 0
def kfH (h:Heap):Value→List Key
 | .int i _=>[.inl i]
 | .str x _=>[.inr x]
 | .ref a=>match h.get? a with
  | some o=>match o.data with
   | .seq xs _=>xs.toList.map A2
   | _=>[]
  | none=>[]
 | _=>[]
end L2
namespace Srt
open PySem PyProof.Rows
section
variable {prog:Program}{w:World}{A:Around}{E:Value→Shared→Prop}{s:Shared}{O:KeyOrd}
end
end Srt
namespace L2
open PySem PySem.Spec PyProof.Rows
def isI:Key→Bool
 | .inl _=>true
 | .inr _=>false
def CG:Value→Prop
 | .int _ _=>True
 | .str _ _=>True
 | _=>False
section
variable {prog:Program}{w:World}{A:Around}{E:Value→Shared→Prop}{s:Shared}{b:Bool}{Q:Bool→Shared→Prop}
theorem Yr (c:Bool) {x y:Value}(hx:CG x) (hy:CG y) (hs:isI (A2 x)=isI (A2 y)) (h:Q (kLt (A2 x) (A2 y)) s):wpAny (model prog w) A (oneLt' c x y) Q E s:=by
 cases x <;> first|exact hx.elim|skip
 all_goals (cases y <;> first|exact hy.elim|exact Bool.noConfusion (by assumption)|exact Bool.noConfusion (by assumption)|skip)
 ·cases c with
  | true=>exact oneLt_int h
  | false=>exact PySem.W.kat_one _ _ (PyProof.Rows.lt_int h)
 ·cases c with
  | true=>exact oneLt_str h
  | false=>exact PySem.W.kat_one _ _ (PyProof.Rows.lt_str h)
theorem Vs {x y:Value}(hx:CG x) (hy:CG y) (hs:isI (A2 x)=isI (A2 y)) (h:Q (decide (A2 x=A2 y)) s):wpAny (model prog w) A (eqBool x y) Q E s:=by
 cases x <;> first|exact hx.elim|skip
 all_goals (cases y <;> first|exact hy.elim|exact Bool.noConfusion (by assumption)|exact Bool.noConfusion (by assumption)|skip)
 ·rename_i a t c u
  refine MeetsSeq.EqGives.int a c t u prog w A E s Q ?_
  have e:(a==c)=decide (A2 (.int a t)=A2 (.int c u)):=by
   show (a==c)=decide ((Sum.inl a:Key)=Sum.inl c)
   grind
  grind
 ·rename_i a t c u
  refine eqGives_str a c t u prog w A E s Q ?_
  have e:(a==c)=decide (A2 (.str a t)=A2 (.str c u)):=by
   show (a==c)=decide ((Sum.inr a:Key)=Sum.inr c)
   grind
  grind
theorem Qh:∀(xs ys:List Value) (i:Nat),(∀v∈xs,CG v)→(∀v∈ys,CG v)→xs.map (fun v=>isI (A2 v))=ys.map (fun v=>isI (A2 v))→Q (An (xs.map A2) (ys.map A2)) s→PySem.W.KatLex prog w A b false Q (xs.zip ys) i s
 | [],[],_,_,_,_,h=>PySem.W.kat_nil h
 | [],_::_,_,_,_,e,_=>by cases e
 | _::_,[],_,_,_,e,_=>by cases e
 | x::xs,y::ys,i,hx,hy,e,h=>by
  obtain ⟨e1,e2⟩:=List.cons.inj e
  have fx:=hx x List.mem_cons_self
  have fy:=hy y List.mem_cons_self
  have h:Q (if A2 x=A2 y then An _ _ else kLt _ _) s:=h
  refine PySem.W.kat_cons (Vs fx fy e1 (PySem.W.kat_go (fun q=>?_) fun q=>?_))
  ·rw [if_pos (by grind)] at h
   exact PySem.W.kat_yes (Qh xs ys _ (by grind) (by grind) e2 h)
  ·rw [if_neg (by grind)] at h
   exact PySem.W.kat_no (Yr _ fx fy e1 h)
end
def Po (h:Heap) (u:Value) (ks:List Key):Prop:=∃a o items m,u=.ref a/\h.get? a=some o/\o.cls=.type "tuple" /\ o.data=.seq items m/\items.toList.map A2=ks/\∀v∈items.toList,CG v
theorem Po.kf {h:Heap}{u:Value}{ks:List Key}(t:Po h u ks):kfH h u=ks:=by
 obtain ⟨a,o,items,m,rfl,e,_,d,k,_⟩:=t
 simp only [kfH,e,d]
 exact k
inductive Fv (h:Heap):List Value→List (List Key)→Prop
 | cI {vs kss}:vs.length=kss.length→(∀(i:Nat) u ks,vs[i]?=some u→kss[i]?=some ks→∃n t,u=.int n t/\ks=[.inl n])→Fv h vs kss
 | cS {vs kss}:vs.length=kss.length→(∀(i:Nat) u ks,vs[i]?=some u→kss[i]?=some ks→∃n t,u=.str n t/\ks=[.inr n])→Fv h vs kss
 | cT {vs kss} (sh:List Bool):vs.length=kss.length→sh≠[]→(∀(i:Nat) u ks,vs[i]?=some u→kss[i]?=some ks→Po h u ks/\ks.map isI=sh)→Fv h vs kss
theorem Fv.len {h:Heap}{vs:List Value}{kss:List (List Key)}(x:Fv h vs kss):vs.length=kss.length:=by cases x <;> assumption
theorem Fv.kf {h:Heap}{vs:List Value}{kss:List (List Key)}(x:Fv h vs kss):∀(i:Nat) u ks,vs[i]?=some u→kss[i]?=some ks→kfH h u=ks:=by
 intro i u ks e1 e2
 cases x with
 | cI _ f=>obtain ⟨n,t,rfl,rfl⟩:=f i u ks e1 e2;rfl
 | cS _ f=>obtain ⟨n,t,rfl,rfl⟩:=f i u ks e1 e2;rfl
 | cT _ _ _ f=>exact (f i u ks e1 e2).1.kf
theorem KG {α β:Type}{l:List α}{m:List β}(hl:l.length=m.length) {x:α}(h:x∈l):∃(i:Nat) (y:β),l[i]?=some x/\m[i]?=some y:=by
 obtain ⟨i,hi,e⟩:=List.mem_iff_getElem.mp h
 exact ⟨i,m[i]'(by omega),by grind,(by grind)⟩
theorem Fv.cmp {prog:Program}{w:World}{A:Around}{s:Shared}{h:Heap}{vs:List Value}{kss:List (List Key)}(x:Fv h vs kss) (h2:2≤vs.length) (kp:∀a o items m,.ref a∈vs→h.get? a=some o→o.cls=.type "tuple" → o.data=.seq items m→s.heap.get? a=some o) :
  ∃κ,(∀(Q:SortKind→Shared→Prop) (E:Value→Shared→Prop),Q κ s→wpAny (model prog w) A (keyKind' vs.toArray) Q E s)/\Srt.Cmp prog w A s κ lexOrd (kfH h) (pairsOf vs):=by
 have mp:∀p∈(pairsOf vs).toList,p.1∈vs:=fun p hp=>by rw [pairsOf_toList] at hp;exact (mem_zip_self hp).2
 cases x with
 | cI hl f =>
  refine ⟨oneType',fun Q E q=>PySem.W.kas_kind (T:=.type "int") h2 (fun v hv=>?_) (by decide) (by decide) q,⟨fun p hp q hq Q E k=>?_⟩⟩
  ·obtain ⟨i,ks,e1,e2⟩:=KG hl hv
   obtain ⟨n,t,rfl,_⟩:=f i _ _ e1 e2
   exact .now
  ·obtain ⟨i,ks,e1,e2⟩:=KG hl (mp p hp)
   obtain ⟨j,ls,e3,e4⟩:=KG hl (mp q hq)
   obtain ⟨n,t,u1,_⟩:=f i _ _ e1 e2
   obtain ⟨m,t',u2,_⟩:=f j _ _ e3 e4
   rw [u1,u2] at k ⊢
   rw [keyLt'_oneType]
   refine oneLt_int ?_
   have e:decide (n<m)=An [.inl n] [.inl m]:=by
    show _=if (Sum.inl n:Key)=Sum.inl m then false else decide (n<m)
    grind
   rw [e]
   exact k
 | cS hl f =>
  refine ⟨oneType',fun Q E q=>PySem.W.kas_kind (T:=.type "str") h2 (fun v hv=>?_) (by decide) (by decide) q,⟨fun p hp q hq Q E k=>?_⟩⟩
  ·obtain ⟨i,ks,e1,e2⟩:=KG hl hv
   obtain ⟨n,t,rfl,_⟩:=f i _ _ e1 e2
   exact .now
  ·obtain ⟨i,ks,e1,e2⟩:=KG hl (mp p hp)
   obtain ⟨j,ls,e3,e4⟩:=KG hl (mp q hq)
   obtain ⟨n,t,u1,_⟩:=f i _ _ e1 e2
   obtain ⟨m,t',u2,_⟩:=f j _ _ e3 e4
   rw [u1,u2] at k ⊢
   rw [keyLt'_oneType]
   refine oneLt_str ?_
   have e:decide (n.cps.toList<m.cps.toList)=An [.inr n] [.inr m]:=by
    show _=if (Sum.inr n:Key)=Sum.inr m then false else decide (n.cps.toList<m.cps.toList)
    grind
   rw [e]
   exact k
 | cT sh hl hn f =>
  have at':∀u∈vs,∃ks,Po s.heap u ks/\kfH h u=ks/\ks.map isI=sh:=fun u hu=>by
   obtain ⟨i,ks,e1,e2⟩:=KG hl hu
   obtain ⟨t,z⟩:=f i u ks e1 e2
   refine ⟨ks,?_,t.kf,z⟩
   obtain ⟨a,o,items,m,rfl,e,c,d,r⟩:=t
   exact ⟨a,o,items,m,rfl,(by grind),c,d,r⟩
  refine ⟨tuples' true,fun Q E q=>?_,⟨fun p hp q hq Q E k=>?_⟩⟩
  ·-- the kind,by the firsts
   have key:∀(l:List Value),(∀u∈l,u∈vs)→∃fs,PySem.W.KatTups s.heap l fs/\fs.length=l.length/\∀v∈fs,CG v/\isI (A2 v)=sh.headD true:=fun l=>by
    induction l with
    | nil=>exact fun _=>⟨[],trivial,rfl,(by grind)⟩
    | cons u l ih =>
     intro hu
     obtain ⟨fs,k1,k2,k3⟩:=ih (by grind)
     obtain ⟨ks,⟨a,o,items,m,rfl,e,c,d,r,fl⟩,_,z⟩:=at' u (by grind)
     obtain ⟨l0⟩:=items
     match l0,r,fl with
     | [],r,_ =>
      grind
     | f0::l1,r,fl =>
      refine ⟨f0::fs,PySem.W.KatTups.cons e c d rfl k1,by grind,fun v hv=>?_⟩
      grind
   obtain ⟨fs,k1,k2,k3⟩:=key vs fun _ h=>h
   cases hh:sh.headD true with
   | true =>
    refine PySem.W.kat_kind (T:=.type "int") k1 (by omega) (fun v hv=>?_) (by decide) q
    obtain ⟨fl,z⟩:=k3 v hv
    rw [hh] at z
    cases v <;> first|exact fl.elim|exact Bool.noConfusion (show true=false from z)|exact Bool.noConfusion (by assumption)|exact .now
   | false =>
    refine PySem.W.kat_kind (T:=.type "str") k1 (by omega) (fun v hv=>?_) (by decide) q
    obtain ⟨fl,z⟩:=k3 v hv
    rw [hh] at z
    cases v <;> first|exact fl.elim|exact Bool.noConfusion (by assumption)|exact Bool.noConfusion (show false=true from z)|exact .now
  ·obtain ⟨ks,⟨a,o,items,m,u1,e,c,d,r,fl⟩,k1,z1⟩:=at' _ (mp p hp)
   obtain ⟨ls,⟨a',o',items',m',u2,e',c',d',r',fl'⟩,k2,z2⟩:=at' _ (mp q hq)
   have k:Q (An (kfH h p.1) (kfH h q.1)) s:=k
   rw [k1,k2,←r,←r'] at k
   rw [u1,u2]
   have es  := by
    have h1:(items.toList.map A2).map isI=(items'.toList.map A2).map isI:=by rw [r,r',z1,z2]
    rw [List.map_map,List.map_map] at h1
    exact h1
   have el:items.size=items'.size:=by
    have:=congrArg List.length es
    simpa using this
   refine PySem.W.kat_lt e d e' d' ?_
   rw [decide_eq_false (by omega)]
   exact Qh _ _ 0 fl fl' es k
inductive Hx (K:PySem.W.Frag) (H:Hp):List V→List (List Key)→Prop
 | cI (ns:List Int):Hx K H (ns.map V.int) (ns.map fun n=>[.inl n])
 | cS (zs:List Str):Hx K H (zs.map V.str) (zs.map fun z=>[.inr z])
 | cT {xs:List V} {kss:List (List Key)} (sh:List Bool):sh≠[]→Paired (fun x ks=>(∃a,x=.ref a/\SqT K H a (ks.map kV))/\ks.map isI=sh) xs kss→Hx K H xs kss
theorem QI {α β:Type}{F:α→β→Prop}{bs bs':List β}(p:bs'.Perm bs):∀{as:List α},Paired F as bs→∃as',as'.Perm as/\Paired F as' bs':=by
 induction p with
 | nil=>intro as h;cases h;exact ⟨[],.nil,.nil⟩
 | cons x _ ih =>
  intro as h
  cases h with
  | cons h1 h2 =>
   obtain ⟨as',q1,q2⟩:=ih h2
   exact ⟨_,q1.cons _,.cons h1 q2⟩
 | swap x y l =>
  intro as h
  cases h with
  | cons h1 h2 =>
   cases h2 with
   | cons h3 h4=>exact ⟨_,List.Perm.swap _ _ _,.cons h3 (.cons h1 h4)⟩
 | trans _ _ ih1 ih2 =>
  intro as h
  obtain ⟨a1,q1,q2⟩:=ih2 h
  obtain ⟨a2,q3,q4⟩:=ih1 q2
  exact ⟨a2,q3.trans q1,q4⟩
theorem DI {α β:Type}{F:α→β→Prop}:∀{l:List α}{m:List β},Paired F l m→l.length=m.length/\∀(i:Nat) a b,l[i]?=some a→m[i]?=some b→F a b
 | _,_,.nil=>(by grind)
 | _,_,.cons h r=>by
  obtain ⟨h1,h2⟩:=DI r
  grind
theorem Ky:∀{ks:List Key}{us:List Value},Vals (ks.map kV) us→us.map A2=ks/\∀v∈us,CG v
 | [],_,h=>by cases h;grind
 | k::ks,_,h=>by
  cases h with
  | cons h1 h2 =>
   obtain ⟨e,f⟩:=Ky h2
   cases k with
   | inl i =>
    obtain ⟨t,rfl⟩:=h1
    exact ⟨by rw [List.map_cons,e];rfl,fun v hv=>by rcases List.mem_cons.mp hv with rfl|hv;exact True.intro;grind⟩
   | inr x =>
    obtain ⟨t,rfl⟩:=h1
    exact ⟨by rw [List.map_cons,e];rfl,fun v hv=>by rcases List.mem_cons.mp hv with rfl|hv;exact True.intro;grind⟩
section
variable {X:Cx}{pins:List (Addr×Obj)}{σ:St}{H:Hp}{s:Shared}
theorem Hx.vals (I:Inv X pins σ H s) {xs:List V}{kss:List (List Key)}{its:List Value}(h:Hx X.K H xs kss) (r:Vals xs its):Fv s.heap its kss:=by
 have hl:=r.length
 cases h with
 | cI ns =>
  refine .cI (by grind) fun i u ks e1 e2=>?_
  rw [List.getElem?_map] at e2
  obtain ⟨n,e3,rfl⟩:=Option.map_eq_some_iff.mp e2
  obtain ⟨u',e4,t,e5⟩:=r.get (i:=i) (x:=.int n) (by grind)
  grind
 | cS zs =>
  refine .cS (by grind) fun i u ks e1 e2=>?_
  rw [List.getElem?_map] at e2
  obtain ⟨n,e3,rfl⟩:=Option.map_eq_some_iff.mp e2
  obtain ⟨u',e4,t,e5⟩:=r.get (i:=i) (x:=.str n) (by grind)
  grind
 | cT sh hn p =>
  obtain ⟨h1,h2⟩:=DI p
  refine .cT sh (by omega) hn fun i u ks e1 e2=>?_
  have hi:=(List.getElem?_eq_some_iff.mp e2).1
  have e3:xs[i]?=some xs[i]:=(by grind)
  obtain ⟨⟨a,ea,hq⟩,z⟩:=h2 i _ _ e3 e2
  obtain ⟨u',e4,e5⟩:=r.get e3
  rw [e1] at e4
  cases e4
  rw [ea] at e5
  obtain rfl:u=Value.ref a:=e5
  obtain ⟨its2,rv,⟨o,ho,hc,n,hd⟩,_⟩:=I.tuple hq
  obtain ⟨k1,k2⟩:=Ky rv
  exact ⟨⟨a,o,_,n,rfl,ho,hc,hd,by grind,by grind⟩,z⟩
end
theorem VE {X:Cx}{its:List Value}{ys:List V}{kss:List (List Key)}{h:Heap}(r:Vals ys its) (sv:Fv h its kss) {out:Array Keyed}(p:out.Perm (pairsOf its)) (u:Srt.Up (O:=lexOrd) (kfH h) out 0 (pairsOf its).size) :
  ∃qs:List (V×List Key),qs.Perm (ys.zip kss)/\Vals (qs.map (·.1)) (out.map (·.2)).toList/\(qs.map (·.2)).Pairwise (fun a b=>An b a=false):=by
 have pl:out.toList.Perm (its.zip its):=by rw [←pairsOf_toList];exact Array.perm_iff_toList_perm.mp p
 have me:∀q∈out.toList,q.1=q.2/\q.1∈its:=fun q hq=>mem_zip_self (pl.mem_iff.mp hq)
 have e0:(out.map (·.2)).toList=out.toList.map (·.2):=Array.toList_map ..
 have pu  := by
  have:=pl.map (·.2)
  rwa [List.map_snd_zip (Nat.le_refl _)] at this
 have hl:=r.length
 have hk:=sv.len
 have pf:Paired (fun (q:V×List Key) v=>RelV q.1 v/\kfH h v=q.2) (ys.zip kss) its:=by
  refine Bo (by grind) fun i a b e1 e2=>?_
  obtain ⟨e3,e4⟩:=List.getElem?_zip_eq_some.mp e1
  obtain ⟨v,e5,e6⟩:=r.get e3
  rw [e2] at e5
  cases e5
  exact ⟨e6,sv.kf i b a.2 e2 e4⟩
 obtain ⟨qs,q1,q2⟩:=QI pu pf
 obtain ⟨l2,g2⟩:=DI q2
 refine ⟨qs,q1,?_,?_⟩
 ·rw [e0]
  refine Bo (by grind) fun i a b e1 e2=>?_
  grind
 ·rw [List.pairwise_iff_getElem]
  intro i j hi hj hij
  rw [List.length_map] at hi hj
  have hs  := p.size_eq.symm
  have ko:∀k (hk:k<qs.length),(qs[k]).2=Srt.KX (O:=lexOrd) (kfH h) out k:=fun k hk=>by
   have hk2:k<out.size:=by grind
   rw [Srt.aH hk2]
   have e2:(out.toList.map (·.2))[k]?=some out[k].2:=by grind
   grind
  have:=u i j (Nat.zero_le _) (Nat.le_of_lt hij) (by grind)
  rw [←ko i hi,←ko j hj] at this
  rw [List.getElem_map,List.getElem_map]
  exact this
section
variable {X:Cx}{K:PySem.W.Frag}
theorem Pf {prog:Program}{w:World}{A:Around}{E:Value→Shared→Prop}{s:Shared}{T:String}{r d:Addr}{n:Nat}{P:Nat→Value→Prop}{OK:Heap→Prop}{Q:List Value→Shared→Prop}(K:PySem.W.KdlSrc prog w T r d n P OK) (hh:A.handled=none) (hok:OK s.heap) (hn:n≤sizeLine)
  (hQ:∀h' tk (acc:Array Value),(∀b o,s.heap.get? b=some o→h'.get? b=some o)→s.heap.objs.size<h'.objs.size→ItemsOf P acc n→Q acc.toList { s with heap:=h',toks:=tk }):wpAny (model prog w) A (collect (.ref r)) Q E s:=by
 refine wpAny_bind (wpAny_runValue (codeAny_builtin F.entry_proto_collect ?_))
 refine wpAny_bind (wpAny_newObj_type ?_)
 refine wpAny_pure ⟨plainId_quiet F.plain_list_iadd _,codeAny_builtin F.entry_list_iadd ?_⟩
 have hS₁:(s.heap.push { cls:=.type "list", data:=.seq ([]:List Value).toArray }).get? _=some _:=Heap.get?_push_size _ rfl
 have ht:=K.there _ hok
 have kp:∀b o,s.heap.get? b=some o→(s.heap.push { cls:=.type "list", data:=.seq ([]).toArray }).get? b=some o:=fun b o e=>Heap.get?_push_of_some _ e
 have key:∀s',(∃h' tk acc c',s'={ s with heap:=h',toks:=tk }/\(∀b o,b≠s.heap.objs.size→(s.heap.push { cls:=.type "list", data:=.seq ([]:List Value).toArray }).get? b=some o→h'.get? b=some o)/\h'.get? s.heap.objs.size=some { cls:=.type "list", dict:=none,data:=.seq acc c',slots:=#[] }/\ItemsOf P acc n) →
   wpAny (model prog w) A (load _ >>= fun o=>match o.data with
    | .seq xs _=>pure xs.toList
    | _=>unsupported "internal:collect") Q E s':=fun s' ⟨h',tk,acc,c',e,k1,k2,k3⟩=>by
  subst e
  refine wpAny_bind (wpAny_load k2 ?_)
  exact wpAny_pure (hQ h' tk acc (fun b o e=>k1 b o (Nat.ne_of_lt (Heap.lt_size e)) (kp b o e)) (Heap.lt_size k2) k3)
 refine wpAny_mono (PySem.W.kdl_extend (A:=A)
  (R:=fun r s'=>r=.ok (.ret (.ref s.heap.objs.size))/\∃h' tk acc c',s'={ s with heap:=h',toks:=tk }/\(∀b o,b≠s.heap.objs.size→(s.heap.push { cls:=.type "list", data:=.seq ([]:List Value).toArray }).get? b=some o→h'.get? b=some o)/\h'.get? s.heap.objs.size=some { cls:=.type "list", dict:=none,data:=.seq acc c',slots:=#[] }/\ItemsOf P acc n)
  K hh (K.keep _ _ hok (by grind)) _ (by grind) (by grind) _ 0 hS₁ (by grind) hn) (fun fin s' hf=>?_) (by grind)
 cases fin with
 | done f =>
  grind
 | again c =>
  refine ⟨hf.1,codeAny_mono hf.2 fun r s2 ⟨e,q⟩=>?_⟩
  grind
end
end L2
namespace L2
open PySem PySem.Spec PyProof.Rows
section
open PySem.SeqAt
open PySem.AutoSeq1 (wpAny_loadPart')
open PySem.MeetsSeq PySem.MeetsSeq2 PySem.MeetsSeq3
theorem Fj (A:Around) (s:Shared) {x y:Value}(hx:CG x) (hy:CG y) (hs:isI (A2 x)=isI (A2 y)):SeqAt.EqAt A s x y (decide (A2 x=A2 y)):=by
 intro prog w E Q h
 exact Vs hx hy hs h
end
section
variable {X:Cx}{K:PySem.W.Frag}
end
def Rws (H:Hp) (xs:List V) (kss:List (List Key)):Prop:=Paired (fun x ks=>∃a,x=.ref a/\H a=some (.tup (ks.map kV))) xs kss
def Tp (H H':Hp):Prop:=∀p xs,H p=some (.tup xs)→H' p=some (.tup xs)
theorem AO.tp {H H':Hp}(s:AO H H'):Tp H H':=fun p xs e=>s _ _ e
theorem Tp.refl (H:Hp):Tp H H:=fun _ _ h=>h
theorem Tp.trans {H H1 H2:Hp}(a:Tp H H1) (b:Tp H1 H2):Tp H H2:=fun p xs e=>b _ _ (a _ _ e)
theorem Tp.upd {H H':Hp}{b:Addr}{o u:HO}(t:Tp H H') (h:H' b=some u) (hn:∀xs,u≠.tup xs):Tp H (L2.upd H' b o):=fun p xs e=>by
 have e:=t p xs e
 have:p≠b:=fun z=>by rw [z,h] at e;exact hn xs (Option.some.inj e)
 rw [AM this]
 exact e
theorem KC {α β:Type}{F G:α→β→Prop}(h:∀a b,F a b→G a b):∀{l:List α}{m:List β},Paired F l m→Paired G l m
 | _,_,.nil=>.nil
 | _,_,.cons a r=>.cons (h _ _ a) (KC h r)
theorem Dg {α β:Type}{F:α→β→Prop}:∀{l l':List α}{m m':List β},Paired F l m→Paired F l' m'→Paired F (l++l') (m++m')
 | _,_,_,_,.nil,h=>h
 | _,_,_,_,.cons a r,h=>.cons a (Dg r h)
theorem ML {α β:Type}{F:α→β→Prop}:∀{l:List α}{m:List β}(n:Nat),Paired F l m→Paired F (l.take n) (m.take n)
 | _,_,0,_=>.nil
 | _,_,_+1,.nil=>.nil
 | _,_,n+1,.cons a r=>.cons a (ML n r)
theorem MM {α β:Type}{F:α→β→Prop}:∀{l:List α}{m:List β}(n:Nat),Paired F l m→Paired F (l.drop n) (m.drop n)
 | _,_,0,h=>h
 | _,_,_+1,.nil=>.nil
 | _,_,n+1,.cons a r=>MM n r
theorem Rws.keep {H H':Hp}{xs:List V}{kss:List (List Key)}(h:Rws H xs kss) (t:Tp H H'):Rws H' xs kss:=KC (fun x ks ⟨a,e,q⟩=>⟨a,e,t _ _ q⟩) h
theorem Rws.len {H:Hp}{xs:List V}{kss:List (List Key)}(h:Rws H xs kss):xs.length=kss.length:=(DI h).1
theorem Rws.at {H:Hp}{xs:List V}{kss:List (List Key)}(h:Rws H xs kss) {i:Nat}{x:V}(e:xs[i]?=some x):∃a ks,x=.ref a/\kss[i]?=some ks/\H a=some (.tup (ks.map kV)):=by
 have hi:=(List.getElem?_eq_some_iff.mp e).1
 have e2:kss[i]?=some (kss[i]'(by rw [←h.len];exact hi)):=List.getElem?_eq_getElem _
 obtain ⟨a,ea,q⟩:=(DI h).2 i _ _ e e2
 exact ⟨a,_,ea,e2,q⟩
theorem Rws.ix {H:Hp}{xs:List V}{kss:List (List Key)}(h:Rws H xs kss) {i:Nat}{ks:List Key}(e:kss[i]?=some ks):∃a,xs[i]?=some (.ref a)/\H a=some (.tup (ks.map kV)):=by
 have hi:=(List.getElem?_eq_some_iff.mp e).1
 have e2:xs[i]?=some (xs[i]'(by rw [h.len];exact hi)):=List.getElem?_eq_getElem _
 obtain ⟨a,ea,q⟩:=(DI h).2 i _ _ e2 e
 exact ⟨a,by rw [e2,ea],q⟩
theorem Rws.snoc {H:Hp}{xs:List V}{kss:List (List Key)}{p:Addr}{ks:List Key}(h:Rws H xs kss) (e:H p=some (.tup (ks.map kV))):Rws H (xs++[.ref p]) (kss++[ks]):=Dg h (.cons ⟨p,rfl,e⟩ .nil)
theorem Wc (H:Hp):Rws H [] []:=Paired.nil
theorem Rws.sorts {K:PySem.W.Frag}{H:Hp}{xs:List V}{kss:List (List Key)}(h:Rws H xs kss) {sh:List Bool}(hn:sh≠[]) (hs:∀ks∈kss,ks.map isI=sh):Hx K H xs kss:=by
 refine .cT sh hn (Bo h.len fun i a b e1 e2=>?_)
 obtain ⟨p,ep,q⟩:=(DI h).2 i a b e1 e2
 exact ⟨⟨p,ep,SqT.of q⟩,hs b (List.mem_of_getElem? e2)⟩
def Sd (kss:List (List Key)):Prop:=kss.Pairwise fun a b=>An b a=false
end L2
namespace L2
open PySem PySem.Spec PyProof.Rows
theorem UH {K:PySem.W.Frag}{a:Addr}{n0:Nat}{fr:List Nat}{g:TG}{tt:TT}{te:TE}{σ:St}{H:Hp}{Q:VK}{xs:List V}(Pv:Nat→St→List V→Hp→Prop) (hn:xs.length≤sizeLine)
  (h0:Pv 0 (List.replicate n0 none++fr.map (pick σ)) [] H) (hl:∀i τ acc H1,Pv i τ acc H1→SqL K H1 a xs)
  (hs:∀(i:Nat) x τ acc H1 (R1:V→St→Hp→Prop) (R0:St→Hp→Prop),xs[i]?=some x→acc.length≤i→Pv i τ acc H1→(∀y τ' H2,Pv (i+1) τ' (acc++[y]) H2→R1 y τ' H2)→(∀τ' H2,Pv (i+1) τ' acc H2→R0 τ' H2) →
   g x τ H1 fun τ1 H2=>tt τ1 H2 fun b H3=>if b=true then te τ1 H3 fun y H4=>R1 y τ1 H4 else R0 τ1 H3)
  (hd:∀τ acc H1,acc.length≤xs.length→Pv xs.length τ acc H1→∀D,H1 D=none→Q (.ref D) (upd H1 D (.lst acc))) :
  MZ n0 fr g tt te σ Q (Itl K a) H:=by
 refine ⟨fun i m τ acc H'=>m=xs.length-i/\i≤xs.length/\acc.length≤i/\Pv i τ acc H',⟨xs.length,by simp,Nat.zero_le _,Nat.zero_le _,h0⟩,?_⟩
 rintro i m τ acc H' ⟨rfl,hi,ha,p⟩
 have q:=hl i τ acc H' p
 by_cases hlt:i<xs.length
 ·refine .inr ⟨⟨xs,xs[i],q,by simp [hlt]⟩,by omega,fun x H1 y=>?_⟩
  obtain ⟨e,y⟩:=y
  subst e
  have ex:=y xs q
  exact hs i x τ acc _ (fun y τ1 H4=>∃m',m'<xs.length-i/\m'=xs.length-(i+1)/\i+1≤xs.length/\(acc++[y]).length≤i+1/\Pv (i+1) τ1 (acc++[y]) H4) (fun τ1 H3=>∃m',m'<xs.length-i/\m'=xs.length-(i+1)/\i+1≤xs.length/\acc.length≤i+1/\Pv (i+1) τ1 acc H3) ex ha p
   (fun y τ' H2 h=>⟨_,by omega,rfl,hlt,by rw [List.length_append,List.length_singleton];omega,h⟩) fun τ' H2 h=>⟨_,by omega,rfl,hlt,by omega,h⟩
 ·have e:i=xs.length:=by omega
  subst e
  exact .inl ⟨⟨xs,q,Nat.le_refl _⟩,hd τ acc H' ha p⟩
theorem KJ {K:PySem.W.Frag}{a:Addr}{n0:Nat}{fr:List Nat}{g:TG}{te:TE}{σ:St}{H:Hp}{Q:VK}{xs:List V}(Pv:Nat→St→List V→Hp→Prop) (hn:xs.length≤sizeLine)
  (h0:Pv 0 (List.replicate n0 none++fr.map (pick σ)) [] H) (hl:∀i τ acc H1,Pv i τ acc H1→SqL K H1 a xs)
  (hs:∀(i:Nat) x τ acc H1 (R1:V→St→Hp→Prop),xs[i]?=some x→acc.length≤i→Pv i τ acc H1→(∀y τ' H2,Pv (i+1) τ' (acc++[y]) H2→R1 y τ' H2)→g x τ H1 fun τ1 H2=>te τ1 H2 fun y H4=>R1 y τ1 H4)
  (hd:∀τ acc H1,acc.length≤xs.length→Pv xs.length τ acc H1→∀D,H1 D=none→Q (.ref D) (upd H1 D (.lst acc))) :
  MZ n0 fr g Ub te σ Q (Itl K a) H:=by
 refine UH (K:=K) (xs:=xs) Pv hn h0 hl (fun i x τ acc H1 R1 R0 e1 e2 p k1 _=>?_) hd
 have e:(fun (τ1:St) (H2:Hp)=>Ub τ1 H2 fun b H3=>if b=true then te τ1 H3 fun y H4=>R1 y τ1 H4 else R0 τ1 H3)=fun τ1 H2=>te τ1 H2 fun y H4=>R1 y τ1 H4:=by
  funext τ1 H2
  show (if true=true then te τ1 H2 fun y H4=>R1 y τ1 H4 else R0 τ1 H2)=_
  rw [if_pos rfl]
 rw [e]
 exact hs i x τ acc H1 R1 e1 e2 p k1
section
variable {X:Cx}
end
section
variable {κ:Type}[DecidableEq κ]
theorem QW {kvs:List (κ×V)}{k:κ}{v:V}{q:κ×V}(h:q∈putK kvs k v):q=(k,v)\/(q∈kvs/\q.1≠k):=by
 unfold putK at h
 split at h
 ·obtain ⟨p,hp,e⟩:=List.mem_map.mp h
  by_cases z:p.1=k
  ·rw [if_pos z] at e;rw [←e,z];exact .inl rfl
  ·rw [if_neg z] at e;rw [←e];exact .inr ⟨hp,z⟩
 ·rename_i hn
  rcases List.mem_append.mp h with h|h
  ·refine .inr ⟨h,fun z=>hn (List.any_eq_true.mpr ⟨q,h,decide_eq_true z⟩)⟩
  ·exact .inl (List.mem_singleton.mp h)
theorem Lf (kvs:List (κ×V)) (k:κ) (v:V):(putK kvs k v).map (·.1)=if k∈kvs.map (·.1) then kvs.map (·.1) else kvs.map (·.1)++[k]:=by
 by_cases h:k∈kvs.map (·.1)
 ·rw [if_pos h]
  obtain ⟨p,hp,e⟩:=List.mem_map.mp h
  unfold putK
  rw [if_pos (List.any_eq_true.mpr ⟨p,hp,decide_eq_true e⟩),List.map_map]
  refine List.map_congr_left fun q _=>?_
  show (if q.1=k then (q.1,v) else q).1=q.1
  split <;> rfl
 ·rw [if_neg h]
  unfold putK
  rw [if_neg (fun q=>?_),List.map_append]
  ·rfl
  ·obtain ⟨p,hp,e⟩:=List.any_eq_true.mp q
   exact h (List.mem_map.mpr ⟨p,hp,of_decide_eq_true e⟩)
theorem RV {kvs:List (κ×V)}{k:κ}{v:V}(h:(kvs.map (·.1)).Nodup):((putK kvs k v).map (·.1)).Nodup:=by
 rw [Lf]
 split
 ·exact h
 ·rename_i hn
  exact Sq h hn
theorem Qi (kvs:List (κ×V)) (k:κ) (v:V):(putK kvs k v).length≤kvs.length+1:=by
 have e:=congrArg List.length (Lf kvs k v)
 rw [List.length_map] at e
 rw [e]
 split
 ·rw [List.length_map];omega
 ·rw [List.length_append,List.length_map];simp
theorem IK {kvs:List (κ×V)}{k:κ}{v:V}(h:Bc kvs k=some v):(k,v)∈kvs:=by
 unfold Bc at h
 obtain ⟨p,h1,h2⟩:=Option.map_eq_some_iff.mp h
 have:=List.find?_some (p:=fun kv:κ×V=>decide (kv.1=k)) h1
 have e:p.1=k:=of_decide_eq_true this
 rw [←e,←h2]
 exact List.mem_of_find?_eq_some h1
theorem SM {kvs:List (κ×V)}{k:κ}(h:k∈kvs.map (·.1)):∃v,Bc kvs k=some v:=by
 cases e:Bc kvs k with
 | some v=>exact ⟨v,rfl⟩
 | none=>exact absurd h (Pu e)
end
def Cn (d:Addr) (H H':Hp):Prop:=∀b o,b≠d→H b=some o→H' b=some o
theorem AO.x {H H':Hp}(s:AO H H') (d:Addr):Cn d H H':=fun b o _ e=>s b o e
theorem Cn.trans {d:Addr}{H H1 H2:Hp}(a:Cn d H H1) (b:Cn d H1 H2):Cn d H H2:=fun c o n e=>b c o n (a c o n e)
theorem Cn.upd {d:Addr}{H H':Hp}{o:HO}(a:Cn d H H'):Cn d H (L2.upd H' d o):=fun c u n e=>by rw [AM n];exact a c u n e
theorem Cn.tp {d:Addr}{H H':Hp}(a:Cn d H H') {u:HO}(h:H d=some u) (hn:∀xs,u≠.tup xs):Tp H H':=fun p xs e=>a p _ (fun z=>by rw [z,h] at e;exact hn xs (Option.some.inj e)) e
end L2
namespace Rev
open PySem PySem.Builtin PySem.W PyProof.Rows
section
variable {prog:Program}{w:World}{A:Around}{E:Value→Shared→Prop}{s:Shared}{I:Addr}{fp wr:List Addr}{G:Array GenState→Array GenState→Prop}{n:Nat}{P:Nat→Value→Prop}{St:Nat→Shared→Prop}{Live:Shared→Prop}
end
end Rev
namespace L2
open PySem PySem.Spec PyProof.Rows
section
variable {X:Cx}{K:PySem.W.Frag}
end
end L2
namespace L2
open PySem PySem.Spec PyProof.Rows
section
variable {X:Cx}{K:PySem.W.Frag}
end
end L2
namespace Sdf
open PySem PySem.Spec PyProof.Rows
section
variable {prog:Program}{w:World}{K:Type}[DecidableEq K] {knd:KeyKind prog w K}{A:Around}{E:Value→Shared→Prop}{s:Shared}
theorem LP {d:Addr}{kvs:List (K×Value)}{k:K}{key dflt:Value}{Q:Value→Shared→Prop}(hkey:knd.is k key=true) (hm:s.heap.DictOf knd d kvs)
  (hthere:∀v,valueAt kvs k=some v→Q v { s with toks:=s.toks+1 })
  (hnew:valueAt kvs k=none→∀h',h'.DictOf knd d (stored kvs k dflt)→Heap.SameBut d s.heap h'→Q dflt { s with heap:=h',toks:=s.toks+1 })
  (hsz:kvs.length≤sizeLine) :
  wpAny (model prog w) A (dictSetDefault d key dflt) Q E s:=by
 obtain ⟨o,es,ep,ho,hc,hd,hk,hp,hn⟩:=hm
 have hf:∀x,findBy knd.is es x=valueAt _ x:=fun x=>by
  rw [←hp.find x]
  simp [findBy]
 have hes:es.size≤sizeLine:=by
  have e1:=hp.length
  have e2:es.toList.length=es.size:=by simp
  omega
 unfold dictSetDefault
 try with_reducible refine wpAny_holding ?_
 refine wpAny_bind (knd.pyHash hkey ?_)
 refine wpAny_bind (wpAny_dictFind_of  hkey ho hd hk ?_)
 have hidx:(es.findIdx? fun e=>knd.is k e.key)=kvs.findIdx? fun kv=>decide (kv.1=k):=by
  rw [←hp.findIdx k];obtain ⟨l⟩:=es;simp
 cases hi:es.findIdx? _ with
 | some i =>
  have hfk:valueAt kvs k=(es[i]?).map (·.val):=by rw [←hf k,findBy_of_findIdx?,hi]
  refine wpAny_bind (wpAny_dictEntries  ho hd ?_)
  cases he:es[i]? with
  | none =>
   have:=Array.findIdx?_eq_some_iff_findIdx_eq.mp hi
   have hlt  := this.1
   rw [Array.getElem?_eq_getElem hlt] at he
   exact nomatch he
  | some e =>
   rw [he] at hfk
   exact wpAny_bind (wpAny_rule (wpAny_pure (hthere _ hfk)))
 | none =>
  have hfk:valueAt kvs k=none:=by rw [←hf k,findBy_of_findIdx?,hi]
  have hnot  := not_mem_of_findIdx_none (hidx ▸ hi)
  have hany:¬ (kvs.any fun kv=>decide (kv.1=k))=true:=by
   rw [List.any_eq_true];rintro ⟨kv,hkv,he⟩
   exact hnot (List.mem_map.mpr ⟨kv,hkv,of_decide_eq_true he⟩)
  refine wpAny_bind (wpAny_rule (wpAny_bind (wpAny_updateDictKeys   ho hd (wpAny_pure (hnew hfk _ ⟨_,_,_,Heap.get?_update_self _ ho (Obj.isFreed_of_dict (Obj.data_mapDictKeys hd _)),
   hc.mapDictKeys _,Obj.data_mapDictKeys hd _,hk.push hkey _,?_,?_⟩ (Heap.SameBut.update ..))))))
  ·rw [stored,if_neg hany]
   have:=hp.append hkey (knd.hash k) dflt
   simpa using this
  ·rw [stored,if_neg hany,List.map_append,List.nodup_append]
   refine ⟨hn,by simp,?_⟩
   intro a ha b hb
   simp at hb
   subst hb
   exact fun e=>hnot (e ▸ ha)
theorem La {d:Addr}{k:K}{key:Value}(hkey:knd.is k key=true) (hd:(d==sysModules)=false) (dflt:Value) :
  MeetsIn prog w (Builtin.«dict.setdefault» ⟨[.ref d,key,dflt],[]⟩) (fun _ R s=>∃kvs,s.heap.DictOf knd d kvs/\kvs.length≤sizeLine/\(∀v,valueAt kvs k=some v→R (.ok (.ret v)) { s with toks:=s.toks+1 }) /\
   (valueAt kvs k=none→∀h',h'.DictOf knd d (stored kvs k dflt)→Heap.SameBut d s.heap h'→R (.ok (.ret dflt)) { s with heap:=h',toks:=s.toks+1 })) :=
 .of_wp fun A R s ⟨kvs,hm,hsz,h1,h2⟩=>by
  refine wpAny_bind ?_
  refine wpAny_bind (wpAny_notOrdered_dict hm.typeIs ?_)
  refine wpAny_pure ?_
  simp only [hd,Bool.false_eq_true,if_false]
  exact wpAny_bind (LP hkey hm (fun v hv=>wpAny_pure ⟨v,rfl,h1 v hv⟩) (fun hn h' hm' hs'=>wpAny_pure ⟨_,rfl,h2 hn h' hm' hs'⟩) hsz)
end
end Sdf
namespace L2
open PySem PySem.Spec PyProof.Rows
section
variable {X:Cx}{o e f:Expr}{apos cpos:Pos}{td ty tx:TE}
def YD (td ty tx:TE):TE:=fun σ H Q=>td σ H fun x H1=>∃a,x=.ref a/\IsD H1 a/\ty σ H1 fun y H2=>tx σ H2 fun z H3=>∃kvs k,H3 a=some (.dK kvs)/\y=kV k/\kvs.length<sizeLine /\
 (∀v,Bc kvs k=some v→Q v H3)/\(Bc kvs k=none→Q z (upd H3 a (.dK (putK kvs k z))))
theorem U4 (ho:PE X o td) (he:PE X e ty) (hf:PE X f tx) (m:M2 X o "setdefault" apos e f cpos):PE X (.Call (.Attribute o "setdefault" apos) [e,f] [] cpos) (YD td ty tx):=by
 intro pins s σ H Q I h
 refine wpAny_Call_method m.base m.few m.line PySem.F.plainAttrs_dict PySem.F.slot_dict_setdefault PySem.F.type_dict_setdefault (thn (ho pins s σ H _ I h) fun u s1 ⟨x,H1,I1,rx,a,ex,d,q1⟩=>?_)
 subst ex
 obtain rfl:u=Value.ref a:=rx
 obtain ⟨t1,t2,_⟩:=Vj I1 d
 refine ⟨t1,t2,?_⟩
 rw [m.trees]
 refine Calls.callWith_builtin rfl (Calls.evalArgs_plain (Calls.spliced_cons (thn (he pins s1 σ H1 _ I1 q1) fun iv s2 ⟨y,H2,I2,ry,q2⟩ =>
  Calls.spliced_cons (thn (hf pins s2 σ H2 _ I2 q2) fun fv s3 ⟨z,H3,I3,rz,kvs,k,ea,ey,hl,q3,q4⟩=>Calls.spliced_nil ?_))))
 subst ey
 obtain ⟨zz,hd,vs,rel,dd⟩:=TB I3.hok ea
 refine call_meetsIn PySem.F.slot_dict_setdefault dd.typeIs PySem.F.entry_dict_setdefault (PySem.F.args_dict_setdefault_3 _ _ _) (Sdf.La (knd:=A5 X.prog X.w) (OR ry) hd fv) ⟨vs,dd,by rw [←rel.length];exact zz,fun w' hw=>?_,fun hn h' dd' hs=>?_⟩
 ·cases l:Bc kvs k with
  | none=>have:=GY.none_of (o:=valueAt vs k) (by rw [←l];exact rel.val k);rw [hw] at this;cases this
  | some v =>
   obtain ⟨w2,hw2,rw2⟩:=GY.some_of (v:=v) (o:=valueAt vs k) (by rw [←l];exact rel.val k)
   rw [hw] at hw2
   cases hw2
   exact ⟨v,H3,I3.tok _,rw2,q3 v l⟩
 ·have l:Bc kvs k=none:=by
   cases l:Bc kvs k with
   | none=>rfl
   | some v =>
    obtain ⟨w2,hw2,_⟩:=GY.some_of (v:=v) (o:=valueAt vs k) (by rw [←l];exact rel.val k)
    rw [hn] at hw2
    cases hw2
  have he:∃q,h'.get? a=some q:=let ⟨q,_,_,hq,_⟩:=dd';⟨q,hq⟩
  have hl2:(putK kvs k z).length≤sizeLine:=by have:=Ij kvs k z;omega
  exact ⟨z,_,Pc I3 (by rw [ea];exact True.intro) hs he (Vw hl2 hd (rel.put k rz) dd'),rz,q4 l⟩
end
end L2
namespace Upk
open PySem PySem.Spec PyProof.Rows
section
variable {prog:Program}{w:World}{A:Around}{E:Value→Shared→Prop}{s:Shared}
end
end Upk
namespace L2
open PySem PySem.Spec PyProof.Rows
section
variable {X:Cx}{pos:Pos}
end
end L2
namespace L2
open PySem PySem.Spec PyProof.Rows
section
variable {X:Cx}
end
section
variable {X:Cx}{e:Expr}{es:List Expr}{te:TX}{pos:Pos}
end
section
variable {prog:Program}{w:World}{A:Around}{E:Value→Shared→Prop}{s:Shared}
end
section
variable {X:Cx}{o value lo hi:Expr}{pos pos' p2:Pos}{td tv:TE}{tl th:TO}
end
section
variable {prog:Program}{w:World}{A:Around}{E:Value→Shared→Prop}{s:Shared}
end
section
variable {X:Cx}
end
end L2
namespace L2
open PySem PySem.Spec PyProof.Rows
section
variable {X:Cx}
end
section
variable {X:Cx}
theorem SS {zs:List Str}{its:List Value}(r:Vals (zs.map V.str) its) {i:Nat}(hi:i<zs.length):∃(h:i<its.length) (t:Tok),its[i]=.str zs[i] t:=by
 have hl:=r.length
 rw [List.length_map] at hl
 refine ⟨by omega,?_⟩
 obtain ⟨t,e⟩:=Kt r (i:=i) (a:=V.str zs[i]) (b:=its[i]) (by rw [List.getElem?_map,List.getElem?_eq_getElem hi];rfl) (List.getElem?_eq_getElem (by omega))
 exact ⟨t,e⟩
end
end L2
namespace L2
open PySem PySem.Spec PyProof.Rows
section
variable {X:Cx}{pins:List (Addr×Obj)}{σ:St}{k:Nat}{f:Addr}{fd:FuncData}{ps:List Str}{sp:Sp}
end
section
variable {X:Cx}{k:Nat}{f:Addr}{fd:FuncData}{ps:List Str}{sp:Sp}{x y:Str}{p p2 pk pos:Pos}{e:Expr}{t:TE}{K:PySem.W.Frag}
end
end L2
namespace L2
open PySem PySem.Spec PyProof.Rows
section
variable {X:Cx}
end
end L2
namespace Sdf
open PySem PySem.Spec PyProof.Rows
section
variable {prog:Program}{w:World}{K:Type}[DecidableEq K] {knd:HeapKind prog w K}{A:Around}{E:Value→Shared→Prop}{s:Shared}
end
end Sdf
namespace Sdf
open PySem PySem.Spec PyProof.Rows
section
variable {prog:Program}{w:World}{K:Type}[DecidableEq K] {knd:HeapKind prog w K}{A:Around}{E:Value→Shared→Prop}{s:Shared}
end
end Sdf
namespace L2
open PySem PySem.Spec PyProof.Rows
section
variable {X:Cx}{o e f:Expr}{apos cpos:Pos}{td ty tx:TE}
end
end L2
namespace Dkr
open PySem PySem.Spec PyProof.Rows
def Raw (h:Heap) (d:Addr) (es:Array DictEntry) (ep:Nat):Prop:=∃o,h.get? d=some o/\o.ExactDict/\o.data=.dict es ep
section
variable {prog:Program}{w:World}{A:Around}{E:Value→Shared→Prop}{s:Shared}{d it:Addr}{es:Array DictEntry}{ep i:Nat}
theorem Raw.type (r:Raw s.heap d es ep):s.TypeIs (.ref d) "dict" := let ⟨o,e,c,_⟩:=r;⟨o,e,c.1⟩
theorem Raw.lt {h:Heap}(r:Raw h d es ep):d<h.objs.size:=let ⟨_,e,_⟩:=r;Heap.lt_size e
theorem Raw.keep {h h':Heap}(r:Raw h d es ep) (k:∀o,h.get? d=some o→h'.get? d=some o):Raw h' d es ep:=let ⟨o,e,c⟩:=r;⟨o,k o e,c⟩
theorem iter (lo:(d==sysModules)=false) (r:Raw s.heap d es ep) {Q:Value→Shared→Prop}
  (hQ:Q (.ref s.heap.objs.size) { s with heap:=s.heap.push { cls:=.type "dict_keyiterator", data:=.fields #[.ref d,.int 0 0,.int es.size 0,.int ep 0] } }):wpAny (model prog w) A (pyIter (.ref d)) Q E s:=by
 have t:=r.type
 obtain ⟨o,ho,c,hd⟩:=r
 refine wpAny_pyIter_slot t F.slot_dict_iter (wpAny_call_entry F.slot_dict_iter t F.entry_dict_iter ?_ (by rfl))
 unfold Builtin.«dict.__iter__» Builtin.Dict.dictSlotNone
 refine wpAny_bind (wpAny_bind (wpAny_notOrdered_dict t (wpAny_pure ?_)))
 show wpAny _ _ (Builtin.Dict.showsAll d >>= _) _ _ s
 unfold Builtin.Dict.showsAll
 rw [if_neg (by grind)]
 refine wpAny_bind (wpAny_pure (wpAny_bind (wpAny_dictEntries ho hd (wpAny_bind (wpAny_dictEpoch ho hd ?_)))))
 refine wpAny_bind (wpAny_newObj_type (wpAny_pure ⟨_,rfl, "dict_keyiterator", _,⟨_,Heap.get?_push_size _ rfl,rfl⟩,F.slot_dict_keyiterator_next.lookup,?_⟩))
 assumption
theorem next_item (k:s.heap.IsKeyIter it d i es.size ep) (r:Raw s.heap d es ep) (hl:i<es.size) {Q:Option Value→Shared→Prop}
  (hQ:∀h',h'.IsKeyIter it d (i+1) es.size ep→Heap.SameBut it s.heap h'→Q (some es[i].key) { s with heap:=h' }):wpAny (model prog w) A (pyNext (.ref it)) Q E s:=by
 have t:=k.typeIs
 obtain ⟨o,ho,hc,hd⟩:=id k
 obtain ⟨od,ho2,c2,hd2⟩:=r
 have k':(s.heap.update it (Obj.mapFields (·.setIfInBounds 1 (rawInt ((i:Int)+1))))).IsKeyIter it d (i+1) es.size ep :=
  ⟨_,Heap.get?_update_self _ ho (Obj.isFreed_of_fields (Obj.data_mapFields hd _)),(Obj.cls_mapFields ..).trans hc,by rw [Obj.data_mapFields hd];simp [rawInt]⟩
 unfold pyNext
 refine wpAny_bind (wpAny_attempt (wpAny_callSpecial?_slot (name:=Str.ofString "__next__") t F.slot_dict_keyiterator_next (wpAny_call_entry F.slot_dict_keyiterator_next t F.entry_dict_keyiterator_next ?_ (by rfl))))
 refine wpAny_bind (wpAny_pure (wpAny_bind (wpAny_bind ?_)))
 first|refine wpAny_bind (wpAny_typeNameOfWhole_keyiter t (wpAny_pure (wpAny_bind (wpAny_fieldsOf ho hd ?_))))|refine wpAny_bind (wpAny_typeNameOf_keyiter t (wpAny_pure (wpAny_bind (wpAny_fieldsOf ho hd ?_))))
 simp only [show Builtin.Dict_items.ownsTuple "dict_keyiterator" = false from by decide,Bool.false_eq_true,if_false]
 show wpAny _ _ (if (Value.ref d==Value.none)=true then _ else _) _ _ s
 rw [if_neg (by grind)]
 refine wpAny_bind (wpAny_pure (wpAny_bind (wpAny_dictEntries ho2 hd2 ?_)))
 rw [if_neg (by simp)]
 refine wpAny_bind (wpAny_pure (wpAny_bind (wpAny_dictEpoch ho2 hd2 ?_)))
 rw [if_neg (by simp)]
 refine wpAny_pure ?_
 simp only [show ¬ ((i:Int)<0) from by omega,if_false,Int.toNat_natCast,Array.getElem?_eq_getElem hl]
 refine wpAny_bind ?_
 first|refine wpAny_bind (wpAny_typeNameOfWhole_keyiter t (wpAny_pure (wpAny_bind (wpAny_isOneOf_keyiter t ?_))))|refine wpAny_bind (wpAny_typeNameOf_keyiter t (wpAny_pure (wpAny_bind (wpAny_isOneOf_keyiter t ?_))))
 show wpAny _ _ (setField (.ref it) 1 (rawInt ((i:Int)+1)) >>= _) _ _ s
 refine wpAny_bind (wpAny_setField ho hd (by simp) (wpAny_bind (wpAny_holding (wpAny_bind (wpAny_isOneOf_keyiter (s:={ s with heap:=s.heap.update it (Obj.mapFields (·.setIfInBounds 1 (rawInt ((i:Int)+1)))) }) k'.typeIs ?_)))))
 show wpAny _ _ (pure es[i].key) _ _ _
 exact wpAny_pure (wpAny_pure ⟨_,rfl,wpAny_pure (hQ _ k' (Heap.SameBut.update ..))⟩)
theorem next_end (hh:A.handled=none) (k:s.heap.IsKeyIter it d i es.size ep) (r:Raw s.heap d es ep) (hl:es.size≤i) {Q:Option Value→Shared→Prop}
  (hQ:∀h',Heap.ExtBut it s.heap h'→Q none { s with heap:=h' }):wpAny (model prog w) A (pyNext (.ref it)) Q E s:=by
 have t:=k.typeIs
 obtain ⟨o,ho,hc,hd⟩:=id k
 obtain ⟨od,ho2,c2,hd2⟩:=r
 unfold pyNext
 refine wpAny_bind (wpAny_attempt (wpAny_callSpecial?_slot (name:=Str.ofString "__next__") t F.slot_dict_keyiterator_next (wpAny_call_entry F.slot_dict_keyiterator_next t F.entry_dict_keyiterator_next ?_ (F.args_dict_keyiterator_next_1 _))))
 refine wpAny_bind (wpAny_pure (wpAny_bind (wpAny_bind ?_)))
 first|refine wpAny_bind (wpAny_typeNameOfWhole_keyiter t (wpAny_pure (wpAny_bind (wpAny_fieldsOf ho hd ?_))))|refine wpAny_bind (wpAny_typeNameOf_keyiter t (wpAny_pure (wpAny_bind (wpAny_fieldsOf ho hd ?_))))
 simp only [show Builtin.Dict_items.ownsTuple "dict_keyiterator" = false from by decide,Bool.false_eq_true,if_false]
 show wpAny _ _ (if (Value.ref d==Value.none)=true then _ else _) _ _ s
 rw [if_neg (by grind)]
 refine wpAny_bind (wpAny_pure (wpAny_bind (wpAny_dictEntries ho2 hd2 ?_)))
 rw [if_neg (by simp)]
 refine wpAny_bind (wpAny_pure (wpAny_bind (wpAny_dictEpoch ho2 hd2 ?_)))
 rw [if_neg (by simp)]
 refine wpAny_pure ?_
 simp only [show ¬ ((i:Int)<0) from by omega,if_false,Int.toNat_natCast,Array.getElem?_eq_none hl]
 refine wpAny_bind ?_
 first|refine wpAny_bind (wpAny_typeNameOfWhole_keyiter t (wpAny_pure ?_))|refine wpAny_bind (wpAny_typeNameOf_keyiter t (wpAny_pure ?_))
 show wpAny _ _ (setField (.ref it) 0 .none >>= _) _ _ s
 refine wpAny_bind (wpAny_setField ho hd (by simp) ?_)
 show wpAny _ _ (newExc (.type "StopIteration") [] >>= _) _ _ _
 refine wpAny_bind ?_
 simp only [newExc,newTuple]
 refine wpAny_bind (wpAny_newObj_type (wpAny_bind (m:=firstArgMember _ _) (wpAny_of_eq (a:=Value.none) (by rfl) (wpAny_newObj_type ?_ (by size_fits)))) (by size_fits))
 simp only [raiseNew]
 refine wpAny_bind (wpAny_handled ?_)
 rw [show A.in1.handled=none from hh]
 refine wpAny_bind (wpAny_pure (wpAny_throw ?_))
 refine wpAny_bind (wpAny_isInstance (T := "StopIteration") (b:=true) ⟨_,Heap.get?_push_size _ rfl,rfl⟩ isSubtype_stop ?_)
 exact wpAny_pure (hQ _ (((Heap.SameBut.update ..).extBut.push _).push _))
theorem walks (hh:A.handled=none) (I:Addr) (hne:d≠I):Walks prog w A I [I,d] [I] es.size (fun j v=>∃h:j<es.size,v=es[j].key) (fun j h=>h.IsKeyIter I d j es.size ep/\Raw h d es ep) where
 sub:=(by grind)
 frame:=fun _ _ _ st hk=>⟨st.1.at (by grind),st.2.keep (by grind)⟩
 item:=fun j s Q E hj st hQ=>next_item st.1 st.2 hj fun h' k' sb=>hQ _ h' s.toks ⟨hj,rfl⟩ ⟨k',st.2.keep fun o e=>sb.extBut d o hne e⟩ fun b o hb e=>sb.extBut b o (by grind) e
 done:=fun s Q E st hQ=>next_end hh st.1 st.2 (Nat.le_refl _) fun h' he=>hQ h' s.toks fun b o hb e=>he b o (by grind) e
 self:=fun _ _ _ _ st hQ=>wpAny_pyIter_keyiter st.1 hQ
theorem src (lo:(d==sysModules)=false):PySem.W.KdlSrc prog w "dict" d d es.size (fun j v=>∃h:j<es.size,v=es[j].key) (fun h=>Raw h d es ep) where
 type:=fun _ r=>r.type
 there:=fun _ r=>⟨r.lt,r.lt⟩
 keep:=fun _ _ r hk=>r.keep (by grind)
 notList:=by decide
 notTuple:=by decide
 hint:=fun _ _ _ _ r hq=>PySem.W.kdl_hint_dict r.type hq
 iter:=fun _ _ hh r=>⟨_,_,(fun _ _ hq=>iter lo r hq),walks hh _ (Nat.ne_of_lt r.lt),⟨⟨_,Heap.get?_push_size _ rfl,rfl,rfl⟩,r.keep fun o e=>Heap.get?_push_of_some _ e⟩⟩
end
end Dkr
namespace L2
open PySem PySem.Spec PyProof.Rows
section
variable {X:Cx}{K:PySem.W.Frag}
end
end L2
namespace Stk
open PySem PySem.Spec PyProof.Rows L2
end Stk
namespace Stk
open PySem PySem.Spec PyProof.Rows L2
instance decMem (k:Key):∀L:List Key,Decidable (k∈L)
 | []=>.isFalse (by simp)
 | x::L=>if h:k=x then .isTrue (by simp [h]) else match decMem k L with
  | .isTrue h2=>.isTrue (by simp [h2])
  | .isFalse h2=>.isFalse (by simp [h,h2])
section
variable {prog:Program}{w:World}{A:Around}{E:Value→Shared→Prop}{s:Shared}{a:Addr}{L:List Key}
end
section
variable {prog:Program}{w:World}{A:Around}{R:Result→Shared→Prop}{I:Addr}{fp wr:List Addr}{G:Array GenState→Array GenState→Prop}{n:Nat}{P:Nat→Value→Prop}{St:Nat→Shared→Prop}
end
end Stk
namespace Stk
open PySem PySem.Spec PyProof.Rows L2
section
variable {prog:Program}{w:World}{A:Around}{E:Value→Shared→Prop}{s:Shared}
end
end Stk
namespace Stk
open PySem PySem.Spec PyProof.Rows L2
section
variable {prog:Program}{w:World}{A:Around}{E:Value→Shared→Prop}{s:Shared}{S it:Addr}{es:Array (Int×Value)}{ep i n:Nat}{t:SetTable}{first:Value}
end
end Stk
namespace Stk
open PySem PySem.Spec PyProof.Rows L2
section
variable {prog:Program}{w:World}{A:Around}{E:Value→Shared→Prop}{s:Shared}{S it:Addr}{es:Array (Int×Value)}{ep i n:Nat}{t:SetTable}{first:Value}
end
end Stk
namespace L2
open PySem PySem.Spec PyProof.Rows
section
variable {X:Cx}{K:PySem.W.Frag}{e:Expr}{te:TE}{p1 p2 pos1 pos2:Pos}
end
end L2
namespace Dpr
open PySem PySem.Spec PyProof.Rows L2
section
variable {prog:Program}{w:World}{A:Around}{R:Result→Shared→Prop}{I:Addr}{fp wr:List Addr}{G:Array GenState→Array GenState→Prop}{n:Nat}{P:Nat→Value→Prop}{St:Nat→Shared→Prop}
end
end Dpr
namespace Dpr
open PySem PySem.Spec PyProof.Rows L2
end Dpr
namespace L2
open PySem PySem.Spec PyProof.Rows
section
variable {X:Cx}
end
end L2
namespace L2
open PySem PySem.Spec PyProof.Rows
section
variable {prog:Program}{w:World}{A:Around}{E:Value→Shared→Prop}{s:Shared}{b:Bool}{Q:Bool→Shared→Prop}
end
section
variable {X:Cx}{pins:List (Addr×Obj)}{σ:St}{H:Hp}{s:Shared}
end
section
variable {X:Cx}{K:PySem.W.Frag}
end
end L2
namespace Stk
open PySem PySem.Spec PyProof.Rows L2
section
variable {prog:Program}{w:World}{A:Around}{E:Value→Shared→Prop}{s:Shared}
end
end Stk
namespace L2
open PySem PySem.Spec PyProof.Rows
section
variable {X:Cx}{K:PySem.W.Frag}{e:Expr}{te:TE}{p1 p2 pos1 pos2:Pos}
end
end L2
namespace L2
open PySem PySem.Spec PyProof.Rows
section
variable {X:Cx}{K:PySem.W.Frag}{e st:Expr}{te ts:TE}{p2 pos:Pos}
end
def bN (t u:TS):TS:=fun D σ H=>∀(N:St→Hp→Prop) (r:VK) (b c:St→Hp→Prop),(∀σ' H',u D σ' H'→N σ' H')→t ⟨N,r,b,c⟩ σ H
theorem Ei {X:Cx}{st:PySem.Stmt}{rest:List PySem.Stmt}{t u:TS}(h1:PS X st t) (h2:PSs X rest u):PSs X (st::rest) (bN t u):=fun pins s σ H D I h=>AE h1 h2 pins s σ H D I (h _ _ _ _ fun _ _ z=>z)
def ZT (t u:TS):TS:=fun D σ H=>∀(N:St→Hp→Prop) (r:VK) (b c:St→Hp→Prop),(∀σ' H',u D σ' H'→N σ' H')→(∀v H',D.rt v H'→r v H')→t ⟨N,r,b,c⟩ σ H
theorem Ib {X:Cx}{st:PySem.Stmt}{rest:List PySem.Stmt}{t u:TS}(h1:PS X st t) (h2:PSs X rest u):PSs X (st::rest) (ZT t u):=fun pins s σ H D I h=>AE h1 h2 pins s σ H D I (h _ _ _ _ (fun _ _ z=>z) fun _ _ z=>z)
end L2
namespace L2
open PySem PySem.Spec PyProof.Rows
@[elab_as_elim]
theorem AV {H:Hp}{c:Addr}{o:HO}{R:Hp→Prop}(hc:H c=none) (k:∀G,AO H G→G c=some o→R G):R (upd H c o):=k _ (AO.Q7 hc) AG
theorem le1 {n m:Nat}(h:n.ble m=true):n≤m:=(by simp_all)
theorem BH {N P:List Str}{sc:Scope}(h1:sc.kind=.function:=by rfl) (h2:sc.isCoroutine=false:=by rfl) (h3:sc.isGenerator=false:=by rfl) (h4:N.Nodup:=by decide +kernel) (h5:N.take P.length=P:=by rfl) (h6:∀x∈P,sc.names.lookup x=some .local\/sc.names.lookup x=some .cell:=by decide +kernel) (h7:∀y∈sc.names,y.2≠.free:=by decide +kernel):AR N P sc:=⟨h1,h2,h3,h4,h5,h6,h7⟩
structure A6 (P:Program) (w:World) (K:PySem.W.Frag) (mg:Str→Option Value) (base:Heap) (k:Nat) (f:Addr) (fd:FuncData) (ps:List Str) (sp:Sp) (x:Str):Prop where
 F:Ao P w K mg base CX0 k f fd ps sp
 m:mg x=some (.ref f)
 k:PySem.W.keepIn K (.ref f)=true
 b:Binds K fd ps []
section
variable {X:Cx}{k n:Nat}{f:Addr}{fd:FuncData}{ps:List Str}{sp:Sp}{x:Str}{p pos pos':Pos}{e a b:Expr}{es:List Expr}{ta tb te:TE}{t:TA}
theorem AJ (C:A6 X.prog X.w X.K X.mg X.base k f fd ps sp x) (hr:Co n X.A) (ha:PA X (e::es) t) (hn:k≤n:=by decide) (hg:Gl X x:=by rfl) (hdb:(x==("__debug__" : Str))=false:=by decide) (he:starEach (e::es) X.env=(false,eval e X.env)::starEach es X.env:=by rfl) (hpl:(backTo pos (starEach es X.env)).any (·.1)=false:=by rfl) :
  PE X (.Call (.Name x p) (e::es) [] pos) (Pz sp [] E0 t):=Sj C.F (hr.mono hn) hg C.m C.k C.b .nil Ic ha hdb he hpl
theorem psl (i:Nat) (hN:X.N.Nodup) (he:PE X e te) (hi:X.N[i]?=some x:=by rfl) (hx:Loc X.env.scope x:=by first|exact .inl rfl|exact .inr rfl) (hs:swapsWith e (some (.Name x pos')) pos.line X.env=pure false:=by rfl) (hf:X.fn x=true\/X.env.scope.names.lookup x=some .local:=by first|exact .inl rfl|exact .inr rfl|assumption) :
  PS X (.Assign [.Name x pos'] e pos) (WL te (GN i)):=Yc hN hi hx he hs hf
theorem pgn (i:Nat) (hN:X.N.Nodup) (hi:X.N[i]?=some x:=by rfl) (hx:Loc X.env.scope x:=by first|exact .inl rfl|exact .inr rfl) (hf:X.fn x=true\/X.env.scope.names.lookup x=some .local:=by first|exact .inl rfl|exact .inr rfl|assumption):PG X (.Name x pos) (GN i):=Kq hN hi hx hf
theorem pap (K:PySem.W.Frag) (ho:PE X a ta) (ha:PA X (e::es) t) (hK:X.K=K:=by rfl) (hbase:attributeBase a "append" X.env (eval a X.env)=eval a X.env:=by rfl)
  (hfew:((backTo pos (starEach (e::es) X.env)).all (fun x=>!x.1)&&(backToKw pos (keywordEach [] X.env)).all (fun x=>x.1.isSome)
   && decide ((e::es).length+([]:List Keyword).length+(if ([]:List Keyword).isEmpty then 0 else 1)<30))=true:=by rfl)
  (hline:(p.endLine==pos.line)=true:=by rfl) (hs:starEach (e::es) X.env=(false,eval e X.env)::starEach es X.env:=by rfl) (hpl:(backTo pos (starEach es X.env)).any (·.1)=false:=by rfl):PE X (.Call (.Attribute a "append" p) (e::es) [] pos) (tBM K "list" O2 ta t) :=
 CA PySem.F.plainAttrs_list PySem.F.slot_list_append PySem.F.type_list_append Tu ho ha hK hbase hfew hline hs hpl
theorem pcm {iter elt:Expr}{ifs:List Expr}{scope:Scope}{wi:TI}{tt:TT}{px:Pos}(osc:Scope) (fr:List (Str×Nat)) (hfr:Nt X scope fr) (hi:PI X (.Name x px) iter wi)
  (ht:∀C s H ex,PTs (A9 X scope (x::fr.map (·.1)) C s H ex) ifs tt) (he:∀C s H ex,PE (A9 X scope (x::fr.map (·.1)) C s H ex) elt te)
  (hc:X.calm=true:=by rfl) (ho:X.env.scope=osc:=by rfl) (hk:scope.kind=.function:=by rfl) (hcell:∀y∈scope.names,y.2≠.cell:=by decide +kernel) (hnames:∀y∈scope.names,y.2=.local→scope.names.lookup y.1=some .local:=by decide +kernel)
  (hfree:∀y∈scope.names,y.2=.free→osc.names.lookup y.1=some .cell\/osc.names.lookup y.1=some .free:=by decide +kernel) (hx:scope.names.lookup x=some .local:=by rfl) (hnd:(x::fr.map (·.1)).Nodup:=by decide +kernel) (hs:∀x,foldedSetIterable iter X.env x=pure x:=by intro _;rfl) :
  PE X (.ListComp elt [⟨.Name x px,iter,ifs,0⟩] scope pos) (Mv 1 (fr.map (·.2)) wi (GN 0) tt te):=U8 fr hc hi ho hk hcell hnames hfree hfr hx hnd ht he hs
end
end L2
namespace L2
open PySem PySem.Spec PyProof.Rows
def onI (x:V) (k:Int→Prop):Prop:=match x with|.int i=>k i|_=>False
def onR (x:V) (k:Addr→Prop):Prop:=match x with|.ref i=>k i|_=>False
def onV (x:Option (Option V)) (k:V→Prop):Prop:=match x with|some (some v)=>k v|_=>False
def on1 (xs:List V) (k:V→Prop):Prop:=match xs with|[x]=>k x|_=>False
theorem Hg {x:V}{k:Int→Prop}(h:onI x k):∃i,x=.int i/\k i:=by cases x <;> first|exact ⟨_,rfl,h⟩|exact h.elim
theorem Dh {x:V}{k:Addr→Prop}(h:onR x k):∃i,x=.ref i/\k i:=by cases x <;> first|exact ⟨_,rfl,h⟩|exact h.elim
theorem O8 {x:Option (Option V)}{k:V→Prop}(h:onV x k):∃v,x=some (some v)/\k v:=by
 match x,h with
 | some (some v),h=>exact ⟨v,rfl,h⟩
theorem Yj {xs:List V}{k:V→Prop}(h:on1 xs k):∃x,xs=[x]/\k x:=by
 match xs,h with
 | [x],h=>exact ⟨x,rfl,h⟩
def IE (i:Nat):TE:=fun σ H Q=>onV σ[i]? fun v=>Q v H
def rIC (C:Int→Int→Prop) (g:Int→Int→V):R2:=fun x y H Q=>onI x fun i=>onI y fun j=>C i j/\Q (g i j) H
def Ta (g:Int→Int→V):R2:=fun x y H Q=>onI x fun i=>onI y fun j=>Q (g i j) H
def rUC (g:Int→V):V→Hp→VK→Prop:=fun x H Q=>onI x fun i=>Q (g i) H
def Xo (K:PySem.W.Frag):R2:=fun x y H Q=>onR x fun p=>onI y fun i=>∃xs v,SqL K H p xs/\atI xs i=some v/\Q v H
def Ur (K:PySem.W.Frag):R2:=fun x y H Q=>onR x fun p=>onI y fun i=>∃xs v,SqT K H p xs/\atI xs i=some v/\Q v H
section
variable {X:Cx}{k n:Nat}{f:Addr}{fd:FuncData}{ps:List Str}{sp sp':Sp}{x:Str}{p pos pos':Pos}{e a b:Expr}{es:List Expr}{t t' ta tb te:TE}{r r':R2}{tA:TA}{fn:Value→Value→Sem Value}
theorem Wt (h:PE X e t) (m:∀σ H Q,t' σ H Q→t σ H Q):PE X e t':=fun pins s σ H Q I w=>h _ s σ H Q I (m σ H Q w)
theorem Gn (h:OpR X fn r) (m:∀x y H Q,r' x y H Q→r x y H Q):OpR X fn r':=fun pins s σ H x y v u Q I rx ry w=>h _ s σ H x y v u Q I rx ry (m x y H Q w)
theorem RG {C:Int→Int→Prop}{g:Int→Int→V}(x y:V) (H:Hp) (Q:VK) (h:rIC C g x y H Q):rI C g x y H Q:=by
 obtain ⟨i,rfl,h1⟩:=Hg h
 obtain ⟨j,rfl,c,q⟩:=Hg h1
 exact ⟨i,j,rfl,rfl,c,q⟩
theorem Kn {g:Int→Int→V}(x y:V) (H:Hp) (Q:VK) (h:Ta g x y H Q):rI0 g x y H Q:=by
 obtain ⟨i,rfl,h1⟩:=Hg h
 obtain ⟨j,rfl,q⟩:=Hg h1
 exact ⟨i,j,rfl,rfl,q⟩
theorem pvC (i:Nat) (hN:X.N[i]?=some x:=by rfl) (hv:Vis X.env.scope x:=by first|exact Or.inl rfl|exact Or.inr (Or.inl rfl)|exact Or.inr (Or.inr rfl)) (hd:(x==("__debug__" : Str))=false:=by decide)
  (hcd:(x==("__classdict__" : Str))=false:=by decide):PE X (.Name x pos) (IE i):=Wt (RL hN hv hd hcd) fun _ _ _ h=>O8 h
theorem Bb:OpR X (binaryOp .Add) (Ta fun i j=>.int (i+j)):=Gn Yi Kn
theorem Mo:OpR X (binaryOp .Sub) (Ta fun i j=>.int (i-j)):=Gn Yf Kn
theorem Wu:OpR X (binaryOp .Mult) (rIC Xh fun i j=>.int (i * j)):=Gn Yg RG
theorem BU:OpR X (binaryOp .FloorDiv) (rIC Xi fun i j=>.int (i / j)):=Gn Wv RG
theorem Ap:OpR X (binaryOp .Mod) (rIC (fun _ j=>0<j) fun i j=>.int (i % j)):=Gn Yh RG
theorem O7:OpR X (compareOp .Lt) (Ta fun i j=>.bl (decide (i<j))):=Gn Z2 Kn
theorem Gx:OpR X (compareOp .LtE) (Ta fun i j=>.bl (decide (i≤j))):=Gn Z3 Kn
theorem RM:OpR X (compareOp .Gt) (Ta fun i j=>.bl (decide (j<i))):=Gn Z4 Kn
theorem Mh:UnR X (unaryOp .USub) (rUC fun i=>.int (-i)):=fun pins s σ H x v Q I rx h=>X9 pins s σ H x v Q I rx (Hg h)
theorem Bn (K:PySem.W.Frag) (ha:PE X a ta) (hb:PE X b tb) (hs:Pp b:=by exact fun _ _=>rfl) (hK:X.K=K:=by rfl):PE X (.Subscript a b pos) (tOp (Xo K) ta tb) :=
 U3 (fun a b pins s σ H x y v u Q I rx ry h=>Vi hK a b pins s σ H x y v u Q I rx ry (by
  obtain ⟨p,rfl,h⟩:=Dh h
  obtain ⟨i,rfl,xs,w,h1,h2,q⟩:=Hg h
  exact ⟨p,xs,i,w,rfl,rfl,h1,h2,q⟩)) ha hb hs
theorem Ci (K:PySem.W.Frag) (ha:PE X a ta) (hb:PE X b tb) (hs:Pp b:=by exact fun _ _=>rfl) (hK:X.K=K:=by rfl):PE X (.Subscript a b pos) (tOp (Ur K) ta tb) :=
 U3 (fun a b pins s σ H x y v u Q I rx ry h=>XQ hK a b _ s σ H x y v u Q I rx ry (by
  obtain ⟨p,rfl,h⟩:=Dh h
  obtain ⟨i,rfl,xs,w,h1,h2,q⟩:=Hg h
  exact ⟨p,xs,i,w,rfl,rfl,h1,h2,q⟩)) ha hb hs
theorem AW {K:PySem.W.Frag}(hK:X.K=K:=by rfl):DT X (.builtin "len") (fun xs H Q=>on1 xs fun x=>onR x fun p=>∃ys,(SqL K H p ys\/SqT K H p ys)/\Q (.int ys.length) H):=fun pins s σ H xs us Q I r h=>N6 hK pins s σ H xs us Q I r (by
 obtain ⟨x,rfl,h⟩:=Yj h
 obtain ⟨p,rfl,ys,h,q⟩:=Dh h
 exact ⟨p,ys,rfl,h,q⟩)
theorem A6.weak {P:Program}{w:World}{K:PySem.W.Frag}{mg:Str→Option Value}{base:Heap}(C:A6 P w K mg base k f fd ps sp x) (m:∀vs H Q E,sp' vs H Q E→sp vs H Q E):A6 P w K mg base k f fd ps sp' x :=
 ⟨⟨fun vs H Q E h=>C.F.len vs H Q E (m _ _ _ _ h),fun A outer s H args us vs Q E hr he hb hv h=>C.F.run A outer s H args us vs Q E hr he hb hv (m _ _ _ _ h)⟩,C.m,C.k,C.b⟩
end
end L2
namespace Stk
open PySem PySem.Spec PyProof.Rows L2
end Stk
namespace L2
open PySem PySem.Spec PyProof.Rows
section
variable {X:Cx}{K:PySem.W.Frag}{e:Expr}{te:TE}{p1 p2 pos1 pos2:Pos}
end
end L2
namespace L2
open PySem PySem.Spec PyProof.Rows
section
open PySem.SeqAt
open PySem.AutoSeq1 (wpAny_loadPart')
open PySem.MeetsSeq PySem.MeetsSeq2 PySem.MeetsSeq3
end
section
variable {X:Cx}{K:PySem.W.Frag}
end
end L2
namespace Srt
open PySem PyProof.Rows
section
variable {prog:Program}{w:World}{A:Around}{E:Value→Shared→Prop}{s:Shared}{κ:SortKind}{O:KeyOrd}{kf:Value→O.α}{a₀:Array Keyed}{st:SortSt}
theorem Us (C:Cmp prog w A s κ O kf a₀) (h2:2≤a₀.size) (h64:a₀.size<64) (B:SB κ a₀ st) (p0:pendingOf st=#[]) {Q:Unit→SortSt→Prop}
  (h:∀st',SB κ a₀ st'→Up kf (arrOf st') 0 a₀.size→Q () st'):wpS (model prog w) A E s sortRuns' Q st:=by
 rw [sortRuns'_eq]
 refine wpS_bind (wpS_get ?_)
 dsimp only
 have hmr:minRun' a₀.size a₀.size 0=a₀.size:=by
  obtain ⟨f,hf⟩:∃f,a₀.size=f+1:=⟨a₀.size-1,by omega⟩
  have:minRun' (f+1) a₀.size 0=a₀.size:=by rw [minRun'_succ,if_pos h64];rfl
  rwa [←hf] at this
 simp only [B.size,hmr]
 have dn:∀{st3:SortSt},SB κ a₀ st3→pendingOf st3=#[]→Up kf (arrOf st3) 0 a₀.size→SB κ a₀ (setPending st3 ((pendingOf st3).push (0,a₀.size,0)))/\(pendingOf (setPending st3 ((pendingOf st3).push (0,a₀.size,0)))).size≤1/\Up kf (arrOf (setPending st3 ((pendingOf st3).push (0,a₀.size,0)))) 0 a₀.size:=fun {st3} B3 p3 u3 =>
  ⟨⟨B3.perm,B3.kind,B3.failed⟩,by show ((pendingOf st3).push _).size≤1;rw [p3];exact Nat.le_refl 1,u3⟩
 refine wpS_bind (wpS_mono (wpS_forRange
  (I:=fun x c st'=>(x=0/\c=(none,0)/\SB κ a₀ st'/\pendingOf st'=#[])\/(1≤x/\c=(none,a₀.size)/\SB κ a₀ st'/\(pendingOf st').size≤1/\Up kf (arrOf st') 0 a₀.size))
  (Q:=fun c st'=>c=(none,a₀.size)/\SB κ a₀ st'/\(pendingOf st').size≤1/\Up kf (arrOf st') 0 a₀.size) ?step ?fin (.inl ⟨rfl,rfl,B,p0⟩)) ?post)
 case fin =>
  rintro c st' (⟨hx,_⟩|⟨_,q⟩)
  ·omega
  ·exact q
 case step =>
  rintro x c st' _ hx (⟨rfl,rfl,B',p'⟩|⟨hx1,rfl,q⟩)
  ·dsimp only
   rw [if_neg (by omega)]
   simp only [Nat.sub_zero,Nat.min_self,Nat.zero_add]
   refine wpS_bind (Wh C (by omega) (by omega) B' fun n st2 B2 K2 n1 n2 u2=>?_)
   dsimp only
   by_cases hlt:n<a₀.size
   ·refine WH hlt ?_
    refine wpS_bind (wpS_lift (wpAny_rule ⟨rfl,?_⟩))
    refine wpS_bind (Uu C (by omega) (by omega) B2 u2 fun st3 B3 K3 u3=>?_)
    refine SJ (by simp) ?_
    have p3:pendingOf st3=#[]:=by rw [K3.pend,K2.pend];exact p'
    refine wpS_bind (wpS_get ?_)
    rw [show (pendingOf st3).back?=none by rw [p3];rfl]
    rw [Nat.zero_add] at u3
    exact wpS_bind (wpS_modify (wpS_pure (.inr ⟨Nat.le_refl _,rfl,dn B3 p3 u3⟩)))
   ·refine SJ hlt ?_
    obtain rfl:n=a₀.size:=by omega
    have p3:pendingOf st2=#[]:=by rw [K2.pend];exact p'
    refine wpS_bind (wpS_get ?_)
    rw [show (pendingOf st2).back?=none by rw [p3];rfl]
    rw [Nat.zero_add] at u2
    exact wpS_bind (wpS_modify (wpS_pure (.inr ⟨Nat.le_refl _,rfl,dn B2 p3 u2⟩)))
  ·dsimp only
   rw [if_pos (Nat.le_refl _)]
   exact wpS_pure ⟨rfl,q⟩
 case post =>
  rintro c st' ⟨rfl,B',z,u⟩
  dsimp only
  refine wpS_bind (wpS_mono (wpS_forRange (I:=fun _ c st''=>st''=st'/\c=(none,())) (Q:=fun c st''=>st''=st'/\c=(none,())) ?_ (fun _ _ hh=>hh) ⟨rfl,rfl⟩) ?_)
  ·rintro x c st'' _ _ ⟨rfl,rfl⟩
   refine wpS_bind (wpS_get ?_)
   rw [if_pos z]
   exact wpS_pure ⟨rfl,rfl⟩
  ·rintro c st'' ⟨rfl,rfl⟩
   exact wpS_pure (h _ B' u)
end
section
variable {prog:Program}{w:World}{A:Around}{E:Value→Shared→Prop}{s:Shared}{O:KeyOrd}
theorem Ko {a:Addr}{vs:List Value}{n:Nat}{P:PySem.Fin→Shared→Prop}(ho:s.heap.get? a=some (seqObj "list" vs.toArray n)) (hz:vs.length<64) (kf:Value→O.α)
  (cmp:∀h',(∀b o,b≠a→s.heap.get? b=some o→h'.get? b=some o)→2≤vs.length→∃κ,(∀(Q:SortKind→Shared→Prop) (E:Value→Shared→Prop),Q κ { s with heap:=h' }→wpAny (model prog w) A (keyKind' vs.toArray) Q E { s with heap:=h' })/\Cmp prog w A { s with heap:=h' } κ O kf (pairsOf vs))
  (h:∀out:Array Keyed,out.Perm (pairsOf vs)→Up kf out 0 (pairsOf vs).size→P (.done (.ret .none)) { s with heap:=sortedHeap s.heap a vs (out.map (·.2)) }) :
  wpAny (model prog w) A (Builtin.«list.sort» ⟨[.ref a],[]⟩) P E s:=by
 rw [list_sort_plain]
 have ha:a<s.heap.objs.size:=Heap.lt_size ho
 refine wpAny_bind (listItems_at ho rfl (wpAny_bind (listUpdate_at ho rfl ?_)))
 obtain ⟨e1,ho1⟩:∃e1,(s.heap.update a (Obj.mapSeq fun _=>#[])).get? a=some (seqObj "list" #[] e1):=⟨_,get?_update_seq ho (fun _=>#[])⟩
 refine wpAny_bind (seqEpoch_at ho1 rfl (wpAny_bind (wpAny_newTuple (wpAny_bind (wpAny_newList (wpAny_holding ?_))))))
 generalize hh:((s.heap.update a (Obj.mapSeq fun _=>#[])).push (seqObj "tuple" vs.toArray 0)).push (seqObj "list" #[] 0)=h2
 have kp:∀b o,b≠a→s.heap.get? b=some o→h2.get? b=some o:=fun b o hb q=>by
  rw [←hh]
  exact Heap.get?_push_of_some _ (Heap.get?_push_of_some _ ((Heap.get?_update_ne _ _ _ _ hb).trans q))
 have ho6:h2.get? a=some (seqObj "list" #[] e1):=by
  rw [←hh]
  exact Heap.get?_push_of_some _ (Heap.get?_push_of_some _ ho1)
 have fin  := fun out h1 h3=>by
  have:=h out h1 h3
  unfold sortedHeap at this
  rw [hh] at this
  exact this
 dsimp only
 by_cases h2':vs.toArray.size<2
 ·rw [if_pos h2',if_pos h2']
  refine wpAny_bind (wpAny_pure ?_)
  rw [StateT.run_pure]
  refine wpAny_bind (wpAny_pure ?_)
  dsimp only
  refine wpAny_bind (seqEpoch_at ho6 rfl (wpAny_bind (listUpdate_at ho6 rfl ?_ (hsz2:=by have:=sizeLine_eq;grind))))
  simp only [bne_self_eq_false,Bool.false_eq_true,if_false]
  refine wpAny_pure (fin (vs.toArray.zip vs.toArray) (Array.Perm.refl _) fun i j _ q1 q2=>?_)
  rw [pairsOf_size] at q2
  have hsz:vs.toArray.size=vs.length:=by simp
  obtain rfl:i=j:=by omega
  exact KeyOrd.kle_refl _
 ·rw [if_neg h2',if_neg h2']
  obtain ⟨κ,kk,C⟩:=cmp h2 kp (by simpa using h2')
  refine wpAny_bind (kk _ _ ?_)
  refine wpAny_bind (wpAny_mono (Us C (by rw [pairsOf_size];simpa using h2') (by rw [pairsOf_size];exact hz) (st:=SortSt.mk' κ (pairsOf vs) #[] 7 none) (Q:=fun _ st'=>SB κ (pairsOf vs) st'/\Up kf (arrOf st') 0 (pairsOf vs).size) ⟨Array.Perm.refl _,rfl,rfl⟩ rfl fun st' B u=>⟨B,u⟩) ?_ fun _ _ e=>e)
  rintro ⟨⟨⟩,st'⟩ s' ⟨rfl,B,u⟩
  dsimp only
  refine wpAny_bind (seqEpoch_at ho6 rfl (wpAny_bind (listUpdate_at ho6 rfl ?_ (hsz2:=by have:=sizeLine_eq;refine Nat.le_trans (Nat.le_of_eq ((Array.size_map ..).trans (B.perm.size_eq.trans (pairsOf_size _)))) ?_;omega))))
  rw [B.failed]
  simp only [bne_self_eq_false,Bool.false_eq_true,if_false]
  exact wpAny_pure (fin _ B.perm u)
end
end Srt
namespace L2
open PySem PySem.Spec PyProof.Rows
section
variable {X:Cx}{K:PySem.W.Frag}
theorem I0 (hK:X.K=K:=by rfl):DT X (.builtin "sorted") (fun xs H Q=>∃(p:Addr) (ys:List V) (kss:List (List Key)),xs=[.ref p]/\SqL K H p ys/\Hx K H ys kss/\ys.length<64 /\
  ∀l (qs:List (V×List Key)),H l=none→qs.Perm (ys.zip kss)→(qs.map (·.2)).Pairwise (fun a b=>An b a=false)→Q (.ref l) (upd H l (.lst (qs.map (·.1))))):=by
 subst hK
 intro pins s σ H xs us Q I r h
 obtain ⟨p,ys,kss,rfl,hq,so,l64,q⟩:=h
 obtain ⟨u,rfl,ru⟩:=vals1 r
 cases ru
 obtain ⟨its,rv,pl,hz⟩:=I.list hq
 have sv:=so.vals I rv
 have hl:=pl.isList
 have hlen:=rv.length
 refine Calls.call_function_entry kind_sorted plain_sorted entry_sorted (args_sorted1 _) ?_
 unfold Builtin.«sorted»
 refine wpAny_bind (m:=checkCount "sorted" 1 1 _) (wpAny_pure ?_)
 refine wpAny_bind (collect_list hl ?_ (by omega))
 refine wpAny_bind (wpAny_newList ?_ (by omega))
 have hsz:((s.heap.push (seqObj "list" #[] 0)).update s.heap.objs.size (Obj.mapSeq (·++its.toArray))).objs.size=s.heap.objs.size+1:=by
  simp_all
 have hoL:(((s.heap.push (seqObj "list" #[] 0)).update s.heap.objs.size (Obj.mapSeq (·++its.toArray))).push (seqObj "list" its.toArray 0)).get? (s.heap.objs.size+1)=some (seqObj "list" its.toArray 0):=by
  rw [←hsz];exact Heap.get?_push_size _ rfl
 have kp:∀b o,s.heap.get? b=some o→(((s.heap.push (seqObj "list" #[] 0)).update s.heap.objs.size (Obj.mapSeq (·++its.toArray))).push (seqObj "list" its.toArray 0)).get? b=some o:=fun b o e =>
  Heap.get?_push_of_some _ ((Heap.get?_update_ne _ _ _ _ (Nat.ne_of_lt (Heap.lt_size e))).trans (Heap.get?_push_of_some _ e))
 rw [hsz]
 refine wpAny_bind (wpAny_holding (wpAny_call_entry slot_list_sort ⟨_,hoL,rfl⟩ entry_list_sort (Srt.Ko (O:=lexOrd) hoL (by omega) (kfH s.heap) (fun h' k' h2=>?_) fun out p u=>⟨_,rfl,wpAny_pure ⟨_,rfl,?_⟩⟩) (by rfl)))
 ·refine sv.cmp h2 fun a o items m _ e _ _=>?_
  grind
 ·obtain ⟨qs,q1,q2,q3⟩:=VE (X:=X) rv sv p u
  obtain ⟨e,ho⟩:=sortedAll_at s.heap its (out.map (·.2))
  have lz:(qs.map (·.1)).length≤sizeLine:=by
   rw [List.length_map,q1.length_eq,List.length_zip]
   omega
  refine ⟨.ref (s.heap.objs.size+1),_,I.laid (a:=s.heap.objs.size+1) (o:=.lst (qs.map (·.1))) (t':=s.toks) (fun b o e=>sortedAll_old e) (Nat.le_succ _) ⟨lz,_,e,q2,by assumption⟩,rfl,q _ qs (I.hok.fresh (Nat.le_succ _)) q1 q3⟩
theorem GS (hc:X.calm=true):DT X (.builtin "sorted") (fun xs H Q=>∃(d:Addr) (kvs:List (Key×V)),xs=[.ref d]/\H d=some (.dK kvs)/\((∀p∈kvs,∃i,p.1=.inl i)\/∀p∈kvs,∃i,p.1=.inr i)/\kvs.length<64 /\
  ∀l (ks:List Key),H l=none→ks.Perm (kvs.map (·.1))→ks.Pairwise (fun a b=>kLt b a=false)→Q (.ref l) (upd H l (.lst (ks.map kV)))):=by
 intro pins s σ H xs us Q I r h
 obtain ⟨d,kvs,rfl,e,hty,l64,q⟩:=h
 obtain ⟨u,rfl,ru⟩:=vals1 r
 cases ru
 obtain ⟨z,lo,vs,rel,dd⟩:=TB I.hok e
 obtain ⟨ep,hat⟩:=dd.dictAt
 have hlen:kvs.length=vs.length:=Paired.length rel
 refine Calls.call_function_entry kind_sorted plain_sorted entry_sorted (args_sorted1 _) ?_
 unfold Builtin.«sorted»
 refine wpAny_bind (m:=checkCount "sorted" 1 1 _) (wpAny_pure ?_)
 refine wpAny_bind (Pf (PySem.W.kdl_dict (knd:=A5 X.prog X.w) (kvs:=vs) (ep:=ep) lo) (I.ok.hd hc) hat (by omega) fun h1 tk acc k1 gr it=>?_)
 have rv:Vals (kvs.map fun p=>kV p.1) acc.toList:=T6 rel (by rw [Array.length_toList];exact it.1) fun j v hv=>it.2 j v (by rw [←Array.getElem?_toList];exact hv)
 have ra:=rv.length
 rw [List.length_map] at ra
 have sv:Fv h1 acc.toList (kvs.map fun p=>[p.1]):=by
  rcases hty with hty|hty
  ·refine .cI (by rw [List.length_map];omega) fun i u ks e1 e2=>?_
   rw [List.getElem?_map] at e2
   obtain ⟨p,e3,rfl⟩:=Option.map_eq_some_iff.mp e2
   obtain ⟨n,en⟩:=hty p (List.mem_of_getElem? e3)
   obtain ⟨u',e4,e5⟩:=rv.get (i:=i) (x:=kV p.1) (by rw [List.getElem?_map,e3];rfl)
   rw [e1] at e4
   cases e4
   rw [en] at e5 ⊢
   obtain ⟨t,rfl⟩:=e5
   exact ⟨n,t,rfl,rfl⟩
  ·refine .cS (by rw [List.length_map];omega) fun i u ks e1 e2=>?_
   rw [List.getElem?_map] at e2
   obtain ⟨p,e3,rfl⟩:=Option.map_eq_some_iff.mp e2
   obtain ⟨n,en⟩:=hty p (List.mem_of_getElem? e3)
   obtain ⟨u',e4,e5⟩:=rv.get (i:=i) (x:=kV p.1) (by rw [List.getElem?_map,e3];rfl)
   rw [e1] at e4
   cases e4
   rw [en] at e5 ⊢
   obtain ⟨t,rfl⟩:=e5
   exact ⟨n,t,rfl,rfl⟩
 generalize hits:acc.toList=its at rv ra sv
 refine wpAny_bind (wpAny_newList ?_ (by omega))
 have hoL:(h1.push (seqObj "list" its.toArray 0)).get? h1.objs.size=some (seqObj "list" its.toArray 0):=Heap.get?_push_size _ rfl
 have grow:s.heap.objs.size≤h1.objs.size:=Nat.le_of_lt gr
 refine wpAny_bind (wpAny_holding (wpAny_call_entry (s:={ s with heap:=h1.push (seqObj "list" its.toArray 0),toks:=tk }) slot_list_sort ⟨_,hoL,rfl⟩ entry_list_sort (Srt.Ko (O:=lexOrd) hoL (by omega) (kfH h1) (fun h' k' h2=>?_) fun out p u=>⟨_,rfl,wpAny_pure ⟨_,rfl,?_⟩⟩) (args_list_sort _)))
 ·refine sv.cmp h2 fun a o items m _ e _ _=>?_
  exact k' a o (Nat.ne_of_lt (Heap.lt_size e)) (Heap.get?_push_of_some _ e)
 ·obtain ⟨qs,q1,q2,q3⟩:=VE (X:=X) rv sv p u
  obtain ⟨e',ho⟩:=sortedHeap_at (h:=h1.push (seqObj "list" its.toArray 0)) (a:=h1.objs.size) (vs:=its) (out:=out.map (·.2)) hoL
  have ep:qs.map (·.1)=(qs.map fun x=>x.2.headD (.inl 0)).map kV:=by
   rw [List.map_map]
   refine List.map_congr_left fun x hx=>?_
   have hm:=q1.mem_iff.mp hx
   obtain ⟨i,hi⟩:=List.mem_iff_getElem?.mp hm
   obtain ⟨e3,e4⟩:=List.getElem?_zip_eq_some.mp hi
   rw [List.getElem?_map] at e3 e4
   obtain ⟨p3,e5,e6⟩:=Option.map_eq_some_iff.mp e3
   rw [e5] at e4
   have e4:some [p3.1]=some x.2:=e4
   show x.1=kV (x.2.headD (.inl 0))
   rw [←e6,←Option.some.inj e4]
   rfl
  have pm:(qs.map fun x=>x.2.headD (.inl 0)).Perm (kvs.map (·.1)):=by
   refine (q1.map _).trans (List.Perm.of_eq ?_)
   rw [show (fun x:V×List Key=>x.2.headD (.inl 0))=(fun l:List Key=>l.headD (.inl 0)) ∘ Prod.snd from rfl,←List.map_map,List.map_snd_zip (by simp),List.map_map]
   rfl
  have pw:(qs.map fun x=>x.2.headD (.inl 0)).Pairwise (fun a b=>kLt b a=false):=by
   rw [List.pairwise_map]
   rw [List.pairwise_map] at q3
   refine q3.imp_of_mem fun {a b} ha hb hab=>?_
   have one:∀x∈qs,∃k,x.2=[k]:=fun x hx=>by
    have hm:=q1.mem_iff.mp hx
    obtain ⟨i,hi⟩:=List.mem_iff_getElem?.mp hm
    obtain ⟨_,e4⟩:=List.getElem?_zip_eq_some.mp hi
    rw [List.getElem?_map] at e4
    obtain ⟨p3,_,e6⟩:=Option.map_eq_some_iff.mp e4
    exact ⟨_,e6.symm⟩
   obtain ⟨x,ex⟩:=one a ha
   obtain ⟨y,ey⟩:=one b hb
   rw [ex,ey] at hab ⊢
   show kLt y x=false
   have hab:(if y=x then false else kLt y x)=false:=hab
   by_cases z:y=x
   ·rw [z];exact K0 x
   ·rw [if_neg z] at hab;exact hab
  have lz:(qs.map (·.1)).length≤sizeLine:=by
   rw [List.length_map,q1.length_eq,List.length_zip,List.length_map]
   omega
  have old:∀b o,s.heap.get? b=some o→(sortedHeap (h1.push (seqObj "list" its.toArray 0)) h1.objs.size its (out.map (·.2))).get? b=some o:=fun b o e=>by
   have e1:=k1 b o e
   have hlt:=Heap.lt_size e1
   rw [sortedHeap_old (Nat.ne_of_lt hlt) (by rw [size_push'];exact Nat.lt_succ_of_lt hlt)]
   exact Heap.get?_push_of_some _ e1
  refine ⟨.ref h1.objs.size,_,I.laid (a:=h1.objs.size) (o:=.lst (qs.map (·.1))) (t':=tk) old grow ⟨lz,_,e',q2,by rw [Array.toArray_toList];exact ho⟩,rfl,?_⟩
  rw [ep]
  exact q _ _ (I.hok.fresh grow) pm pw
end
end L2
set_option maxHeartbeats 4000000
namespace K23
open PySem L2
seal PE PT PW PA PS PSs PG PGs PI PTs PC PO OpR UnR DT IxR SlR
def top (i:Nat):Stmt:=PySem.Challenge.pw_brooktally_k23_lines_that_are_no_keep.main.body.getD i (.Pass ⟨0,0,0,0⟩)
abbrev P6:Stmt:=top 0
abbrev De:Stmt:=inClass (top 8) 0
abbrev J4:Stmt:=top 15
abbrev J5:Stmt:=top 16
abbrev LV:Stmt:=top 17
abbrev F5:Stmt:=top 18
abbrev LW:Stmt:=top 19
abbrev Hd:Stmt:=top 20
abbrev Gv:Stmt:=top 21
abbrev JI:Stmt:=top 22
abbrev IT:Stmt:=top 23
abbrev Ew:Stmt:=inClass (top 26) 0
abbrev Ji:Stmt:=inClass (top 26) 1
abbrev O0:Stmt:=top 28
abbrev Gj:Stmt:=top 29
abbrev P7:Stmt:=top 31
abbrev SX:Stmt:=top 32
abbrev IU:Stmt:=top 36
abbrev M9:Stmt:=top 38
abbrev SY:Stmt:=top 39
abbrev SW:Stmt:=top 40
abbrev Kj:Stmt:=top 42
abbrev NA:Stmt:=top 43
abbrev OI:Stmt:=top 44
abbrev QA:Stmt:=top 45
abbrev P9:Stmt:=top 47
abbrev P8:Stmt:=top 48
abbrev NC:Stmt:=top 49
abbrev Eu:Stmt:=inClass (top 50) 0
abbrev MJ:Stmt:=inClass (top 50) 1
abbrev Jg:Stmt:=inClass (top 50) 2
abbrev Kk:Stmt:=inClass (top 50) 3
abbrev GK:Stmt:=inClass (top 50) 4
abbrev Fs:Stmt:=inClass (top 52) 0
abbrev KA:Stmt:=inClass (top 52) 1
abbrev MF:Stmt:=inClass (top 52) 2
abbrev MG:Stmt:=inClass (top 52) 3
abbrev IW:Stmt:=inClass (top 52) 4
abbrev Ft:Stmt:=inClass (top 54) 0
abbrev MI:Stmt:=inClass (top 54) 1
abbrev MH:Stmt:=inClass (top 54) 2
abbrev JH:Stmt:=top 56
abbrev J0:Stmt:=top 58
abbrev IV:Stmt:=top 59
abbrev Fu:Stmt:=inClass (top 60) 0
abbrev MK:Stmt:=inClass (top 60) 1
abbrev IZ:Stmt:=inClass (top 60) 2
abbrev Jh:Stmt:=inClass (top 60) 3
abbrev J7:Stmt:=top 62
abbrev F4:Stmt:=top 63
abbrev FY:Stmt:=top 64
abbrev LR:Stmt:=top 65
abbrev NB:Stmt:=top 66
abbrev F3:Stmt:=top 68
abbrev Gm:Stmt:=top 69
abbrev J9:Stmt:=top 70
abbrev LU:Stmt:=top 71
abbrev Jz:Stmt:=top 72
abbrev Jy:Stmt:=top 73
abbrev IQ:Stmt:=top 74
abbrev Jx:Stmt:=top 75
abbrev IS:Stmt:=top 76
abbrev Js:Stmt:=top 77
abbrev Jw:Stmt:=top 79
abbrev Oy:Stmt:=top 80
abbrev Oz:Stmt:=top 81
abbrev Jr:Stmt:=top 82
abbrev Jt:Stmt:=top 83
abbrev Et:Stmt:=top 84
abbrev Jv:Stmt:=top 85
abbrev LQ:Stmt:=top 86
abbrev Ju:Stmt:=top 87
abbrev Ki:Stmt:=top 88
abbrev Gk:Stmt:=top 89
abbrev M7:Stmt:=top 90
abbrev M8:Stmt:=top 91
abbrev Uq:Stmt:=top 92
theorem Ja:AR ["self", "place"] ["self", "place"] (AH De):=BH
theorem MA:AR ["thing"] ["thing"] (AH J4):=BH
theorem MB:AR ["thing", "least", "most"] ["thing", "least", "most"] (AH J5):=BH
theorem M5:AR ["thing"] ["thing"] (AH LV):=BH
theorem Je:AR ["text", "signs"] ["text", "signs"] (AH F5):=BH
theorem M6:AR ["thing"] ["thing"] (AH LW):=BH
theorem Jf:AR ["number", "great", "pieces"] ["number"] (AH Hd):=BH
theorem IP:AR ["number"] ["number"] (AH Gv):=BH
theorem M1:AR ["parts"] ["parts"] (AH JI):=BH
theorem Kc:AR ["word", "figures"] ["word"] (AH IT):=BH
theorem Gi:AR ["self", "slack"] ["self", "slack"] (AH Ew):=BH
theorem P5:AR ["rows", "mark", "low", "high", "middle"] ["rows", "mark"] (AH O0):=BH
theorem KY:AR ["rows", "told", "key"] ["rows"] (AH Gj):=BH
theorem Ke:AR ["step"] ["step"] (AH IU):=BH
theorem Gh:AR ["self", "step"] ["self", "step"] (AH Eu):=BH
theorem IF:AR ["self"] ["self"] (AH GK):=BH
theorem G0:AR ["self"] ["self"] (AH Fs):=BH
theorem ME:AR ["self", "item", "pair", "row", "place"] ["self", "item"] (AH KA):=BH
theorem Kh:AR ["self"] ["self"] (AH IW):=BH
theorem G1:AR ["self", "within"] ["self", "within"] (AH Ft):=BH
theorem M0:AR ["plan"] ["plan"] (AH JH):=BH
theorem L9:AR ["plan", "joins", "place", "step"] ["plan"] (AH J0):=BH
theorem Kf:AR ["plan", "groups", "place"] ["plan"] (AH IV):=BH
theorem G2:AR ["self", "plan", "slack"] ["self", "plan", "slack"] (AH Fu):=BH
theorem MC:AR ["many"] ["many"] (AH J7):=BH
theorem Jd:AR ["joins", "lines", "place", "side", "items"] ["joins"] (AH F4):=BH
theorem IM:AR ["groups", "lines", "place"] ["groups"] (AH FY):=BH
theorem M3:AR ["first", "joins", "groups", "lines"] ["first", "joins", "groups"] (AH LR):=BH
theorem OH:AR ["flow", "first"] ["flow"] (AH NB):=BH
theorem Jc:AR ["words"] ["words"] (AH F3):=BH
theorem Kg:AR ["numbers"] ["numbers"] (AH Gm):=BH
theorem MD:AR ["line", "words", "numbers"] ["line"] (AH J9):=BH
theorem M4:AR ["words", "joins", "item", "good"] ["words", "joins"] (AH LU):=BH
theorem L8:AR ["words", "groups", "piece", "good"] ["words", "groups"] (AH Jz):=BH
theorem L7:AR ["joins", "item"] ["joins", "item"] (AH Jy):=BH
theorem Ka:AR ["groups", "piece"] ["groups", "piece"] (AH IQ):=BH
theorem L6:AR ["line", "joins", "groups", "last", "words", "item", "piece"] ["line", "joins", "groups", "last"] (AH Jx):=BH
theorem Kb:AR ["lines", "joins", "groups", "last", "place"] ["lines", "joins", "groups"] (AH IS):=BH
theorem Lv:AR ["plan", "slack", "lines", "flow", "first", "clock"] ["plan", "slack", "lines"] (AH Js):=BH
theorem L5:AR ["_law_script", "_law_k"] ["_law_script", "_law_k"] (AH Jw):=BH
theorem P2:AR ["_law_first"] [] (AH Oy):=BH
theorem P4:AR ["_law_script", "_law_cell", "_law_lines", "_law_items", "_law_k", "_law_one", "_law_key", "_law_row", "_law_pieces", "_law_words"] ["_law_script"] (AH Oz):=BH
theorem Lu:AR ["_law_cell", "_law_some"] ["_law_cell"] (AH Jr):=BH
theorem Lw:AR ["_law_cell", "_law_some"] ["_law_cell"] (AH Jt):=BH
theorem Gg:AR ["_law_line", "_law_cell", "_law_words", "_law_at", "_law_way", "_law_word"] ["_law_line", "_law_cell"] (AH Et):=BH
theorem Lz:AR ["_law_lines", "_law_cell", "_law_at", "_law_more", "_law_rest", "_law_to", "_law_way"] ["_law_lines", "_law_cell"] (AH Jv):=BH
theorem Mz:AR ["_law_word", "_law_figures", "_law_sign"] ["_law_word"] (AH LQ):=BH
theorem Ly:AR ["_law_word", "_law_sign"] ["_law_word"] (AH Ju):=BH
theorem P1:AR ["_law_line", "_law_words", "_law_numbers"] ["_law_line"] (AH Ki):=BH
theorem KZ:AR ["_law_line", "_law_words", "_law_numbers"] ["_law_line"] (AH Gk):=BH
theorem OF:AR ["_law_lines", "_law_ahead", "_law_at", "_law_here"] ["_law_lines"] (AH M7):=BH
theorem OG:AR ["_law_e", "_law_others"] ["_law_e"] (AH M8):=BH
theorem Uo:AR ["_law_script", "_law_lines", "_law_k", "_law_due", "_law_handed", "_law_flow", "_law_e", "_law_place"] ["_law_script"] (AH Uq):=BH
set_option genInjectivity false in
structure Ad where
 HQ:Addr
 Iq:FuncData
 Az:Addr
 BB:FuncData
 Dv:Addr
 FC:FuncData
 Dw:Addr
 FD:FuncData
 FR:Addr
 GF:FuncData
 CK:Addr
 DM:FuncData
 FT:Addr
 GG:FuncData
 CL:Addr
 DN:FuncData
 Bt:Addr
 CW:FuncData
 FO:Addr
 GB:FuncData
 C3:Addr
 EG:FuncData
 Au:Addr
 BR:FuncData
 Cb:Addr
 Dd:FuncData
 Hw:Addr
 JT:FuncData
 Cy:Addr
 EC:FuncData
 HR:Addr
 Ir:FuncData
 JY:Addr
 K8:FuncData
 C4:Addr
 EH:FuncData
 FK:Addr
 GO:FuncData
 JZ:Addr
 K9:FuncData
 JX:Addr
 K7:FuncData
 DQ:Addr
 Eo:FuncData
 FL:Addr
 GP:FuncData
 GH:Addr
 HN:FuncData
 HV:Addr
 Iw:FuncData
 HU:Addr
 Iv:FuncData
 HS:Addr
 Iu:FuncData
 FN:Addr
 GQ:FuncData
 As:Addr
 BQ:FuncData
 ET:Addr
 Fp:FuncData
 CY:Addr
 DZ:FuncData
 DR:Addr
 Ep:FuncData
 BZ:Addr
 B0:FuncData
 Aw:Addr
 Bd:FuncData
 Dz:Addr
 FH:FuncData
 EN:Addr
 Fl:FuncData
 EO:Addr
 Fm:FuncData
 C7:Addr
 EK:FuncData
 Ax:Addr
 Be:FuncData
 ES:Addr
 Fo:FuncData
 ER:Addr
 Fn:FuncData
 FJ:Addr
 GA:FuncData
 Du:Addr
 FA:FuncData
 C5:Addr
 EI:FuncData
 Ay:Addr
 Bf:FuncData
 EU:Addr
 Fq:FuncData
 B4:Addr
 Cv:FuncData
 CZ:Addr
 Dc:FuncData
 Dx:Addr
 FE:FuncData
 CJ:Addr
 DL:FuncData
 Bs:Addr
 CV:FuncData
 FP:Addr
 GC:FuncData
 GX:Addr
 HP:FuncData
 CI:Addr
 DK:FuncData
 C6:Addr
 EJ:FuncData
 Dy:Addr
 FG:FuncData
 FQ:Addr
 GD:FuncData
 Dt:Addr
 E9:FuncData
 Ds:Addr
 E8:FuncData
 C0:Addr
 EE:FuncData
 Dr:Addr
 E7:FuncData
 C1:Addr
 EF:FuncData
 Dk:Addr
 E2:FuncData
 Dq:Addr
 E6:FuncData
 Hu:Addr
 JR:FuncData
 Hv:Addr
 JS:FuncData
 Dj:Addr
 Ez:FuncData
 Dl:Addr
 E3:FuncData
 BC:Addr
 BP:FuncData
 Dp:Addr
 E5:FuncData
 FI:Addr
 F9:FuncData
 Dm:Addr
 E4:FuncData
 Ht:Addr
 JQ:FuncData
 Cz:Addr
 ED:FuncData
 GV:Addr
 HK:FuncData
 GW:Addr
 HM:FuncData
 Np:Addr
 Ng:FuncData
 A0:Addr
 BY:Addr
 BX:Addr
 Cw:Addr
 DO:Addr
 DP:Addr
 AK:Addr
 Am:Addr
 Ai:Addr
 Ar:Addr
 BA:Addr
 Ag:Addr
 EA:Addr
 Ey:Addr
structure Tx (K:W.Frag) (mg:Str→Option Value) (ad:Ad):Prop where
 JB:Fun K "_wall" "_wall" P6 ad.HQ ad.Iq
 aU:Binds K ad.Iq ["k"] []
 aA:mg "_wall" = some (.ref ad.HQ)
 BG:Fun K "__init__" "BadKeep.__init__" De ad.Az ad.BB
 CH:Binds K ad.BB ["self", "place"] []
 CP:Fun K "is_whole" "is_whole" J4 ad.Dv ad.FC
 KL:Binds K ad.FC ["thing"] []
 KH:mg "is_whole" = some (.ref ad.Dv)
 DD:Fun K "is_among" "is_among" J5 ad.Dw ad.FD
 Nl:Binds K ad.FD ["thing", "least", "most"] []
 NR:mg "is_among" = some (.ref ad.Dw)
 EW:Fun K "is_time" "is_time" LV ad.FR ad.GF
 Oh:Binds K ad.GF ["thing"] []
 ON:mg "is_time" = some (.ref ad.FR)
 Bm:Fun K "is_made_of" "is_made_of" F5 ad.CK ad.DM
 LF:Binds K ad.DM ["text", "signs"] []
 Kw:mg "is_made_of" = some (.ref ad.CK)
 EX:Fun K "is_name" "is_name" LW ad.FT ad.GG
 Oi:Binds K ad.GG ["thing"] []
 OO:mg "is_name" = some (.ref ad.FT)
 CQ:Fun K "figures_of" "figures_of" Hd ad.CL ad.DN
 Pl:Binds K ad.DN ["number"] []
 PR:mg "figures_of" = some (.ref ad.CL)
 Bv:Fun K "number_text" "number_text" Gv ad.Bt ad.CW
 N8:Binds K ad.CW ["number"] []
 Ny:mg "number_text" = some (.ref ad.Bt)
 Cc:Fun K "line_of" "line_of" JI ad.FO ad.GB
 JW:Binds K ad.GB ["parts"] []
 JN:mg "line_of" = some (.ref ad.FO)
 DB:Fun K "number_of" "number_of" IT ad.C3 ad.EG
 Q0:Binds K ad.EG ["word"] []
 Qd:mg "number_of" = some (.ref ad.C3)
 BF:Fun K "__init__" "Clock.__init__" Ew ad.Au ad.BR
 Lq:Binds K ad.BR ["self", "slack"] []
 Cf:Fun K "admit" "Clock.admit" Ji ad.Cb ad.Dd
 WG:Binds K ad.Dd ["self", "time"] []
 IC:Fun K "ahead" "ahead" O0 ad.Hw ad.JT
 Xb:Binds K ad.JT ["rows", "mark"] []
 XJ:mg "ahead" = some (.ref ad.Hw)
 B7:Fun K "with_keys" "with_keys" Gj ad.Cy ad.EC
 MX:Binds K ad.EC ["rows"] []
 MQ:mg "with_keys" = some (.ref ad.Cy)
 JC:Fun K "starts" "starts" P7 ad.HR ad.Ir
 aV:Binds K ad.Ir ["time", "size", "step"] []
 aB:mg "starts" = some (.ref ad.HR)
 LL:Fun K "meets" "meets" SX ad.JY ad.K8
 bF:Binds K ad.K8 ["start", "end", "time", "most"] []
 bC:mg "meets" = some (.ref ad.JY)
 DC:Fun K "is_teller" "is_teller" IU ad.C4 ad.EH
 Q2:Binds K ad.EH ["step"] []
 Qe:mg "is_teller" = some (.ref ad.C4)
 Gb:Fun K "tally_of" "tally_of" M9 ad.FK ad.GO
 Y8:Binds K ad.GO ["amount"] []
 Yo:mg "tally_of" = some (.ref ad.FK)
 LM:Fun K "added" "added" SY ad.JZ ad.K9
 bG:Binds K ad.K9 ["one", "other"] []
 bD:mg "added" = some (.ref ad.JZ)
 LK:Fun K "value" "value" SW ad.JX ad.K7
 bE:Binds K ad.K7 ["sort", "tally"] []
 bB:mg "value" = some (.ref ad.JX)
 Es:Fun K "put_window" "put_window" Kj ad.DQ ad.Eo
 Xa:Binds K ad.Eo ["pieces", "start", "end", "tally"] []
 XI:mg "put_window" = some (.ref ad.DQ)
 Gd:Fun K "put_each" "put_each" NA ad.FL ad.GP
 Y9:Binds K ad.GP ["pieces", "time", "amount", "size", "step"] []
 Yp:mg "put_each" = some (.ref ad.FL)
 HW:Fun K "put_gap" "put_gap" OI ad.GH ad.HN
 ZI:Binds K ad.HN ["pieces", "time", "amount", "most"] []
 ZF:mg "put_gap" = some (.ref ad.GH)
 JF:Fun K "parted" "parted" QA ad.HV ad.Iw
 aY:Binds K ad.Iw ["pieces", "now"] []
 aE:mg "parted" = some (.ref ad.HV)
 JE:Fun K "put_by" "put_by" P9 ad.HU ad.Iv
 aX:Binds K ad.Iv ["step", "pieces", "item"] []
 aD:mg "put_by" = some (.ref ad.HU)
 JD:Fun K "row_of" "row_of" P8 ad.HS ad.Iu
 aW:Binds K ad.Iu ["step", "key", "piece"] []
 aC:mg "row_of" = some (.ref ad.HS)
 Gf:Fun K "order_of" "order_of" NC ad.FN ad.GQ
 ZA:Binds K ad.GQ ["row"] []
 Yq:mg "order_of" = some (.ref ad.FN)
 BE:Fun K "__init__" "Group.__init__" Eu ad.As ad.BQ
 Lp:Binds K ad.BQ ["self", "step"] []
 Ec:Fun K "put" "Group.put" MJ ad.ET ad.Fp
 X6:Binds K ad.Fp ["self", "item"] []
 Cd:Fun K "close" "Group.close" Jg ad.CY ad.DZ
 WD:Binds K ad.DZ ["self", "now"] []
 DS:Fun K "take" "Group.take" Kk ad.DR ad.Ep
 Xc:Binds K ad.Ep ["self", "key", "now"] []
 Ba:Fun K "pieces" "Group.pieces" GK ad.BZ ad.B0
 Nn:Binds K ad.B0 ["self"] []
 BK:Fun K "__init__" "Side.__init__" Fs ad.Aw ad.Bd
 IG:Binds K ad.Bd ["self"] []
 D9:Fun K "put" "Side.put" KA ad.Dz ad.FH
 R7:Binds K ad.FH ["self", "item"] []
 EY:Fun K "near" "Side.near" MF ad.EN ad.Fl
 X2:Binds K ad.Fl ["self", "key", "low", "high"] []
 EZ:Fun K "drop" "Side.drop" MG ad.EO ad.Fm
 X3:Binds K ad.Fm ["self", "least"] []
 DG:Fun K "kept" "Side.kept" IW ad.C7 ad.EK
 Q4:Binds K ad.EK ["self"] []
 BL:Fun K "__init__" "Join.__init__" Ft ad.Ax ad.Be
 Me:Binds K ad.Be ["self", "within"] []
 Eb:Fun K "come" "Join.come" MI ad.ES ad.Fo
 X5:Binds K ad.Fo ["self", "side", "item"] []
 Ea:Fun K "drop" "Join.drop" MH ad.ER ad.Fn
 X4:Binds K ad.Fn ["self", "now"] []
 FV:Fun K "tellers" "tellers" JH ad.FJ ad.GA
 UK:Binds K ad.GA ["plan"] []
 T2:mg "tellers" = some (.ref ad.FJ)
 D8:Fun K "joins_of" "joins_of" J0 ad.Du ad.FA
 R5:Binds K ad.FA ["plan"] []
 Rl:mg "joins_of" = some (.ref ad.Du)
 DE:Fun K "groups_of" "groups_of" IV ad.C5 ad.EI
 Q3:Binds K ad.EI ["plan"] []
 Qf:mg "groups_of" = some (.ref ad.C5)
 BM:Fun K "__init__" "Flow.__init__" Fu ad.Ay ad.Bf
 Mf:Binds K ad.Bf ["self", "plan", "slack"] []
 Ed:Fun K "come" "Flow.come" MK ad.EU ad.Fq
 X7:Binds K ad.Fq ["self", "event"] []
 B5:Fun K "told_by" "Flow.told_by" IZ ad.B4 ad.Cv
 V6:Binds K ad.Cv ["self", "now"] []
 Ce:Fun K "finish" "Flow.finish" Jh ad.CZ ad.Dc
 WE:Binds K ad.Dc ["self"] []
 DF:Fun K "end_line" "end_line" J7 ad.Dx ad.FE
 Nm:Binds K ad.FE ["many"] []
 NT:mg "end_line" = some (.ref ad.Dx)
 CO:Fun K "item_lines" "item_lines" F4 ad.CJ ad.DL
 Pk:Binds K ad.DL ["joins"] []
 PN:mg "item_lines" = some (.ref ad.CJ)
 Bu:Fun K "piece_lines" "piece_lines" FY ad.Bs ad.CV
 N7:Binds K ad.CV ["groups"] []
 Nx:mg "piece_lines" = some (.ref ad.Bs)
 FW:Fun K "keep_of" "keep_of" LR ad.FP ad.GC
 UL:Binds K ad.GC ["first", "joins", "groups"] []
 T3:mg "keep_of" = some (.ref ad.FP)
 Ge:Fun K "packed" "packed" NB ad.GX ad.HP
 V5:Binds K ad.HP ["flow"] []
 Vb:mg "packed" = some (.ref ad.GX)
 BO:Fun K "numbers_of" "numbers_of" F3 ad.CI ad.DK
 Hs:Binds K ad.DK ["words"] []
 Hj:mg "numbers_of" = some (.ref ad.CI)
 B8:Fun K "are_whole" "are_whole" Gm ad.C6 ad.EJ
 MY:Binds K ad.EJ ["numbers"] []
 MR:mg "are_whole" = some (.ref ad.C6)
 CS:Fun K "clock_of" "clock_of" J9 ad.Dy ad.FG
 R6:Binds K ad.FG ["line"] []
 Rm:mg "clock_of" = some (.ref ad.Dy)
 FX:Fun K "item_of" "item_of" LU ad.FQ ad.GD
 UM:Binds K ad.GD ["words", "joins"] []
 T4:mg "item_of" = some (.ref ad.FQ)
 D7:Fun K "piece_of" "piece_of" Jz ad.Dt ad.E9
 R4:Binds K ad.E9 ["words", "groups"] []
 Rk:mg "piece_of" = some (.ref ad.Dt)
 CN:Fun K "put_item" "put_item" Jy ad.Ds ad.E8
 R3:Binds K ad.E8 ["joins", "item"] []
 Rj:mg "put_item" = some (.ref ad.Ds)
 Bl:Fun K "put_piece" "put_piece" IQ ad.C0 ad.EE
 Qy:Binds K ad.EE ["groups", "piece"] []
 Qb:mg "put_piece" = some (.ref ad.C0)
 D6:Fun K "put_line" "put_line" Jx ad.Dr ad.E7
 Rz:Binds K ad.E7 ["line", "joins", "groups", "last"] []
 Ri:mg "put_line" = some (.ref ad.Dr)
 DA:Fun K "put_lines" "put_lines" IS ad.C1 ad.EF
 Qz:Binds K ad.EF ["lines", "joins", "groups"] []
 Qc:mg "put_lines" = some (.ref ad.C1)
 D2:Fun K "unpacked" "unpacked" Js ad.Dk ad.E2
 Rv:Binds K ad.E2 ["plan", "slack", "lines"] []
 Rc:mg "unpacked" = some (.ref ad.Dk)
 C9:Fun K "_law_cell_at" "_law_cell_at" Jw ad.Dq ad.E6
 Nk:Binds K ad.E6 ["_law_script", "_law_k"] []
 NQ:mg "_law_cell_at" = some (.ref ad.Dq)
 IA:Fun K "_law_plan" "_law_plan" Oy ad.Hu ad.JR
 XY:Binds K ad.JR [] []
 XG:mg "_law_plan" = some (.ref ad.Hu)
 IB:Fun K "_law_good" "_law_good" Oz ad.Hv ad.JS
 XZ:Binds K ad.JS ["_law_script"] []
 XH:mg "_law_good" = some (.ref ad.Hv)
 D1:Fun K "_law_word_by" "_law_word_by" Jr ad.Dj ad.Ez
 Ru:Binds K ad.Ez ["_law_cell"] []
 Rb:mg "_law_word_by" = some (.ref ad.Dj)
 D3:Fun K "_law_line_by" "_law_line_by" Jt ad.Dl ad.E3
 Rw:Binds K ad.E3 ["_law_cell"] []
 Rf:mg "_law_line_by" = some (.ref ad.Dl)
 BD:Fun K "_law_words_changed" "_law_words_changed" Et ad.BC ad.BP
 Lo:Binds K ad.BP ["_law_line", "_law_cell"] []
 Lb:mg "_law_words_changed" = some (.ref ad.BC)
 D5:Fun K "_law_changed" "_law_changed" Jv ad.Dp ad.E5
 Ry:Binds K ad.E5 ["_law_lines", "_law_cell"] []
 Rh:mg "_law_changed" = some (.ref ad.Dp)
 EV:Fun K "_law_number" "_law_number" LQ ad.FI ad.F9
 Og:Binds K ad.F9 ["_law_word"] []
 OM:mg "_law_number" = some (.ref ad.FI)
 D4:Fun K "_law_is_name" "_law_is_name" Ju ad.Dm ad.E4
 Rx:Binds K ad.E4 ["_law_word"] []
 Rg:mg "_law_is_name" = some (.ref ad.Dm)
 Hz:Fun K "_law_rank" "_law_rank" Ki ad.Ht ad.JQ
 XX:Binds K ad.JQ ["_law_line"] []
 XF:mg "_law_rank" = some (.ref ad.Ht)
 C8:Fun K "_law_is_clock" "_law_is_clock" Gk ad.Cz ad.ED
 Qx:Binds K ad.ED ["_law_line"] []
 Qa:mg "_law_is_clock" = some (.ref ad.Cz)
 GZ:Fun K "_law_wrong" "_law_wrong" M7 ad.GV ad.HK
 V3:Binds K ad.HK ["_law_lines"] []
 VZ:mg "_law_wrong" = some (.ref ad.GV)
 Ga:Fun K "_law_alone" "_law_alone" M8 ad.GW ad.HM
 V4:Binds K ad.HM ["_law_e"] []
 Va:mg "_law_alone" = some (.ref ad.GW)
 Nu:Fun K "law" "law" Uq ad.Np ad.Ng
 cK:Binds K ad.Ng ["_law_script"] []
 aF:mg "law" = some (.ref ad.Np)
 PM:mg "FlowError" = some (.ref ad.A0)
 Fe:W.excIn K ad.A0 [.type "ValueError", .type "Exception", .type "BaseException", .type "object"] "ValueError.__new__" = true
 QZ:mg "BadEvent" = some (.ref ad.BY)
 HZ:W.excIn K ad.BY [.type "ValueError", .type "Exception", .type "BaseException", .type "object"] "ValueError.__new__" = true
 QY:mg "BadSlack" = some (.ref ad.BX)
 HY:W.excIn K ad.BX [.type "ValueError", .type "Exception", .type "BaseException", .type "object"] "ValueError.__new__" = true
 T1:mg "Broken" = some (.ref ad.Cw)
 KO:W.excIn K ad.Cw [.type "ValueError", .type "Exception", .type "BaseException", .type "object"] "ValueError.__new__" = true
 RX:mg "BadStep" = some (.ref ad.DO)
 RY:mg "BadLine" = some (.ref ad.DP)
 GL:mg "BadKeep" = some (.ref ad.AK)
 VX:mg "Clock" = some (.ref ad.Am)
 GR:Cls K ad.Am
 DY:CM K ad.Am "slack"
 Ct:CM K ad.Am "now"
 Br:CM K ad.Am "count"
 Su:Meth K ad.Am "__init__" ad.Au
 VV:Meth K ad.Am "admit" ad.Cb
 VR:Mk K ad.Am ad.Au
 VW:mg "Group" = some (.ref ad.Ai)
 Iz:Cls K ad.Ai
 Ej:CM K ad.Ai "step"
 CC:CM K ad.Ai "rows"
 Ss:Meth K ad.Ai "__init__" ad.As
 XB:Meth K ad.Ai "put" ad.ET
 VT:Meth K ad.Ai "close" ad.CY
 WC:Meth K ad.Ai "take" ad.DR
 Mb:Meth K ad.Ai "pieces" ad.BZ
 VQ:Mk K ad.Ai ad.As
 Sv:mg "Side" = some (.ref ad.Ar)
 JV:Cls K ad.Ar
 B6:CM K ad.Ar "rows"
 Tv:Meth K ad.Ar "__init__" ad.Aw
 QX:Meth K ad.Ar "put" ad.Dz
 W7:Meth K ad.Ar "near" ad.EN
 W8:Meth K ad.Ar "drop" ad.EO
 PL:Meth K ad.Ar "kept" ad.C7
 Sr:Mk K ad.Ar ad.Aw
 XD:mg "Join" = some (.ref ad.BA)
 Mr:Cls K ad.BA
 DX:CM K ad.BA "within"
 CB:CM K ad.BA "sides"
 Tw:Meth K ad.BA "__init__" ad.Ax
 XA:Meth K ad.BA "come" ad.ES
 W9:Meth K ad.BA "drop" ad.ER
 W5:Mk K ad.BA ad.Ax
 XE:mg "Flow" = some (.ref ad.Ag)
 Cm:Cls K ad.Ag
 Fh:CM K ad.Ag "plan"
 Bh:CM K ad.Ag "clock"
 CD:CM K ad.Ag "joins"
 Bq:CM K ad.Ag "groups"
 Bp:CM K ad.Ag "number"
 Tz:Meth K ad.Ag "__init__" ad.Ay
 XC:Meth K ad.Ag "come" ad.EU
 UP:Meth K ad.Ag "told_by" ad.B4
 VU:Meth K ad.Ag "finish" ad.CZ
 W6:Mk K ad.Ag ad.Ay
 GJ:ExP K ad.AK ad.A0 ad.Az "place"
 Hn:ExI K ad.AK
 BI:W.kitOne K (.ref ad.AK) (.type "ValueError")=some true
 BN:W.kitOne K (.ref ad.AK) (.ref ad.A0)=some true
 Bw:W.exmOne K (.ref ad.AK) (.ref ad.A0)=some true
 BW:W.kitOne K (.ref ad.AK) (.ref ad.BY)=some false
 BV:W.kitOne K (.ref ad.AK) (.ref ad.BX)=some false
 Bz:W.kitOne K (.ref ad.AK) (.ref ad.Cw)=some false
 Bi:W.kitOne K (.ref ad.AK) (.ref ad.DO)=some false
 Bj:W.kitOne K (.ref ad.AK) (.ref ad.DP)=some false
 Ck:W.kitOne K (.ref ad.AK) (.ref ad.AK)=some true
 Bk:W.exmOne K (.ref ad.AK) (.ref ad.AK)=some true
 HG:∃t,mg "LETTERS" = some (.str "abcdefghijklmnopqrstuvwxyz" t)
 HH:∃t,mg "FIGURES" = some (.str "0123456789" t)
 Cu:∃t,mg "MOST_LETTERS" = some (.int 12 t)
 Em:∃t,mg "MOST_SIGNS" = some (.int 60 t)
 Fi:∃t,mg "MOST_TIME" = some (.int 1000000000 t)
 El:∃t,mg "MOST_SLACK" = some (.int 1000000000 t)
 HF:mg "TELLERS" = some (.ref ad.EA)
 Tb:∀H,SqT K H ad.EA [.str "each", .str "gap"]
 ZG:∃o,K.lookup ad.EA=some o/\o.cls=.type "tuple" /\ o.dict=none
 JP:mg "TALLIES" = some (.ref ad.Ey)
 ZE:∀H,SqT K H ad.Ey [.str "count", .str "sum", .str "least", .str "greatest"]
 ZH:∃o,K.lookup ad.Ey=some o/\o.cls=.type "tuple" /\ o.dict=none
 Eg:mg "ValueError" = none
 OA:mg "all" = none
 LN:mg "bool" = none
 Cq:mg "enumerate" = none
 Lr:mg "int" = none
 Al:mg "isinstance" = none
 BS:mg "len" = none
 Jq:mg "list" = none
 SG:mg "max" = none
 Pt:mg "min" = none
 Fz:mg "range" = none
 GI:mg "reversed" = none
 Ef:mg "sorted" = none
 Cp:mg "str" = none
 HX:mg "tuple" = none
theorem us1 {α:Type}{us:List α}(h:us.length=1):∃a0,us=[a0]:=by match us,h with|[a0],_=>exact ⟨a0,rfl⟩
theorem us2 {α:Type}{us:List α}(h:us.length=2):∃a0 a1,us=[a0,a1]:=by match us,h with|[a0,a1],_=>exact ⟨a0,a1,rfl⟩
theorem us3 {α:Type}{us:List α}(h:us.length=3):∃a0 a1 a2,us=[a0,a1,a2]:=by match us,h with|[a0,a1,a2],_=>exact ⟨a0,a1,a2,rfl⟩
theorem us4 {α:Type}{us:List α}(h:us.length=4):∃a0 a1 a2 a3,us=[a0,a1,a2,a3]:=by match us,h with|[a0,a1,a2,a3],_=>exact ⟨a0,a1,a2,a3,rfl⟩
theorem us5 {α:Type}{us:List α}(h:us.length=5):∃a0 a1 a2 a3 a4,us=[a0,a1,a2,a3,a4]:=by match us,h with|[a0,a1,a2,a3,a4],_=>exact ⟨a0,a1,a2,a3,a4,rfl⟩
theorem ZJ {K:W.Frag}{h:Heap}{mg:Str→Option Value}(X:K.In h) (G:h.Ns mainGlobals mg)
  {f_u_wall:Addr} {Iq:FuncData}
  {AK:Addr}
  {f_BadKeep___init__:Addr} {BB:FuncData}
  {f_is_whole:Addr} {FC:FuncData}
  {f_is_among:Addr} {FD:FuncData}
  {f_is_time:Addr} {GF:FuncData}
  {f_is_made_of:Addr} {DM:FuncData}
  {f_is_name:Addr} {GG:FuncData}
  {f_figures_of:Addr} {DN:FuncData}
  {f_number_text:Addr} {CW:FuncData}
  {f_line_of:Addr} {GB:FuncData}
  {f_number_of:Addr} {EG:FuncData}
  {Am:Addr}
  {f_Clock___init__:Addr} {BR:FuncData}
  {f_Clock_admit:Addr} {Dd:FuncData}
  {f_ahead:Addr} {JT:FuncData}
  {f_with_keys:Addr} {EC:FuncData}
  {f_starts:Addr} {Ir:FuncData}
  {f_meets:Addr} {K8:FuncData}
  {f_is_teller:Addr} {EH:FuncData}
  {f_tally_of:Addr} {GO:FuncData}
  {f_added:Addr} {K9:FuncData}
  {f_value:Addr} {K7:FuncData}
  {f_put_window:Addr} {Eo:FuncData}
  {f_put_each:Addr} {GP:FuncData}
  {f_put_gap:Addr} {HN:FuncData}
  {f_parted:Addr} {Iw:FuncData}
  {f_put_by:Addr} {Iv:FuncData}
  {f_row_of:Addr} {Iu:FuncData}
  {f_order_of:Addr} {GQ:FuncData}
  {Ai:Addr}
  {f_Group___init__:Addr} {BQ:FuncData}
  {f_Group_put:Addr} {Fp:FuncData}
  {f_Group_close:Addr} {DZ:FuncData}
  {f_Group_take:Addr} {Ep:FuncData}
  {f_Group_pieces:Addr} {B0:FuncData}
  {Ar:Addr}
  {f_Side___init__:Addr} {Bd:FuncData}
  {f_Side_put:Addr} {FH:FuncData}
  {f_Side_near:Addr} {Fl:FuncData}
  {f_Side_drop:Addr} {Fm:FuncData}
  {f_Side_kept:Addr} {EK:FuncData}
  {BA:Addr}
  {f_Join___init__:Addr} {Be:FuncData}
  {f_Join_come:Addr} {Fo:FuncData}
  {f_Join_drop:Addr} {Fn:FuncData}
  {f_tellers:Addr} {GA:FuncData}
  {f_joins_of:Addr} {FA:FuncData}
  {f_groups_of:Addr} {EI:FuncData}
  {Ag:Addr}
  {f_Flow___init__:Addr} {Bf:FuncData}
  {f_Flow_come:Addr} {Fq:FuncData}
  {f_Flow_told_by:Addr} {Cv:FuncData}
  {f_Flow_finish:Addr} {Dc:FuncData}
  {f_end_line:Addr} {FE:FuncData}
  {f_item_lines:Addr} {DL:FuncData}
  {f_piece_lines:Addr} {CV:FuncData}
  {f_keep_of:Addr} {GC:FuncData}
  {f_packed:Addr} {HP:FuncData}
  {f_numbers_of:Addr} {DK:FuncData}
  {f_are_whole:Addr} {EJ:FuncData}
  {f_clock_of:Addr} {FG:FuncData}
  {f_item_of:Addr} {GD:FuncData}
  {f_piece_of:Addr} {E9:FuncData}
  {f_put_item:Addr} {E8:FuncData}
  {f_put_piece:Addr} {EE:FuncData}
  {f_put_line:Addr} {E7:FuncData}
  {f_put_lines:Addr} {EF:FuncData}
  {f_unpacked:Addr} {E2:FuncData}
  {f_ucell_at:Addr} {E6:FuncData}
  {f_uplan:Addr} {JR:FuncData}
  {f_ugood:Addr} {JS:FuncData}
  {f_uword_by:Addr} {Ez:FuncData}
  {f_uline_by:Addr} {E3:FuncData}
  {f_uwords_changed:Addr} {BP:FuncData}
  {f_uchanged:Addr} {E5:FuncData}
  {f_unumber:Addr} {F9:FuncData}
  {f_uis_name:Addr} {E4:FuncData}
  {f_urank:Addr} {JQ:FuncData}
  {f_uis_clock:Addr} {ED:FuncData}
  {f_uwrong:Addr} {HK:FuncData}
  {f_ualone:Addr} {HM:FuncData}
  {f_law:Addr} {Ng:FuncData}
  {A0:Addr}
  {BY:Addr}
  {BX:Addr}
  {Cw:Addr}
  {DO:Addr}
  {DP:Addr}
  {cd_BadKeep:ClassData}
  {nm_BadKeep q_BadKeep:Str} {NS_BadKeep:Addr} {bs_BadKeep:List Value} {hdct_BadKeep:Bool} {sn_BadKeep:List Str} {sub_BadKeep:List Value} {ab_BadKeep:Bool} {col_BadKeep:Option Bool} {dd_BadKeep:Option Addr} {k0_BadKeep k1_BadKeep k2_BadKeep k3_BadKeep k5_BadKeep:Option Value}
  {t_LETTERS:Tok}
  {t_FIGURES:Tok}
  {t_MOST_LETTERS:Tok}
  {t_MOST_SIGNS:Tok}
  {t_MOST_TIME:Tok}
  {t_MOST_SLACK:Tok}
  {EA:Addr}
  {t0_TELLERS t1_TELLERS:Tok}
  {n_TELLERS:Nat} {sl_TELLERS:Array (Option Value)}
  {Ey:Addr}
  {t0_TALLIES t1_TALLIES t2_TALLIES t3_TALLIES:Tok}
  {n_TALLIES:Nat} {sl_TALLIES:Array (Option Value)}
  (HQ:W.nsIn K mainGlobals "_wall" = some (some (.ref f_u_wall)))
  (JB:Fun K "_wall" "_wall" P6 f_u_wall Iq)
  (a_BadKeep:W.nsIn K mainGlobals "BadKeep" = some (some (.ref AK)))
  (Az:W.findIn K (.ref AK) "__init__" = some (some (.ref f_BadKeep___init__)))
  (BG:Fun K "__init__" "BadKeep.__init__" De f_BadKeep___init__ BB)
  (Dv:W.nsIn K mainGlobals "is_whole" = some (some (.ref f_is_whole)))
  (CP:Fun K "is_whole" "is_whole" J4 f_is_whole FC)
  (Dw:W.nsIn K mainGlobals "is_among" = some (some (.ref f_is_among)))
  (DD:Fun K "is_among" "is_among" J5 f_is_among FD)
  (FR:W.nsIn K mainGlobals "is_time" = some (some (.ref f_is_time)))
  (EW:Fun K "is_time" "is_time" LV f_is_time GF)
  (CK:W.nsIn K mainGlobals "is_made_of" = some (some (.ref f_is_made_of)))
  (Bm:Fun K "is_made_of" "is_made_of" F5 f_is_made_of DM)
  (FT:W.nsIn K mainGlobals "is_name" = some (some (.ref f_is_name)))
  (EX:Fun K "is_name" "is_name" LW f_is_name GG)
  (CL:W.nsIn K mainGlobals "figures_of" = some (some (.ref f_figures_of)))
  (CQ:Fun K "figures_of" "figures_of" Hd f_figures_of DN)
  (Bt:W.nsIn K mainGlobals "number_text" = some (some (.ref f_number_text)))
  (Bv:Fun K "number_text" "number_text" Gv f_number_text CW)
  (FO:W.nsIn K mainGlobals "line_of" = some (some (.ref f_line_of)))
  (Cc:Fun K "line_of" "line_of" JI f_line_of GB)
  (C3:W.nsIn K mainGlobals "number_of" = some (some (.ref f_number_of)))
  (DB:Fun K "number_of" "number_of" IT f_number_of EG)
  (a_Clock:W.nsIn K mainGlobals "Clock" = some (some (.ref Am)))
  (Au:W.findIn K (.ref Am) "__init__" = some (some (.ref f_Clock___init__)))
  (BF:Fun K "__init__" "Clock.__init__" Ew f_Clock___init__ BR)
  (Cb:W.findIn K (.ref Am) "admit" = some (some (.ref f_Clock_admit)))
  (Cf:Fun K "admit" "Clock.admit" Ji f_Clock_admit Dd)
  (Hw:W.nsIn K mainGlobals "ahead" = some (some (.ref f_ahead)))
  (IC:Fun K "ahead" "ahead" O0 f_ahead JT)
  (Cy:W.nsIn K mainGlobals "with_keys" = some (some (.ref f_with_keys)))
  (B7:Fun K "with_keys" "with_keys" Gj f_with_keys EC)
  (HR:W.nsIn K mainGlobals "starts" = some (some (.ref f_starts)))
  (JC:Fun K "starts" "starts" P7 f_starts Ir)
  (JY:W.nsIn K mainGlobals "meets" = some (some (.ref f_meets)))
  (LL:Fun K "meets" "meets" SX f_meets K8)
  (C4:W.nsIn K mainGlobals "is_teller" = some (some (.ref f_is_teller)))
  (DC:Fun K "is_teller" "is_teller" IU f_is_teller EH)
  (FK:W.nsIn K mainGlobals "tally_of" = some (some (.ref f_tally_of)))
  (Gb:Fun K "tally_of" "tally_of" M9 f_tally_of GO)
  (JZ:W.nsIn K mainGlobals "added" = some (some (.ref f_added)))
  (LM:Fun K "added" "added" SY f_added K9)
  (JX:W.nsIn K mainGlobals "value" = some (some (.ref f_value)))
  (LK:Fun K "value" "value" SW f_value K7)
  (DQ:W.nsIn K mainGlobals "put_window" = some (some (.ref f_put_window)))
  (Es:Fun K "put_window" "put_window" Kj f_put_window Eo)
  (FL:W.nsIn K mainGlobals "put_each" = some (some (.ref f_put_each)))
  (Gd:Fun K "put_each" "put_each" NA f_put_each GP)
  (GH:W.nsIn K mainGlobals "put_gap" = some (some (.ref f_put_gap)))
  (HW:Fun K "put_gap" "put_gap" OI f_put_gap HN)
  (HV:W.nsIn K mainGlobals "parted" = some (some (.ref f_parted)))
  (JF:Fun K "parted" "parted" QA f_parted Iw)
  (HU:W.nsIn K mainGlobals "put_by" = some (some (.ref f_put_by)))
  (JE:Fun K "put_by" "put_by" P9 f_put_by Iv)
  (HS:W.nsIn K mainGlobals "row_of" = some (some (.ref f_row_of)))
  (JD:Fun K "row_of" "row_of" P8 f_row_of Iu)
  (FN:W.nsIn K mainGlobals "order_of" = some (some (.ref f_order_of)))
  (Gf:Fun K "order_of" "order_of" NC f_order_of GQ)
  (a_Group:W.nsIn K mainGlobals "Group" = some (some (.ref Ai)))
  (As:W.findIn K (.ref Ai) "__init__" = some (some (.ref f_Group___init__)))
  (BE:Fun K "__init__" "Group.__init__" Eu f_Group___init__ BQ)
  (ET:W.findIn K (.ref Ai) "put" = some (some (.ref f_Group_put)))
  (Ec:Fun K "put" "Group.put" MJ f_Group_put Fp)
  (CY:W.findIn K (.ref Ai) "close" = some (some (.ref f_Group_close)))
  (Cd:Fun K "close" "Group.close" Jg f_Group_close DZ)
  (DR:W.findIn K (.ref Ai) "take" = some (some (.ref f_Group_take)))
  (DS:Fun K "take" "Group.take" Kk f_Group_take Ep)
  (BZ:W.findIn K (.ref Ai) "pieces" = some (some (.ref f_Group_pieces)))
  (Ba:Fun K "pieces" "Group.pieces" GK f_Group_pieces B0)
  (a_Side:W.nsIn K mainGlobals "Side" = some (some (.ref Ar)))
  (Aw:W.findIn K (.ref Ar) "__init__" = some (some (.ref f_Side___init__)))
  (BK:Fun K "__init__" "Side.__init__" Fs f_Side___init__ Bd)
  (Dz:W.findIn K (.ref Ar) "put" = some (some (.ref f_Side_put)))
  (D9:Fun K "put" "Side.put" KA f_Side_put FH)
  (EN:W.findIn K (.ref Ar) "near" = some (some (.ref f_Side_near)))
  (EY:Fun K "near" "Side.near" MF f_Side_near Fl)
  (EO:W.findIn K (.ref Ar) "drop" = some (some (.ref f_Side_drop)))
  (EZ:Fun K "drop" "Side.drop" MG f_Side_drop Fm)
  (C7:W.findIn K (.ref Ar) "kept" = some (some (.ref f_Side_kept)))
  (DG:Fun K "kept" "Side.kept" IW f_Side_kept EK)
  (a_Join:W.nsIn K mainGlobals "Join" = some (some (.ref BA)))
  (Ax:W.findIn K (.ref BA) "__init__" = some (some (.ref f_Join___init__)))
  (BL:Fun K "__init__" "Join.__init__" Ft f_Join___init__ Be)
  (ES:W.findIn K (.ref BA) "come" = some (some (.ref f_Join_come)))
  (Eb:Fun K "come" "Join.come" MI f_Join_come Fo)
  (ER:W.findIn K (.ref BA) "drop" = some (some (.ref f_Join_drop)))
  (Ea:Fun K "drop" "Join.drop" MH f_Join_drop Fn)
  (FJ:W.nsIn K mainGlobals "tellers" = some (some (.ref f_tellers)))
  (FV:Fun K "tellers" "tellers" JH f_tellers GA)
  (Du:W.nsIn K mainGlobals "joins_of" = some (some (.ref f_joins_of)))
  (D8:Fun K "joins_of" "joins_of" J0 f_joins_of FA)
  (C5:W.nsIn K mainGlobals "groups_of" = some (some (.ref f_groups_of)))
  (DE:Fun K "groups_of" "groups_of" IV f_groups_of EI)
  (a_Flow:W.nsIn K mainGlobals "Flow" = some (some (.ref Ag)))
  (Ay:W.findIn K (.ref Ag) "__init__" = some (some (.ref f_Flow___init__)))
  (BM:Fun K "__init__" "Flow.__init__" Fu f_Flow___init__ Bf)
  (EU:W.findIn K (.ref Ag) "come" = some (some (.ref f_Flow_come)))
  (Ed:Fun K "come" "Flow.come" MK f_Flow_come Fq)
  (B4:W.findIn K (.ref Ag) "told_by" = some (some (.ref f_Flow_told_by)))
  (B5:Fun K "told_by" "Flow.told_by" IZ f_Flow_told_by Cv)
  (CZ:W.findIn K (.ref Ag) "finish" = some (some (.ref f_Flow_finish)))
  (Ce:Fun K "finish" "Flow.finish" Jh f_Flow_finish Dc)
  (Dx:W.nsIn K mainGlobals "end_line" = some (some (.ref f_end_line)))
  (DF:Fun K "end_line" "end_line" J7 f_end_line FE)
  (CJ:W.nsIn K mainGlobals "item_lines" = some (some (.ref f_item_lines)))
  (CO:Fun K "item_lines" "item_lines" F4 f_item_lines DL)
  (Bs:W.nsIn K mainGlobals "piece_lines" = some (some (.ref f_piece_lines)))
  (Bu:Fun K "piece_lines" "piece_lines" FY f_piece_lines CV)
  (FP:W.nsIn K mainGlobals "keep_of" = some (some (.ref f_keep_of)))
  (FW:Fun K "keep_of" "keep_of" LR f_keep_of GC)
  (GX:W.nsIn K mainGlobals "packed" = some (some (.ref f_packed)))
  (Ge:Fun K "packed" "packed" NB f_packed HP)
  (CI:W.nsIn K mainGlobals "numbers_of" = some (some (.ref f_numbers_of)))
  (BO:Fun K "numbers_of" "numbers_of" F3 f_numbers_of DK)
  (C6:W.nsIn K mainGlobals "are_whole" = some (some (.ref f_are_whole)))
  (B8:Fun K "are_whole" "are_whole" Gm f_are_whole EJ)
  (Dy:W.nsIn K mainGlobals "clock_of" = some (some (.ref f_clock_of)))
  (CS:Fun K "clock_of" "clock_of" J9 f_clock_of FG)
  (FQ:W.nsIn K mainGlobals "item_of" = some (some (.ref f_item_of)))
  (FX:Fun K "item_of" "item_of" LU f_item_of GD)
  (Dt:W.nsIn K mainGlobals "piece_of" = some (some (.ref f_piece_of)))
  (D7:Fun K "piece_of" "piece_of" Jz f_piece_of E9)
  (Ds:W.nsIn K mainGlobals "put_item" = some (some (.ref f_put_item)))
  (CN:Fun K "put_item" "put_item" Jy f_put_item E8)
  (C0:W.nsIn K mainGlobals "put_piece" = some (some (.ref f_put_piece)))
  (Bl:Fun K "put_piece" "put_piece" IQ f_put_piece EE)
  (Dr:W.nsIn K mainGlobals "put_line" = some (some (.ref f_put_line)))
  (D6:Fun K "put_line" "put_line" Jx f_put_line E7)
  (C1:W.nsIn K mainGlobals "put_lines" = some (some (.ref f_put_lines)))
  (DA:Fun K "put_lines" "put_lines" IS f_put_lines EF)
  (Dk:W.nsIn K mainGlobals "unpacked" = some (some (.ref f_unpacked)))
  (D2:Fun K "unpacked" "unpacked" Js f_unpacked E2)
  (Dq:W.nsIn K mainGlobals "_law_cell_at" = some (some (.ref f_ucell_at)))
  (C9:Fun K "_law_cell_at" "_law_cell_at" Jw f_ucell_at E6)
  (Hu:W.nsIn K mainGlobals "_law_plan" = some (some (.ref f_uplan)))
  (IA:Fun K "_law_plan" "_law_plan" Oy f_uplan JR)
  (Hv:W.nsIn K mainGlobals "_law_good" = some (some (.ref f_ugood)))
  (IB:Fun K "_law_good" "_law_good" Oz f_ugood JS)
  (Dj:W.nsIn K mainGlobals "_law_word_by" = some (some (.ref f_uword_by)))
  (D1:Fun K "_law_word_by" "_law_word_by" Jr f_uword_by Ez)
  (Dl:W.nsIn K mainGlobals "_law_line_by" = some (some (.ref f_uline_by)))
  (D3:Fun K "_law_line_by" "_law_line_by" Jt f_uline_by E3)
  (BC:W.nsIn K mainGlobals "_law_words_changed" = some (some (.ref f_uwords_changed)))
  (BD:Fun K "_law_words_changed" "_law_words_changed" Et f_uwords_changed BP)
  (Dp:W.nsIn K mainGlobals "_law_changed" = some (some (.ref f_uchanged)))
  (D5:Fun K "_law_changed" "_law_changed" Jv f_uchanged E5)
  (FI:W.nsIn K mainGlobals "_law_number" = some (some (.ref f_unumber)))
  (EV:Fun K "_law_number" "_law_number" LQ f_unumber F9)
  (Dm:W.nsIn K mainGlobals "_law_is_name" = some (some (.ref f_uis_name)))
  (D4:Fun K "_law_is_name" "_law_is_name" Ju f_uis_name E4)
  (Ht:W.nsIn K mainGlobals "_law_rank" = some (some (.ref f_urank)))
  (Hz:Fun K "_law_rank" "_law_rank" Ki f_urank JQ)
  (Cz:W.nsIn K mainGlobals "_law_is_clock" = some (some (.ref f_uis_clock)))
  (C8:Fun K "_law_is_clock" "_law_is_clock" Gk f_uis_clock ED)
  (GV:W.nsIn K mainGlobals "_law_wrong" = some (some (.ref f_uwrong)))
  (GZ:Fun K "_law_wrong" "_law_wrong" M7 f_uwrong HK)
  (GW:W.nsIn K mainGlobals "_law_alone" = some (some (.ref f_ualone)))
  (Ga:Fun K "_law_alone" "_law_alone" M8 f_ualone HM)
  (Np:W.nsIn K mainGlobals "law" = some (some (.ref f_law)))
  (Nu:Fun K "law" "law" Uq f_law Ng)
  (a_FlowError:W.nsIn K mainGlobals "FlowError" = some (some (.ref A0)))
  (Fe:W.excIn K A0 [.type "ValueError", .type "Exception", .type "BaseException", .type "object"] "ValueError.__new__" = true)
  (a_BadEvent:W.nsIn K mainGlobals "BadEvent" = some (some (.ref BY)))
  (HZ:W.excIn K BY [.type "ValueError", .type "Exception", .type "BaseException", .type "object"] "ValueError.__new__" = true)
  (a_BadSlack:W.nsIn K mainGlobals "BadSlack" = some (some (.ref BX)))
  (HY:W.excIn K BX [.type "ValueError", .type "Exception", .type "BaseException", .type "object"] "ValueError.__new__" = true)
  (a_Broken:W.nsIn K mainGlobals "Broken" = some (some (.ref Cw)))
  (KO:W.excIn K Cw [.type "ValueError", .type "Exception", .type "BaseException", .type "object"] "ValueError.__new__" = true)
  (a_BadStep:W.nsIn K mainGlobals "BadStep" = some (some (.ref DO)))
  (a_BadLine:W.nsIn K mainGlobals "BadLine" = some (some (.ref DP)))
  (pg_Clock:W.plainGet K Am Str.empty=true)
  (hd_Clock:W.hasDictIn K Am=true)
  (po_Clock:W.plainOver K Am=true)
  (sa_Clock:W.findIn K (.ref Am) "__setattr__" = some (some (.builtin "object.__setattr__")))
  (DY:W.findIn K (.ref Am) "slack" = some none)
  (Ct:W.findIn K (.ref Am) "now" = some none)
  (Br:W.findIn K (.ref Am) "count" = some none)
  (fn_Clock___init__:W.isFn K (.ref f_Clock___init__)=true)
  (fn_Clock_admit:W.isFn K (.ref f_Clock_admit)=true)
  (mks_Clock:W.makesIn K Am=true)
  (kp_Clock:W.keepIn K (.ref Am)=true)
  (pg_Group:W.plainGet K Ai Str.empty=true)
  (hd_Group:W.hasDictIn K Ai=true)
  (po_Group:W.plainOver K Ai=true)
  (sa_Group:W.findIn K (.ref Ai) "__setattr__" = some (some (.builtin "object.__setattr__")))
  (Ej:W.findIn K (.ref Ai) "step" = some none)
  (CC:W.findIn K (.ref Ai) "rows" = some none)
  (fn_Group___init__:W.isFn K (.ref f_Group___init__)=true)
  (fn_Group_put:W.isFn K (.ref f_Group_put)=true)
  (fn_Group_close:W.isFn K (.ref f_Group_close)=true)
  (fn_Group_take:W.isFn K (.ref f_Group_take)=true)
  (fn_Group_pieces:W.isFn K (.ref f_Group_pieces)=true)
  (mks_Group:W.makesIn K Ai=true)
  (kp_Group:W.keepIn K (.ref Ai)=true)
  (pg_Side:W.plainGet K Ar Str.empty=true)
  (hd_Side:W.hasDictIn K Ar=true)
  (po_Side:W.plainOver K Ar=true)
  (sa_Side:W.findIn K (.ref Ar) "__setattr__" = some (some (.builtin "object.__setattr__")))
  (B6:W.findIn K (.ref Ar) "rows" = some none)
  (fn_Side___init__:W.isFn K (.ref f_Side___init__)=true)
  (fn_Side_put:W.isFn K (.ref f_Side_put)=true)
  (fn_Side_near:W.isFn K (.ref f_Side_near)=true)
  (fn_Side_drop:W.isFn K (.ref f_Side_drop)=true)
  (fn_Side_kept:W.isFn K (.ref f_Side_kept)=true)
  (mks_Side:W.makesIn K Ar=true)
  (kp_Side:W.keepIn K (.ref Ar)=true)
  (pg_Join:W.plainGet K BA Str.empty=true)
  (hd_Join:W.hasDictIn K BA=true)
  (po_Join:W.plainOver K BA=true)
  (sa_Join:W.findIn K (.ref BA) "__setattr__" = some (some (.builtin "object.__setattr__")))
  (DX:W.findIn K (.ref BA) "within" = some none)
  (CB:W.findIn K (.ref BA) "sides" = some none)
  (fn_Join___init__:W.isFn K (.ref f_Join___init__)=true)
  (fn_Join_come:W.isFn K (.ref f_Join_come)=true)
  (fn_Join_drop:W.isFn K (.ref f_Join_drop)=true)
  (mks_Join:W.makesIn K BA=true)
  (kp_Join:W.keepIn K (.ref BA)=true)
  (pg_Flow:W.plainGet K Ag Str.empty=true)
  (hd_Flow:W.hasDictIn K Ag=true)
  (po_Flow:W.plainOver K Ag=true)
  (sa_Flow:W.findIn K (.ref Ag) "__setattr__" = some (some (.builtin "object.__setattr__")))
  (Fh:W.findIn K (.ref Ag) "plan" = some none)
  (Bh:W.findIn K (.ref Ag) "clock" = some none)
  (CD:W.findIn K (.ref Ag) "joins" = some none)
  (Bq:W.findIn K (.ref Ag) "groups" = some none)
  (Bp:W.findIn K (.ref Ag) "number" = some none)
  (fn_Flow___init__:W.isFn K (.ref f_Flow___init__)=true)
  (fn_Flow_come:W.isFn K (.ref f_Flow_come)=true)
  (fn_Flow_told_by:W.isFn K (.ref f_Flow_told_by)=true)
  (fn_Flow_finish:W.isFn K (.ref f_Flow_finish)=true)
  (mks_Flow:W.makesIn K Ag=true)
  (kp_Flow:W.keepIn K (.ref Ag)=true)
  (ga_BadKeep:W.findIn K (.ref AK) "__getattribute__" = some (some (.builtin "BaseException.__getattribute__")))
  (gt_BadKeep:W.findIn K (.ref AK) "__getattr__" = some none)
  (ck_BadKeep:W.findIn K (.ref AK) "__class__" = some (some (.builtin "object.__class__")))
  (sb_BadKeep:W.subIn K (.ref AK) (.type "BaseException")=some true)
  (so_BadKeep:W.subIn K (.ref AK) (.type "object")=some true)
  (cl_BadKeep:W.clsIn K AK=some cd_BadKeep)
  (lk_BadKeep:K.lookup AK=some (excClassObj nm_BadKeep q_BadKeep AK NS_BadKeep bs_BadKeep (.ref A0::VB) hdct_BadKeep sn_BadKeep sub_BadKeep ab_BadKeep col_BadKeep dd_BadKeep k0_BadKeep k1_BadKeep k2_BadKeep k3_BadKeep k5_BadKeep "ValueError.__new__"))
  (xfn_BadKeep:W.isFn K (.ref f_BadKeep___init__)=true)
  (xhd_BadKeep:W.hasDictIn K AK=true)
  (xna_BadKeep:W.findIn K (.ref AK) "place" = some none)
  (xsa_BadKeep:W.findIn K (.ref AK) "__setattr__" = some (some (.builtin "object.__setattr__")))
  (BI:W.kitOne K (.ref AK) (.type "ValueError")=some true)
  (BN:W.kitOne K (.ref AK) (.ref A0)=some true)
  (Bw:W.exmOne K (.ref AK) (.ref A0)=some true)
  (BW:W.kitOne K (.ref AK) (.ref BY)=some false)
  (BV:W.kitOne K (.ref AK) (.ref BX)=some false)
  (Bz:W.kitOne K (.ref AK) (.ref Cw)=some false)
  (Bi:W.kitOne K (.ref AK) (.ref DO)=some false)
  (Bj:W.kitOne K (.ref AK) (.ref DP)=some false)
  (Ck:W.kitOne K (.ref AK) (.ref AK)=some true)
  (Bk:W.exmOne K (.ref AK) (.ref AK)=some true)
  (HG:W.nsIn K mainGlobals "LETTERS" = some (some (.str "abcdefghijklmnopqrstuvwxyz" t_LETTERS)))
  (HH:W.nsIn K mainGlobals "FIGURES" = some (some (.str "0123456789" t_FIGURES)))
  (Cu:W.nsIn K mainGlobals "MOST_LETTERS" = some (some (.int 12 t_MOST_LETTERS)))
  (Em:W.nsIn K mainGlobals "MOST_SIGNS" = some (some (.int 60 t_MOST_SIGNS)))
  (Fi:W.nsIn K mainGlobals "MOST_TIME" = some (some (.int 1000000000 t_MOST_TIME)))
  (El:W.nsIn K mainGlobals "MOST_SLACK" = some (some (.int 1000000000 t_MOST_SLACK)))
  (HF:W.nsIn K mainGlobals "TELLERS" = some (some (.ref EA)))
  (l_TELLERS:K.lookup EA=some ⟨.type "tuple", none,.seq #[.str "each" t0_TELLERS,.str "gap" t1_TELLERS] n_TELLERS,sl_TELLERS⟩)
  (JP:W.nsIn K mainGlobals "TALLIES" = some (some (.ref Ey)))
  (l_TALLIES:K.lookup Ey=some ⟨.type "tuple", none,.seq #[.str "count" t0_TALLIES,.str "sum" t1_TALLIES,.str "least" t2_TALLIES,.str "greatest" t3_TALLIES] n_TALLIES,sl_TALLIES⟩)
  (Eg:W.nsIn K mainGlobals "ValueError" = some none)
  (OA:W.nsIn K mainGlobals "all" = some none)
  (LN:W.nsIn K mainGlobals "bool" = some none)
  (Cq:W.nsIn K mainGlobals "enumerate" = some none)
  (Lr:W.nsIn K mainGlobals "int" = some none)
  (Al:W.nsIn K mainGlobals "isinstance" = some none)
  (BS:W.nsIn K mainGlobals "len" = some none)
  (Jq:W.nsIn K mainGlobals "list" = some none)
  (SG:W.nsIn K mainGlobals "max" = some none)
  (Pt:W.nsIn K mainGlobals "min" = some none)
  (Fz:W.nsIn K mainGlobals "range" = some none)
  (GI:W.nsIn K mainGlobals "reversed" = some none)
  (Ef:W.nsIn K mainGlobals "sorted" = some none)
  (Cp:W.nsIn K mainGlobals "str" = some none)
  (HX:W.nsIn K mainGlobals "tuple" = some none)
  : Tx K mg (⟨f_u_wall,Iq,f_BadKeep___init__,BB,f_is_whole,FC,f_is_among,FD,f_is_time,GF,f_is_made_of,DM,f_is_name,GG,f_figures_of,DN,f_number_text,CW,f_line_of,GB,f_number_of,EG,f_Clock___init__,BR,f_Clock_admit,Dd,f_ahead,JT,f_with_keys,EC,f_starts,Ir,f_meets,K8,f_is_teller,EH,f_tally_of,GO,f_added,K9,f_value,K7,f_put_window,Eo,f_put_each,GP,f_put_gap,HN,f_parted,Iw,f_put_by,Iv,f_row_of,Iu,f_order_of,GQ,f_Group___init__,BQ,f_Group_put,Fp,f_Group_close,DZ,f_Group_take,Ep,f_Group_pieces,B0,f_Side___init__,Bd,f_Side_put,FH,f_Side_near,Fl,f_Side_drop,Fm,f_Side_kept,EK,f_Join___init__,Be,f_Join_come,Fo,f_Join_drop,Fn,f_tellers,GA,f_joins_of,FA,f_groups_of,EI,f_Flow___init__,Bf,f_Flow_come,Fq,f_Flow_told_by,Cv,f_Flow_finish,Dc,f_end_line,FE,f_item_lines,DL,f_piece_lines,CV,f_keep_of,GC,f_packed,HP,f_numbers_of,DK,f_are_whole,EJ,f_clock_of,FG,f_item_of,GD,f_piece_of,E9,f_put_item,E8,f_put_piece,EE,f_put_line,E7,f_put_lines,EF,f_unpacked,E2,f_ucell_at,E6,f_uplan,JR,f_ugood,JS,f_uword_by,Ez,f_uline_by,E3,f_uwords_changed,BP,f_uchanged,E5,f_unumber,F9,f_uis_name,E4,f_urank,JQ,f_uis_clock,ED,f_uwrong,HK,f_ualone,HM,f_law,Ng,A0,BY,BX,Cw,DO,DP,AK,Am,Ai,Ar,BA,Ag,EA,Ey⟩:Ad) :=
 ⟨JB,
  JB.binds fun _ _ _ _ _ _ us hl=>by obtain ⟨a0,rfl⟩:=us1 hl;rfl,
  W.mg_of X G HQ,
  BG,
  BG.binds fun _ _ _ _ _ _ us hl=>by obtain ⟨a0,a1,rfl⟩:=us2 hl;rfl,
  CP,
  CP.binds fun _ _ _ _ _ _ us hl=>by obtain ⟨a0,rfl⟩:=us1 hl;rfl,
  W.mg_of X G Dv,
  DD,
  DD.binds fun _ _ _ _ _ _ us hl=>by obtain ⟨a0,a1,a2,rfl⟩:=us3 hl;rfl,
  W.mg_of X G Dw,
  EW,
  EW.binds fun _ _ _ _ _ _ us hl=>by obtain ⟨a0,rfl⟩:=us1 hl;rfl,
  W.mg_of X G FR,
  Bm,
  Bm.binds fun _ _ _ _ _ _ us hl=>by obtain ⟨a0,a1,rfl⟩:=us2 hl;rfl,
  W.mg_of X G CK,
  EX,
  EX.binds fun _ _ _ _ _ _ us hl=>by obtain ⟨a0,rfl⟩:=us1 hl;rfl,
  W.mg_of X G FT,
  CQ,
  CQ.binds fun _ _ _ _ _ _ us hl=>by obtain ⟨a0,rfl⟩:=us1 hl;rfl,
  W.mg_of X G CL,
  Bv,
  Bv.binds fun _ _ _ _ _ _ us hl=>by obtain ⟨a0,rfl⟩:=us1 hl;rfl,
  W.mg_of X G Bt,
  Cc,
  Cc.binds fun _ _ _ _ _ _ us hl=>by obtain ⟨a0,rfl⟩:=us1 hl;rfl,
  W.mg_of X G FO,
  DB,
  DB.binds fun _ _ _ _ _ _ us hl=>by obtain ⟨a0,rfl⟩:=us1 hl;rfl,
  W.mg_of X G C3,
  BF,
  BF.binds fun _ _ _ _ _ _ us hl=>by obtain ⟨a0,a1,rfl⟩:=us2 hl;rfl,
  Cf,
  Cf.binds fun _ _ _ _ _ _ us hl=>by obtain ⟨a0,a1,rfl⟩:=us2 hl;rfl,
  IC,
  IC.binds fun _ _ _ _ _ _ us hl=>by obtain ⟨a0,a1,rfl⟩:=us2 hl;rfl,
  W.mg_of X G Hw,
  B7,
  B7.binds fun _ _ _ _ _ _ us hl=>by obtain ⟨a0,rfl⟩:=us1 hl;rfl,
  W.mg_of X G Cy,
  JC,
  JC.binds fun _ _ _ _ _ _ us hl=>by obtain ⟨a0,a1,a2,rfl⟩:=us3 hl;rfl,
  W.mg_of X G HR,
  LL,
  LL.binds fun _ _ _ _ _ _ us hl=>by obtain ⟨a0,a1,a2,a3,rfl⟩:=us4 hl;rfl,
  W.mg_of X G JY,
  DC,
  DC.binds fun _ _ _ _ _ _ us hl=>by obtain ⟨a0,rfl⟩:=us1 hl;rfl,
  W.mg_of X G C4,
  Gb,
  Gb.binds fun _ _ _ _ _ _ us hl=>by obtain ⟨a0,rfl⟩:=us1 hl;rfl,
  W.mg_of X G FK,
  LM,
  LM.binds fun _ _ _ _ _ _ us hl=>by obtain ⟨a0,a1,rfl⟩:=us2 hl;rfl,
  W.mg_of X G JZ,
  LK,
  LK.binds fun _ _ _ _ _ _ us hl=>by obtain ⟨a0,a1,rfl⟩:=us2 hl;rfl,
  W.mg_of X G JX,
  Es,
  Es.binds fun _ _ _ _ _ _ us hl=>by obtain ⟨a0,a1,a2,a3,rfl⟩:=us4 hl;rfl,
  W.mg_of X G DQ,
  Gd,
  Gd.binds fun _ _ _ _ _ _ us hl=>by obtain ⟨a0,a1,a2,a3,a4,rfl⟩:=us5 hl;rfl,
  W.mg_of X G FL,
  HW,
  HW.binds fun _ _ _ _ _ _ us hl=>by obtain ⟨a0,a1,a2,a3,rfl⟩:=us4 hl;rfl,
  W.mg_of X G GH,
  JF,
  JF.binds fun _ _ _ _ _ _ us hl=>by obtain ⟨a0,a1,rfl⟩:=us2 hl;rfl,
  W.mg_of X G HV,
  JE,
  JE.binds fun _ _ _ _ _ _ us hl=>by obtain ⟨a0,a1,a2,rfl⟩:=us3 hl;rfl,
  W.mg_of X G HU,
  JD,
  JD.binds fun _ _ _ _ _ _ us hl=>by obtain ⟨a0,a1,a2,rfl⟩:=us3 hl;rfl,
  W.mg_of X G HS,
  Gf,
  Gf.binds fun _ _ _ _ _ _ us hl=>by obtain ⟨a0,rfl⟩:=us1 hl;rfl,
  W.mg_of X G FN,
  BE,
  BE.binds fun _ _ _ _ _ _ us hl=>by obtain ⟨a0,a1,rfl⟩:=us2 hl;rfl,
  Ec,
  Ec.binds fun _ _ _ _ _ _ us hl=>by obtain ⟨a0,a1,rfl⟩:=us2 hl;rfl,
  Cd,
  Cd.binds fun _ _ _ _ _ _ us hl=>by obtain ⟨a0,a1,rfl⟩:=us2 hl;rfl,
  DS,
  DS.binds fun _ _ _ _ _ _ us hl=>by obtain ⟨a0,a1,a2,rfl⟩:=us3 hl;rfl,
  Ba,
  Ba.binds fun _ _ _ _ _ _ us hl=>by obtain ⟨a0,rfl⟩:=us1 hl;rfl,
  BK,
  BK.binds fun _ _ _ _ _ _ us hl=>by obtain ⟨a0,rfl⟩:=us1 hl;rfl,
  D9,
  D9.binds fun _ _ _ _ _ _ us hl=>by obtain ⟨a0,a1,rfl⟩:=us2 hl;rfl,
  EY,
  EY.binds fun _ _ _ _ _ _ us hl=>by obtain ⟨a0,a1,a2,a3,rfl⟩:=us4 hl;rfl,
  EZ,
  EZ.binds fun _ _ _ _ _ _ us hl=>by obtain ⟨a0,a1,rfl⟩:=us2 hl;rfl,
  DG,
  DG.binds fun _ _ _ _ _ _ us hl=>by obtain ⟨a0,rfl⟩:=us1 hl;rfl,
  BL,
  BL.binds fun _ _ _ _ _ _ us hl=>by obtain ⟨a0,a1,rfl⟩:=us2 hl;rfl,
  Eb,
  Eb.binds fun _ _ _ _ _ _ us hl=>by obtain ⟨a0,a1,a2,rfl⟩:=us3 hl;rfl,
  Ea,
  Ea.binds fun _ _ _ _ _ _ us hl=>by obtain ⟨a0,a1,rfl⟩:=us2 hl;rfl,
  FV,
  FV.binds fun _ _ _ _ _ _ us hl=>by obtain ⟨a0,rfl⟩:=us1 hl;rfl,
  W.mg_of X G FJ,
  D8,
  D8.binds fun _ _ _ _ _ _ us hl=>by obtain ⟨a0,rfl⟩:=us1 hl;rfl,
  W.mg_of X G Du,
  DE,
  DE.binds fun _ _ _ _ _ _ us hl=>by obtain ⟨a0,rfl⟩:=us1 hl;rfl,
  W.mg_of X G C5,
  BM,
  BM.binds fun _ _ _ _ _ _ us hl=>by obtain ⟨a0,a1,a2,rfl⟩:=us3 hl;rfl,
  Ed,
  Ed.binds fun _ _ _ _ _ _ us hl=>by obtain ⟨a0,a1,rfl⟩:=us2 hl;rfl,
  B5,
  B5.binds fun _ _ _ _ _ _ us hl=>by obtain ⟨a0,a1,rfl⟩:=us2 hl;rfl,
  Ce,
  Ce.binds fun _ _ _ _ _ _ us hl=>by obtain ⟨a0,rfl⟩:=us1 hl;rfl,
  DF,
  DF.binds fun _ _ _ _ _ _ us hl=>by obtain ⟨a0,rfl⟩:=us1 hl;rfl,
  W.mg_of X G Dx,
  CO,
  CO.binds fun _ _ _ _ _ _ us hl=>by obtain ⟨a0,rfl⟩:=us1 hl;rfl,
  W.mg_of X G CJ,
  Bu,
  Bu.binds fun _ _ _ _ _ _ us hl=>by obtain ⟨a0,rfl⟩:=us1 hl;rfl,
  W.mg_of X G Bs,
  FW,
  FW.binds fun _ _ _ _ _ _ us hl=>by obtain ⟨a0,a1,a2,rfl⟩:=us3 hl;rfl,
  W.mg_of X G FP,
  Ge,
  Ge.binds fun _ _ _ _ _ _ us hl=>by obtain ⟨a0,rfl⟩:=us1 hl;rfl,
  W.mg_of X G GX,
  BO,
  BO.binds fun _ _ _ _ _ _ us hl=>by obtain ⟨a0,rfl⟩:=us1 hl;rfl,
  W.mg_of X G CI,
  B8,
  B8.binds fun _ _ _ _ _ _ us hl=>by obtain ⟨a0,rfl⟩:=us1 hl;rfl,
  W.mg_of X G C6,
  CS,
  CS.binds fun _ _ _ _ _ _ us hl=>by obtain ⟨a0,rfl⟩:=us1 hl;rfl,
  W.mg_of X G Dy,
  FX,
  FX.binds fun _ _ _ _ _ _ us hl=>by obtain ⟨a0,a1,rfl⟩:=us2 hl;rfl,
  W.mg_of X G FQ,
  D7,
  D7.binds fun _ _ _ _ _ _ us hl=>by obtain ⟨a0,a1,rfl⟩:=us2 hl;rfl,
  W.mg_of X G Dt,
  CN,
  CN.binds fun _ _ _ _ _ _ us hl=>by obtain ⟨a0,a1,rfl⟩:=us2 hl;rfl,
  W.mg_of X G Ds,
  Bl,
  Bl.binds fun _ _ _ _ _ _ us hl=>by obtain ⟨a0,a1,rfl⟩:=us2 hl;rfl,
  W.mg_of X G C0,
  D6,
  D6.binds fun _ _ _ _ _ _ us hl=>by obtain ⟨a0,a1,a2,a3,rfl⟩:=us4 hl;rfl,
  W.mg_of X G Dr,
  DA,
  DA.binds fun _ _ _ _ _ _ us hl=>by obtain ⟨a0,a1,a2,rfl⟩:=us3 hl;rfl,
  W.mg_of X G C1,
  D2,
  D2.binds fun _ _ _ _ _ _ us hl=>by obtain ⟨a0,a1,a2,rfl⟩:=us3 hl;rfl,
  W.mg_of X G Dk,
  C9,
  C9.binds fun _ _ _ _ _ _ us hl=>by obtain ⟨a0,a1,rfl⟩:=us2 hl;rfl,
  W.mg_of X G Dq,
  IA,
  IA.binds fun _ _ _ _ _ _ us hl=>match us,hl with|[],_=>rfl,
  W.mg_of X G Hu,
  IB,
  IB.binds fun _ _ _ _ _ _ us hl=>by obtain ⟨a0,rfl⟩:=us1 hl;rfl,
  W.mg_of X G Hv,
  D1,
  D1.binds fun _ _ _ _ _ _ us hl=>by obtain ⟨a0,rfl⟩:=us1 hl;rfl,
  W.mg_of X G Dj,
  D3,
  D3.binds fun _ _ _ _ _ _ us hl=>by obtain ⟨a0,rfl⟩:=us1 hl;rfl,
  W.mg_of X G Dl,
  BD,
  BD.binds fun _ _ _ _ _ _ us hl=>by obtain ⟨a0,a1,rfl⟩:=us2 hl;rfl,
  W.mg_of X G BC,
  D5,
  D5.binds fun _ _ _ _ _ _ us hl=>by obtain ⟨a0,a1,rfl⟩:=us2 hl;rfl,
  W.mg_of X G Dp,
  EV,
  EV.binds fun _ _ _ _ _ _ us hl=>by obtain ⟨a0,rfl⟩:=us1 hl;rfl,
  W.mg_of X G FI,
  D4,
  D4.binds fun _ _ _ _ _ _ us hl=>by obtain ⟨a0,rfl⟩:=us1 hl;rfl,
  W.mg_of X G Dm,
  Hz,
  Hz.binds fun _ _ _ _ _ _ us hl=>by obtain ⟨a0,rfl⟩:=us1 hl;rfl,
  W.mg_of X G Ht,
  C8,
  C8.binds fun _ _ _ _ _ _ us hl=>by obtain ⟨a0,rfl⟩:=us1 hl;rfl,
  W.mg_of X G Cz,
  GZ,
  GZ.binds fun _ _ _ _ _ _ us hl=>by obtain ⟨a0,rfl⟩:=us1 hl;rfl,
  W.mg_of X G GV,
  Ga,
  Ga.binds fun _ _ _ _ _ _ us hl=>by obtain ⟨a0,rfl⟩:=us1 hl;rfl,
  W.mg_of X G GW,
  Nu,
  Nu.binds fun _ _ _ _ _ _ us hl=>by obtain ⟨a0,rfl⟩:=us1 hl;rfl,
  W.mg_of X G Np,
  W.mg_of X G a_FlowError,
  Fe,
  W.mg_of X G a_BadEvent,
  HZ,
  W.mg_of X G a_BadSlack,
  HY,
  W.mg_of X G a_Broken,
  KO,
  W.mg_of X G a_BadStep,
  W.mg_of X G a_BadLine,
  W.mg_of X G a_BadKeep,
  W.mg_of X G a_Clock,
  ⟨pg_Clock,hd_Clock,po_Clock,sa_Clock⟩,
  DY,
  Ct,
  Br,
  ⟨Au,fn_Clock___init__,BF.kp⟩,
  ⟨Cb,fn_Clock_admit,Cf.kp⟩,
  ⟨mks_Clock,Au,fn_Clock___init__,kp_Clock⟩,
  W.mg_of X G a_Group,
  ⟨pg_Group,hd_Group,po_Group,sa_Group⟩,
  Ej,
  CC,
  ⟨As,fn_Group___init__,BE.kp⟩,
  ⟨ET,fn_Group_put,Ec.kp⟩,
  ⟨CY,fn_Group_close,Cd.kp⟩,
  ⟨DR,fn_Group_take,DS.kp⟩,
  ⟨BZ,fn_Group_pieces,Ba.kp⟩,
  ⟨mks_Group,As,fn_Group___init__,kp_Group⟩,
  W.mg_of X G a_Side,
  ⟨pg_Side,hd_Side,po_Side,sa_Side⟩,
  B6,
  ⟨Aw,fn_Side___init__,BK.kp⟩,
  ⟨Dz,fn_Side_put,D9.kp⟩,
  ⟨EN,fn_Side_near,EY.kp⟩,
  ⟨EO,fn_Side_drop,EZ.kp⟩,
  ⟨C7,fn_Side_kept,DG.kp⟩,
  ⟨mks_Side,Aw,fn_Side___init__,kp_Side⟩,
  W.mg_of X G a_Join,
  ⟨pg_Join,hd_Join,po_Join,sa_Join⟩,
  DX,
  CB,
  ⟨Ax,fn_Join___init__,BL.kp⟩,
  ⟨ES,fn_Join_come,Eb.kp⟩,
  ⟨ER,fn_Join_drop,Ea.kp⟩,
  ⟨mks_Join,Ax,fn_Join___init__,kp_Join⟩,
  W.mg_of X G a_Flow,
  ⟨pg_Flow,hd_Flow,po_Flow,sa_Flow⟩,
  Fh,
  Bh,
  CD,
  Bq,
  Bp,
  ⟨Ay,fn_Flow___init__,BM.kp⟩,
  ⟨EU,fn_Flow_come,Ed.kp⟩,
  ⟨B4,fn_Flow_told_by,B5.kp⟩,
  ⟨CZ,fn_Flow_finish,Ce.kp⟩,
  ⟨mks_Flow,Ay,fn_Flow___init__,kp_Flow⟩,
  ⟨⟨_,_,_,_,_,_,_,_,_,_,_,_,_,_,_,lk_BadKeep⟩,Fe,Az,xfn_BadKeep,⟨⟨ga_BadKeep,gt_BadKeep,ck_BadKeep,sb_BadKeep,so_BadKeep,by rw [cl_BadKeep];rfl⟩,xhd_BadKeep,xna_BadKeep,xsa_BadKeep⟩⟩,
  ⟨ga_BadKeep,gt_BadKeep,ck_BadKeep,sb_BadKeep,so_BadKeep,by rw [cl_BadKeep];rfl⟩,
  BI,
  BN,
  Bw,
  BW,
  BV,
  Bz,
  Bi,
  Bj,
  Ck,
  Bk,
  ⟨_,W.mg_of X G HG⟩,
  ⟨_,W.mg_of X G HH⟩,
  ⟨_,W.mg_of X G Cu⟩,
  ⟨_,W.mg_of X G Em⟩,
  ⟨_,W.mg_of X G Fi⟩,
  ⟨_,W.mg_of X G El⟩,
  W.mg_of X G HF,
  fun H=>.inr ⟨_,_,_,l_TELLERS,rfl,rfl,by first|decide|exact (by decide:2≤sizeLine),by repeat (first|exact .nil|refine .cons ?_ ?_|exact ⟨_,rfl⟩|rfl)⟩,
  ⟨_,l_TELLERS,rfl,rfl⟩,
  W.mg_of X G JP,
  fun H=>.inr ⟨_,_,_,l_TALLIES,rfl,rfl,by first|decide|exact (by decide:4≤sizeLine),by repeat (first|exact .nil|refine .cons ?_ ?_|exact ⟨_,rfl⟩|rfl)⟩,
  ⟨_,l_TALLIES,rfl,rfl⟩,
  W.mg_none_of X G Eg,
  W.mg_none_of X G OA,
  W.mg_none_of X G LN,
  W.mg_none_of X G Cq,
  W.mg_none_of X G Lr,
  W.mg_none_of X G Al,
  W.mg_none_of X G BS,
  W.mg_none_of X G Jq,
  W.mg_none_of X G SG,
  W.mg_none_of X G Pt,
  W.mg_none_of X G Fz,
  W.mg_none_of X G GI,
  W.mg_none_of X G Ef,
  W.mg_none_of X G Cp,
  W.mg_none_of X G HX⟩
variable {P:Program}{w:World}{K:W.Frag}{mg:Str→Option Value}{base:Heap}{ad:Ad}
def Ow (K:W.Frag):Sp:=fun vs H Q _=>∃(a:Addr) (ns:List Int),vs=[.ref a]/\SqL K H a (ns.map V.int)/\ns.length≤63/\∀H',Q (.bl true) H'
theorem Yt (K:W.Frag) (H:Hp) (a:Addr) (ns:List Int) (hl:ns.length≤63) (_:WB H) (hS:SqL K H a (ns.map V.int)):Ow K [.ref a] H (fun v _=>v=.bl true) fun _ _ _=>False:=⟨a,ns,rfl,hS,hl,fun _=>rfl⟩
abbrev depth:Nat:=9
def tyN:V→String
 | .non => "NoneType" | .int _ => "int" | _ => "str"
inductive Sc:V→Prop where
 | non:Sc .non
 | int (i:Int):Sc (.int i)
 | str (z:Str):Sc (.str z)
theorem Sc.ty {K:W.Frag}{H:Hp}{x:V}(h:Sc x):LJ K H x (.type (tyN x)):=by
 cases h with
 | non=>exact .non
 | int i=>exact .int i
 | str z=>exact .str z
def Cg:V→Bool
 | .int _=>true|_=>false
def YH:V→Bool
 | .str _=>true|_=>false
theorem Sw (K:W.Frag) {x:V}(h:Sc x):W.kitOne K (.type (tyN x)) (.type "int")=some (Cg x):=by cases h <;> rfl
theorem Qk (K:W.Frag) {x:V}(h:Sc x):W.kitOne K (.type (tyN x)) (.type "bool")=some false:=by cases h <;> rfl
theorem XM (K:W.Frag) {x:V}(h:Sc x):W.kitOne K (.type (tyN x)) (.type "str")=some (YH x):=by cases h <;> rfl
def GU (a b:Int):V→Bool
 | .int i=>decide (a≤i)&&decide (i≤b)|_=>false
abbrev LET:Str := "abcdefghijklmnopqrstuvwxyz"
abbrev UN:Str:=LET
abbrev FIG:Str := "0123456789"
abbrev UO:Str:=FIG
def pS (y:Str):V→Bool
 | .str c=>!(Builtin.Str.occurrences y c 0 y.length 1).isEmpty|_=>false
def Jm (z:Str):Bool:=(decide ((1:Int)≤(z.length:Int))&&decide ((z.length:Int)≤12))&&(B9 z).all (pS LET)
def sp1 (f:V→Bool):Sp:=fun vs H Q _=>∃x,vs=[x]/\Sc x/\Q (.bl (f x)) H
def sp3:Sp:=fun vs H Q _=>∃x a b,vs=[x,.int a,.int b]/\Sc x/\Q (.bl (GU a b x)) H
def YR:Sp:=fun vs H Q _=>∃z y,vs=[.str z,.str y]/\z.length≤60000/\∀H',AO H H'→Q (.bl ((B9 z).all (pS y))) H'
def YQ:Sp:=fun vs H Q _=>∃z,vs=[.str z]/\z.length≤60000/\∀H',AO H H'→Q (.bl (Jm z)) H'
theorem Ie (T:Tx K mg ad):Ao P w K mg base CX0 1 ad.Dv ad.FC ["thing"] (sp1 Cg):=by
 refine T.CP.ok MA (fun vs H Q E h=>?_) (fun cdv A outer s H vs Q E hr h=>?_)
 ·obtain ⟨x,rfl,_⟩:=h
  rfl
 ·obtain ⟨x,rfl,hx,k⟩:=h
  have nd:=MA.nd
  refine ⟨_,(AF (AS (Cs (AU (EM (K:=K)) (by rfl) T.Al PyProof.Rows.boot_isinstance (AA (pvC 0) (AA (He (v:=.ty "int") (by rfl) T.Lr PyProof.Rows.boot_int rfl) AB))) (Gw (U2 (AU (EM (K:=K)) (by rfl) T.Al PyProof.Rows.boot_isinstance (AA (pvC 0) (AA (He (v:=.ty "bool") (by rfl) T.LN PyProof.Rows.boot_bool rfl) AB)))))))),?_⟩
  refine ⟨x, "int", _,_,rfl,hx.ty,Sw _ hx,_,rfl,?_⟩
  cases hx with
  | int i=>exact Ek ⟨_, "bool", _,_,rfl,(Sc.int i).ty,Qk _ (.int i),_,rfl,k⟩
  | _=>exact DJ k
theorem MN (T:Tx K mg ad):Ao P w K mg base CX0 2 ad.Dw ad.FD ["thing", "least", "most"] sp3:=by
 have G_is_whole:=A6.mk (Ie (P:=P) (w:=w) (base:=base) T) T.KH T.CP.kp T.KL
 refine T.DD.ok MB (fun vs H Q E h=>?_) (fun cdv A outer s H vs Q E hr h=>?_)
 ·obtain ⟨x,a,b,rfl,_⟩:=h
  rfl
 ·obtain ⟨x,a,b,rfl,hx,k⟩:=h
  have nd:=MB.nd
  refine ⟨_,(AF (AS (Cs (AJ G_is_whole hr (AA (pvC 0) AB)) (Gw (Ks Gx Gx (pvC 1) (pvC 0) (pvC 2)))))),?_⟩
  refine ⟨x,rfl,hx,_,rfl,?_⟩
  cases hx with
  | int i =>
   refine Ek ⟨_,rfl,?_⟩
   have k:Q (.bl (decide (a≤i)&&decide (i≤b))) H:=k
   refine By (fun e=>?_) fun e=>?_
   ·rw [e,Bool.true_and] at k
    exact k
   ·rw [e,Bool.false_and] at k
    exact k
  | _=>exact DJ k
theorem NK (T:Tx K mg ad):Ao P w K mg base CX0 3 ad.FR ad.GF ["thing"] (sp1 (GU 0 1000000000)):=by
 have G_is_among:=A6.mk (MN (P:=P) (w:=w) (base:=base) T) T.NR T.DD.kp T.Nl
 refine T.EW.ok M5 (fun vs H Q E h=>?_) (fun cdv A outer s H vs Q E hr h=>?_)
 ·obtain ⟨x,rfl,_⟩:=h
  rfl
 ·obtain ⟨x,rfl,hx,k⟩:=h
  obtain ⟨t_MOST_TIME,h_MOST_TIME⟩:=T.Fi
  have nd:=M5.nd
  refine ⟨_,(AF (AS (AJ G_is_among hr (AA (pvC 0) (AA AD (AA (Bg (v:=.int 1000000000) (by rfl) h_MOST_TIME ⟨t_MOST_TIME,rfl⟩) AB)))))),?_⟩
  exact ⟨x,_,_,rfl,hx,k⟩
theorem Jl (T:Tx K mg ad):Ao P w K mg base CX0 1 ad.CK ad.DM ["text", "signs"] YR:=by
 refine T.Bm.ok Je (fun vs H Q E h=>?_) (fun cdv A outer s H vs Q E hr h=>?_)
 ·obtain ⟨z,y,rfl,_⟩:=h
  rfl
 ·obtain ⟨z,y,rfl,hz,k⟩:=h
  have nd:=Je.nd
  refine ⟨_,(AF (AS (AU (JA (K:=K) rfl) (by rfl) T.OA PyProof.Rows.boot_all (AA (pcm (AH F5) [("signs", 1)] ⟨rfl,rfl,trivial⟩ (RI (pvC 0)) (fun _ _ _ _=>Fb) (fun _ _ _ _=>(Fc Tf (pvC 0) (pvC 1) (by with_unfolding_all rfl)))) AB)))),?_⟩
  refine ⟨z,rfl,N3 (fun _=>true) (fun x=>.bl (pS y x)) (Nat.le_trans hz (by decide)) (fun x R _ q=>q) (fun x R hx _ q=>?_) fun D hD=>?_⟩
  ·obtain ⟨c,_,rfl⟩:=List.mem_map.mp hx
   exact ⟨_,_,rfl,rfl,q⟩
  ·refine ⟨D,(B9 z).map (pS y),rfl,SqL.of ?_,?_⟩
   ·rw [AG,List.filter_eq_self.mpr (fun _ _=>rfl),List.map_map]
    rfl
   ·rw [List.all_map]
    exact k _ (AO.Q7 hD)
theorem NL (T:Tx K mg ad):Ao P w K mg base CX0 2 ad.FT ad.GG ["thing"] YQ:=by
 have G_is_made_of:=A6.mk (Jl (P:=P) (w:=w) (base:=base) T) T.Kw T.Bm.kp T.LF
 refine T.EX.ok M6 (fun vs H Q E h=>?_) (fun cdv A outer s H vs Q E hr h=>?_)
 ·obtain ⟨z,rfl,_⟩:=h
  rfl
 ·obtain ⟨z,rfl,hz,k⟩:=h
  obtain ⟨t_MOST_LETTERS,h_MOST_LETTERS⟩:=T.Cu
  obtain ⟨t_LETTERS,h_LETTERS⟩:=T.HG
  have nd:=M6.nd
  refine ⟨_,(AF (AS (Cs (AU (EM (K:=K)) (by rfl) T.Al PyProof.Rows.boot_isinstance (AA (pvC 0) (AA (He (v:=.ty "str") (by rfl) T.Cp PyProof.Rows.boot_str rfl) AB))) (Cs (Ks Gx Gx AD (AU F8 (by rfl) T.BS PySem.boot_len (AA (pvC 0) AB)) (Bg (v:=.int 12) (by rfl) h_MOST_LETTERS ⟨t_MOST_LETTERS,rfl⟩)) (Gw (AJ G_is_made_of hr (AA (pvC 0) (AA (Bg (v:=.str UN) (by rfl) h_LETTERS ⟨t_LETTERS,rfl⟩) AB)))))))),?_⟩
  have sz:sizeLine=16777216:=sizeLine_eq
  refine ⟨_, "str", _,_,rfl,(Sc.str z).ty,XM _ (.str z),_,rfl,Ek ?_⟩
  refine ⟨z,rfl,by omega,_,rfl,?_⟩
  have no:(decide ((1:Int)≤(z.length:Int))&&decide ((z.length:Int)≤12))=false→Q (.bl false) H:=fun e=>by
   have q:=k H (AO.refl H)
   rw [Jm,e,Bool.false_and] at q
   exact q
  refine By (fun e=>?_) fun e=>?_
  ·refine ⟨_,rfl,?_⟩
   refine By (fun e2=>?_) fun e2=>?_
   ·refine ⟨z,LET,rfl,hz,fun H' s'=>?_⟩
    have q:=k H' s'
    rw [Jm,e,e2] at q
    exact q
   ·exact no (by rw [e,e2];rfl)
  ·exact ⟨_,rfl,DJ (no (by rw [e];rfl))⟩
abbrev tx (n:Int):Str:=PySem.Str.ofString (toString n)
def Ee (n:Int):Str:=if n<0 then ("-" : Str)++tx (-n) else tx n
def A8 (z:Str):Str:=if Txt.startswith z "-" = true then Txt.slice z (some 1) none else z
def acc (z:Str):Bool:=(!decide ((60:Int)<(z.length:Int))&&((!decide (V.str (A8 z)=V.str "")&&(B9 (A8 z)).all (pS FIG))&&!(Txt.startswith (A8 z) "0" && !decide (V.str z=V.str "0"))))
def Ae (z:Str):V:=if acc z=true then .int ((PySem.intText? z).getD 0) else .non
theorem e60:((10 ^ 60:Nat):Int)=(10:Int) ^ 60:=by decide +kernel
theorem F6 (z:Str):z.length=z.cps.toList.length:=by simp [Str.length]
theorem Hm {a b:Str}(h:a.cps.toList=b.cps.toList):a=b:=by
 cases a;cases b
 congr 1
 exact Array.toList_inj.mp h
theorem Pd (a b:Str):(a++b).cps.toList=a.cps.toList++b.cps.toList:=by
 show (a.cps++b.cps).toList=_
 simp
theorem Lc {n:Int}(h1:n.natAbs<10 ^ 60):n.natAbs.log2<1920:=by
 by_cases hz:n.natAbs=0
 ·rw [hz];decide
 ·exact (Nat.log2_lt hz).mpr (Nat.lt_trans h1 (by decide +kernel))
theorem Q9 {n:Int}(h0:0≤n):(tx n).cps.toList=Fig.dig n.toNat:=by
 obtain ⟨m,rfl⟩:=Int.eq_ofNat_of_zero_le h0
 exact Fig.WO m
theorem Q8 {n:Int}(h0:0≤n) (h:n<10 ^ 60):(tx n).length≤60:=by
 rw [F6,Q9 h0]
 exact Fig.Pb 59 _ (by have:=e60;omega)
theorem NO (n:Int):(Ee n).cps.toList=(if n<0 then [45] else [])++Fig.dig n.natAbs:=by
 unfold Ee
 by_cases h:n<0
 ·rw [if_pos h,if_pos h,Pd,Q9 (by omega)]
  show [45]++_=_
  congr 2
  omega
 ·rw [if_neg h,if_neg h,Q9 (by omega)]
  show _=[]++_
  rw [List.nil_append]
  congr 1
  omega
theorem UY (n:Int):tx n=Ee n:=by
 unfold Ee
 by_cases h:n<0
 ·rw [if_pos h]
  obtain ⟨m,rfl⟩:∃m:Nat,n=Int.negSucc m:=⟨(-n-1).toNat,by omega⟩
  refine Hm ?_
  rw [Pd]
  show (PySem.Str.ofString ("-" ++ (Nat.repr (m+1)))).cps.toList=[45]++(PySem.Str.ofString (Nat.repr (m+1))).cps.toList
  rw [PySem.Str.ofString_eq_toList,PySem.Str.ofString_eq_toList]
  show (List.map Char.toNat ("-" ++ (Nat.repr (m+1))).toList)=[45]++List.map Char.toNat (Nat.repr (m+1)).toList
  rw [String.toList_append,List.map_append]
  rfl
 ·rw [if_neg h]
theorem sub_one (z:Str) (c:Nat):Txt.startswith z ⟨#[c]⟩=decide (z.cps.toList[0]?=some c):=by
 unfold Txt.startswith
 rw [Bool.eq_iff_iff,Bool.and_eq_true,decide_eq_true_eq,decide_eq_true_eq]
 exact StrLaws.subAt_one z c 0
theorem drop_one (z:Str) (h:1≤z.length):(Txt.slice z (some 1) none).cps.toList=z.cps.toList.drop 1:=by
 have e:Txt.slice z (some 1) none=StrLaws.sliceText z (some 1) none:=rfl
 rw [e,StrLaws.sliceText_from ⟨by decide,by rw [F6] at h;omega⟩]
 show List.take _ (List.drop 1 _)=_
 rw [List.take_of_length_le]
 rw [List.length_drop]
 omega
theorem Ye (c:Nat):pS FIG (.str ⟨#[c]⟩)=decide (48≤c/\c≤57):=by
 show (!(Builtin.Str.occurrences FIG ⟨#[c]⟩ 0 FIG.length 1).isEmpty)=_
 rw [StrLaws.found_one FIG c]
 have e:FIG.cps.toList=[48,49,50,51,52,53,54,55,56,57]:=by decide +kernel
 rw [e,Bool.eq_iff_iff,decide_eq_true_eq,decide_eq_true_eq]
 simp only [List.mem_cons,List.not_mem_nil,or_false]
 omega
theorem Xe (z:Str):(B9 z).all (pS FIG)=true↔NumText.AllDigits z.cps.toList:=by
 unfold B9
 rw [List.all_map,List.all_eq_true]
 exact forall_congr' fun c=>imp_congr_right fun _=>by
  show pS FIG (.str ⟨#[c]⟩)=true↔_
  rw [Ye,decide_eq_true_eq]
theorem Nj (z:Str):(A8 z).length≤z.length:=by
 unfold A8
 split
 ·exact Txt.slice_le _ _ _
 ·exact Nat.le_refl _
theorem V2 (z:Str):(z.cps.toList=45::(A8 z).cps.toList)\/(z.cps.toList[0]?≠some 45/\A8 z=z):=by
 have e:Txt.startswith z "-" = decide (z.cps.toList[0]?=some 45):=sub_one z 45
 unfold A8
 rw [e]
 by_cases h:z.cps.toList[0]?=some 45
 ·left
  rw [if_pos (decide_eq_true h)]
  cases q:z.cps.toList with
  | nil=>rw [q] at h;cases h
  | cons a r =>
   rw [q] at h
   have h':a=45:=Option.some.inj h
   rw [drop_one z (by rw [F6,q];exact Nat.succ_le_succ (Nat.zero_le _)),q,h']
   rfl
 ·right
  rw [if_neg (by rw [decide_eq_true_eq];exact h)]
  exact ⟨h,rfl⟩
theorem Vz:∀{ds:List Nat},NumText.AllDigits ds→ds≠[]→(ds.head?=some 48→ds.length=1)→Fig.dig (NumText.digitsVal ds)=ds/\(ds.head?≠some 48→0<NumText.digitsVal ds):=by
 intro ds
 induction hn:ds.length generalizing ds with
 | zero=>intro _ h;exact absurd (List.length_eq_zero_iff.mp hn) h
 | succ n ih =>
  intro ha _ hz
  obtain ⟨as,c,rfl⟩:∃as c,ds=as++[c]:=⟨ds.dropLast,ds.getLast (by intro z;rw [z] at hn;cases hn),(List.dropLast_concat_getLast _).symm⟩
  have hc:=ha c (by simp)
  have ev:NumText.digitsVal (as++[c])=NumText.digitsVal as * 10+(c-48):=by unfold NumText.digitsVal;rw [List.foldl_append];rfl
  rw [ev]
  cases as with
  | nil =>
   have e0:NumText.digitsVal []=0:=rfl
   rw [e0,Nat.zero_mul,Nat.zero_add,Fig.Pa (by omega),show 48+(c-48)=c by omega]
   refine ⟨rfl,fun h=>?_⟩
   have:c≠48:=fun z=>h (by rw [z];rfl)
   omega
  | cons b r =>
   have hb:(b::r).head?≠some 48:=fun z=>by have:=hz z;simp at this hn;omega
   obtain ⟨q1,q2⟩:=ih (ds:=b::r) (by simpa using hn) (fun d hd=>ha d (List.mem_append_left _ hd)) (by simp) fun z=>absurd z hb
   have q2:=q2 hb
   rw [Fig.Vy (by omega),show (NumText.digitsVal (b::r) * 10+(c-48)) / 10=NumText.digitsVal (b::r) by omega,show 48+(NumText.digitsVal (b::r) * 10+(c-48)) % 10=c by omega,q1]
   exact ⟨rfl,fun _=>by omega⟩
theorem NM (z:Str) (h:acc z=true):∃n,PySem.intText? z=some n/\Ae z=.int n/\Ee n=z/\n.natAbs<10 ^ 60:=by
 have h0:=h
 unfold acc at h
 simp only [Bool.and_eq_true,Bool.not_eq_true',decide_eq_false_iff_not] at h
 obtain ⟨h1,⟨h2,h3⟩,h4⟩:=h
 have hd:=(Xe _).mp h3
 have hne:(A8 z).cps.toList≠[]:=fun e=>h2 (congrArg V.str (Hm e))
 have es:Txt.startswith (A8 z) "0" = decide ((A8 z).cps.toList[0]?=some 48):=sub_one _ 48
 have hl:=F6 z
 have k0:(A8 z).cps.toList.head?=some 48→z = "0" := fun q=>by
  rw [es,decide_eq_true (by rw [←q,List.head?_eq_getElem?]),Bool.true_and] at h4
  exact V.str.inj (of_decide_eq_true (by simpa using h4))
 have hz:(A8 z).cps.toList.head?=some 48→(A8 z).cps.toList.length=1:=fun q=>by
  rw [k0 q]
  decide +kernel
 obtain ⟨b1,b2⟩:=Vz hd hne hz
 have bd:∀{ds:List Nat},NumText.AllDigits ds→NumText.digitsVal ds<10 ^ ds.length:=by
  intro ds
  induction hn:ds.length generalizing ds with
  | zero=>intro _;rw [List.length_eq_zero_iff.mp hn];decide
  | succ n ih =>
   intro ha
   obtain ⟨as,c,rfl⟩:∃as c,ds=as++[c]:=⟨ds.dropLast,ds.getLast (by intro z;rw [z] at hn;cases hn),(List.dropLast_concat_getLast _).symm⟩
   have hc:=ha c (by simp)
   have ev:NumText.digitsVal (as++[c])=NumText.digitsVal as * 10+(c-48):=by unfold NumText.digitsVal;rw [List.foldl_append];rfl
   have:=ih (ds:=as) (by simpa using hn) fun d hd=>ha d (List.mem_append_left _ hd)
   rw [ev,Nat.pow_succ]
   omega
 have nv:∀n,PySem.intText? z=some n→Ae z=.int n:=fun n e=>by
  unfold Ae
  rw [if_pos h0,e]
  rfl
 have b3:=bd hd
 have b4:NumText.digitsVal (A8 z).cps.toList<10 ^ 60:=Nat.lt_of_lt_of_le b3 (Nat.pow_le_pow_right (by decide) (by have:=Nj z;rw [F6] at this;omega))
 rcases V2 z with e|⟨e0,e⟩
 ·have et:=PySem.intText_neg e hd hne (by omega)
  have pos:0<NumText.digitsVal (A8 z).cps.toList:=b2 fun q=>by
   rw [k0 q] at e
   have:("0" : Str).cps.toList=[48]:=by decide +kernel
   rw [this] at e
   cases e
  refine ⟨_,et,nv _ et,Hm ?_,by omega⟩
  rw [NO,if_pos (by omega),e,show (-(NumText.digitsVal (A8 z).cps.toList:Int)).natAbs=NumText.digitsVal (A8 z).cps.toList by omega,b1]
  rfl
 ·rw [e] at hd hne b1 b4
  have et:=PySem.intText_digits hd hne (by omega)
  refine ⟨_,et,nv _ et,Hm ?_,by omega⟩
  rw [NO,if_neg (by omega),show ((NumText.digitsVal z.cps.toList:Int)).natAbs=NumText.digitsVal z.cps.toList by omega,b1]
  rfl
theorem PJ {z:Str}(h:acc z=false):Ae z=.non:=by
 unfold Ae
 rw [h]
 exact if_neg Bool.false_ne_true
theorem G9 (z:Str):Ae z=.non\/∃n,Ae z=.int n/\Ee n=z/\n.natAbs<10 ^ 60:=by
 cases h:acc z with
 | false=>exact .inl (PJ h)
 | true =>
  obtain ⟨n,_,e⟩:=NM z h
  exact .inr ⟨n,e⟩
theorem Fd (z:Str):Sc (Ae z):=by
 rcases G9 z with e|⟨n,e,_⟩ <;> rw [e]
 ·exact .non
 ·exact .int n
section
variable {X:Cx}{tg:Expr}{x:Str}{p:Pos}
def Wk (J:It) (xs:List V) (H:Hp):Prop:=(∀i H1,AO H H1→i<xs.length→J.go i H1)/\(∀H1,AO H H1→J.stop xs.length H1)/\∀i x H1 H',AO H H1→i<xs.length→J.yld i H1 x H'→H'=H1/\xs[i]?=some x
def Sq2 (H:Hp) (a:Addr) (xs:List V):Prop:=H a=some (.lst xs)\/H a=some (.tup xs)
def cE (i:Nat):TI:=fun σ H R=>onV σ[i]? fun x=>onR x fun a=>∃xs,Sq2 H a xs/\∀J,Wk J xs H→R J H
unseal PI in
theorem RJ (i:Nat) (hN:X.N[i]?=some x:=by rfl) (hv:Vis X.env.scope x:=by first|exact Or.inl rfl|exact Or.inr (Or.inl rfl)|exact Or.inr (Or.inr rfl)) (hd:(x==("__debug__" : Str))=false:=by decide)
  (hcd:(x==("__classdict__" : Str))=false:=by decide):PI X tg (.Name x p) (cE i):=fun pins s σ H R I h=>by
 obtain ⟨v,e,h⟩:=O8 h
 obtain ⟨a,rfl,xs,q,h⟩:=Dh h
 rcases q with q|q
 ·exact Sg (RL hN hv hd hcd) pins s σ H R I ⟨_,e,a,rfl,⟨xs,SqL.of q⟩,h _ ⟨fun i H1 s hi=>⟨xs,xs[i],SqL.of (s _ _ q),by simp [hi]⟩,fun H1 s=>⟨xs,SqL.of (s _ _ q),Nat.le_refl _⟩,fun i x H1 H' s _ y=>⟨y.1,y.2 xs (SqL.of (s _ _ q))⟩⟩⟩
 ·exact U0 (RL hN hv hd hcd) pins s σ H R I ⟨_,e,a,rfl,⟨xs,SqT.of q⟩,h _ ⟨fun i H1 s hi=>⟨xs,xs[i],SqT.of (s _ _ q),by simp [hi]⟩,fun H1 s=>⟨xs,SqT.of (s _ _ q),Nat.le_refl _⟩,fun i x H1 H' s _ y=>⟨y.1,y.2 xs (SqT.of (s _ _ q))⟩⟩⟩
theorem JU {J:It}{fr:List Nat}{te:TE}{σ:St}{H:Hp}{Q:VK}{xs:List V}(f:V→V) (hJ:Wk J xs H) (hn:xs.length≤sizeLine)
  (hte:∀x H1 (R:VK),x∈xs→AO H H1→(∀H2,AO H1 H2→R (f x) H2)→te (some x::fr.map (pick σ)) H1 R)
  (hd:∀H1 D,AO H H1→H D=none→H1 D=some (.lst (xs.map f))→Q (.ref D) H1):MZ 1 fr (GN 0) Ub te σ Q J H :=
 UE xs (fun x y=>y=f x) hn hJ.1 hJ.2.1 hJ.2.2 (fun x H1 R hx s q=>hte x H1 R hx s fun H2 s2=>q _ H2 s2 rfl) fun acc H1 s f D hD=>by
  rw [f.map]
  exact hd _ D (s.upd hD) (s.free hD) AG
end
def Oo:V→Str
 | .str z=>z|.int n=>Ee n|_ => ""
def Wy (v:V):Prop:=(∃n,v=.int n/\n.natAbs<10 ^ 60)\/∃z,v=.str z/\z.length≤60000
theorem QQ {n:Int}(h:n.natAbs<10 ^ 60):(Ee n).length≤61:=by
 have q:=Fig.Pb 59 n.natAbs h
 rw [F6,NO,List.length_append]
 by_cases h:n<0
 ·rw [if_pos h];show 1+_≤_;omega
 ·rw [if_neg h];show 0+_≤_;omega
theorem Mi {B:Nat}:∀{zs:List Str},(∀z∈zs,z.length≤B)→(zs.map (·.length)).sum≤zs.length * B
 | [],_=>Nat.zero_le _
 | a::r,h=>by
  have i:=Mi fun z hz=>h z (List.mem_cons_of_mem _ hz)
  have j:=h a List.mem_cons_self
  rw [List.map_cons,List.sum_cons,List.length_cons,Nat.succ_mul]
  omega
def Gp (xs:List V):Str:=Txt.join " " (xs.map Oo)
def Zg:Sp:=fun vs H Q _=>∃n:Int,vs=[.int n]/\0≤n/\n<10 ^ 60/\∀H',AO H H'→Q (.str (tx n)) H'
def YJ:Sp:=fun vs H Q _=>∃n:Int,vs=[.int n]/\n.natAbs<10 ^ 60/\∀H',AO H H'→Q (.str (Ee n)) H'
def Zd:Sp:=fun vs H Q _=>∃z:Str,vs=[.str z]/\z.length≤60000/\∀H',AO H H'→Q (Ae z) H'
def YS:Sp:=fun vs H Q _=>∃l xs,vs=[.ref l]/\Sq2 H l xs/\xs.length≤9/\(∀v∈xs,Wy v)/\∀H',AO H H'→Q (.str (Gp xs)) H'
def YO:Sp:=fun vs H Q _=>∃(l:Addr) (ws:List Str),vs=[.ref l]/\H l=some (.lst (ws.map V.str))/\ws.length≤70000/\(∀z∈ws,z.length≤60000)/\∀H' r,AO H H'→H r=none→H' r=some (.lst (ws.map Ae))→Q (.ref r) H'
def Zm:Sp:=fun vs H Q _=>∃(l:Addr) (xs:List V),vs=[.ref l]/\Sq2 H l xs/\xs.length≤70000/\(∀x∈xs,Sc x)/\∀H',AO H H'→Q (.bl (xs.all Cg)) H'
theorem RT (T:Tx K mg ad):Ao P w K mg base CX0 1 ad.CL ad.DN ["number"] Zg:=by
 refine T.CQ.ok Jf (fun vs H Q E h=>?_) (fun cdv A outer s H vs Q E hr h=>?_)
 ·obtain ⟨n,rfl,_⟩:=h
  rfl
 ·obtain ⟨n,rfl,h0,h1,k⟩:=h
  have nd:=Jf.nd
  refine ⟨_,(AE (psl 1 nd (AN NG AD AD))
    (AE (psl 2 nd (Ak AB))
    (AE (QF PassesOwn.never (AQ Sn (pvC 0) (pvC 1) (AX _)) OJ)
    (AE (DH (pap K (pvC 2) (AA (Aa Ac (by rfl) T.Cp PyProof.Rows.boot_str (AA (pvC 0) AB)) AB)))
    (AF (AS (CA (K:=K) F.plainAttrs_str F.slot_str_join F.type_str_join (RW (K:=K) rfl) AI (AA (Aa (N5 (K:=K)) (by rfl) T.GI PyProof.Rows.boot_reversed (AA (pvC 2) AB)) AB)))))))),?_⟩
  have len:=Q8 h0 h1
  refine ⟨_,_,rfl,rfl,⟨by decide,by decide,by decide⟩,⟨Nat.zero_le _,fun l hl=>?_⟩⟩
  refine AV (o:=.lst []) hl fun H1 s1 e1=>?_
  refine ⟨fun m σ' H'=>m=0/\σ'=[some (.int n),some (.int ((10:Int) ^ Int.toNat 60)),some (.ref l)]/\H'=H1,⟨0,rfl,rfl,rfl⟩,?_⟩
  rintro m σ' H' ⟨rfl,rfl,rfl⟩
  refine ⟨_,_,rfl,rfl,_,rfl,aL (show ¬ (10:Int) ^ Int.toNat 60≤n from Int.not_le.mpr h1) ?_⟩
  refine ⟨.inl ⟨rfl,_,SqL.of e1⟩,n,rfl,Lc (by have:=e60;omega),l,_,_,rfl,rfl,e1,by decide,rfl,l,[.str (tx n)],rfl,SqL.of AG,fun r hr=>?_⟩
  have s2:AO H (upd H' l (.lst ([]++[V.str (tx n)]))):=s1.Ma hl
  refine AV (o:=WA r l 1) hr fun H2 s3 e2=>?_
  refine ⟨"", r,l,[tx n],rfl,rfl,e2,SqL.of (s3 _ _ AG),?_,?_⟩
  ·have e0:(Str.ofString "").length=0:=rfl
   simp
   have sz:sizeLine=16777216:=sizeLine_eq
   omega
  ·have e:Txt.join "" [tx n]=tx n:=eq_of_beq (PyProof.Rows.join_plain_closes "" [tx n])
   show Q (.str (Txt.join "" [tx n])) _
   rw [e]
   exact k _ (((s2.trans s3)).Ma (s2.free hr))
theorem NI (T:Tx K mg ad):Ao P w K mg base CX0 2 ad.Bt ad.CW ["number"] YJ:=by
 have G_figures_of:=A6.mk (RT (P:=P) (w:=w) (base:=base) T) T.PR T.CQ.kp T.Pl
 refine T.Bv.ok IP (fun vs H Q E h=>?_) (fun cdv A outer s H vs Q E hr h=>?_)
 ·obtain ⟨n,rfl,_⟩:=h
  rfl
 ·obtain ⟨n,rfl,hn,k⟩:=h
  have nd:=IP.nd
  refine ⟨_,(AE (A4 (AQ O7 (pvC 0) AD (AX _))
    (AF (AS (AN Hf AI (AJ G_figures_of hr (AA (Sh Mh (pvC 0)) AB)))))
    Ab)
    (AF (AS (AJ G_figures_of hr (AA (pvC 0) AB))))),?_⟩
  have e:=e60
  have sz:sizeLine=16777216:=sizeLine_eq
  unfold Ee at k
  refine ⟨_,rfl,NY (fun h=>?_) fun h=>?_⟩
  ·rw [if_pos h] at k
   refine ⟨-n,rfl,by omega,by omega,fun H1 s1=>⟨_,_,rfl,rfl,?_,k H1 s1⟩⟩
   have:=Q8 (n:=-n) (by omega) (by omega)
   have e1:(("-" : Str)).length=1:=rfl
   omega
  ·rw [if_neg h] at k
   exact ⟨n,rfl,by omega,by omega,k⟩
theorem PD (T:Tx K mg ad):Ao P w K mg base CX0 2 ad.C3 ad.EG ["word"] Zd:=by
 have G_is_made_of:=A6.mk (Jl (P:=P) (w:=w) (base:=base) T) T.Kw T.Bm.kp T.LF
 refine T.DB.ok Kc (fun vs H Q E h=>?_) (fun cdv A outer s H vs Q E hr h=>?_)
 ·obtain ⟨z,rfl,_⟩:=h
  rfl
 ·obtain ⟨z,rfl,hz,k⟩:=h
  obtain ⟨t_MOST_SIGNS,h_MOST_SIGNS⟩:=T.Em
  obtain ⟨t_FIGURES,h_FIGURES⟩:=T.HH
  have nd:=Kc.nd
  refine ⟨_,(AE (A4 (AQ RM (AU F8 (by rfl) T.BS PySem.boot_len (AA (pvC 0) AB)) (Bg (v:=.int 60) (by rfl) h_MOST_SIGNS ⟨t_MOST_SIGNS,rfl⟩) (AX _))
    (AF (AS Bx))
    Ab)
    (AE (psl 1 nd (Ff (DU (CA (K:=K) F.plainAttrs_str F.slot_str_startswith F.type_str_startswith Jn (pvC 0) (AA AI AB))) (AY RE (pvC 0) (AZ AD) Aj) (pvC 0)))
    (AE (A4 (PW.pt (G3 (AQ Cj (pvC 1) AI (AX _)) (Ia (LX (DU (AJ G_is_made_of hr (AA (pvC 1) (AA (Bg (v:=.str UO) (by rfl) h_FIGURES ⟨t_FIGURES,rfl⟩) AB))))))))
    (AF (AS Bx))
    Ab)
    (AE (A4 (PW.pt (Eh (DU (CA (K:=K) F.plainAttrs_str F.slot_str_startswith F.type_str_startswith Jn (pvC 1) (AA AI AB))) (FZ (AQ Jk (pvC 0) AI (AX _)))))
    (AF (AS Bx))
    Ab)
    (AF (AS (Aa LA (by rfl) T.Lr PyProof.Rows.boot_int (AA (pvC 0) AB)))))))),?_⟩
  have sz:sizeLine=16777216:=sizeLine_eq
  have hb:=Nj z
  have no:acc z=false→∀H',AO H H'→Q .non H':=fun e H' s=>by
   have q:=k H' s
   rw [PJ e] at q
   exact q
  refine ⟨z,rfl,by omega,_,rfl,By (fun e1=>?_) fun e1=>?_⟩
  ·exact no (by unfold acc;rw [e1];rfl) H (AO.refl H)
  have key:∀R:VK,R (.str (A8 z)) H→if Txt.startswith z "-" = true then tSl Ya (IE 0) (Py (tC (.int 1))) KR [some (.str z),none] H R else IE 0 [some (.str z),none] H R:=fun R q=>by
   unfold A8 at q
   refine By (fun e=>?_) fun e=>?_
   ·rw [if_pos e] at q
    exact ⟨_,rfl,z,rfl,by omega,q⟩
   ·rw [if_neg (by rw [e];exact Bool.false_ne_true)] at q
    exact q
  refine ⟨rfl,z,_,rfl,rfl,_,rfl,key _ ?_⟩
  refine ⟨rfl,_,rfl,By (fun e2=>?_) fun e2=>?_⟩
  ·exact Ek (no (by unfold acc;rw [e1,e2];rfl) H (AO.refl H))
  refine ⟨A8 z,FIG,rfl,by omega,fun H1 s1=>⟨_,rfl,By (fun e3=>?_) fun e3=>?_⟩⟩
  ·have e3:(B9 (A8 z)).all (pS FIG)=false:=by simpa using e3
   exact no (by unfold acc;rw [e1,e2,e3];rfl) H1 s1
  have e3:(B9 (A8 z)).all (pS FIG)=true:=by simpa using e3
  have fin:(Txt.startswith (A8 z) "0" && !decide (V.str z=V.str "0"))=false→acc z=true:=fun e=>by unfold acc;rw [e1,e2,e3,e];rfl
  have last:acc z=true→∃(z':Str) (n:Int),[V.str z]=[.str z']/\PySem.intText? z'=some n/\z'.length≤640/\Q (.int n) H1:=fun e=>by
   obtain ⟨n,e4,e5,_⟩:=NM z e
   have q:=k H1 s1
   rw [e5] at q
   have:¬ (60:Int)<z.length:=of_decide_eq_false e1
   exact ⟨z,n,rfl,e4,by omega,q⟩
  refine ⟨rfl,_,_,rfl,rfl,_,rfl,By (fun e4=>?_) fun e4=>?_⟩
  ·refine ⟨rfl,_,rfl,By (fun e5=>?_) fun e5=>?_⟩
   ·exact no (by unfold acc;rw [e1,e2,e3,e4,e5];rfl) H1 s1
   ·exact last (fin (by rw [e4,e5];rfl))
  ·exact DJ (last (fin (by rw [e4];rfl)))
theorem X8 {v:V}(h:Wy v):(Oo v).length≤60000:=by
 rcases h with ⟨n,rfl,h⟩|⟨z,rfl,h⟩
 ·have:=QQ h
  show (Ee n).length≤_
  omega
 ·exact h
theorem Hh (T:Tx K mg ad):Ao P w K mg base CX0 3 ad.FO ad.GB ["parts"] YS:=by
 have G_number_text:=A6.mk (NI (P:=P) (w:=w) (base:=base) T) T.Ny T.Bv.kp T.N8
 refine T.Cc.ok M1 (fun vs H Q E h=>?_) (fun cdv A outer s H vs Q E hr h=>?_)
 ·obtain ⟨l,xs,rfl,_⟩:=h
  rfl
 ·obtain ⟨l,xs,rfl,e,hl,hw,k⟩:=h
  have nd:=M1.nd
  refine ⟨_,(AF (AS (CA (K:=K) F.plainAttrs_str F.slot_str_join F.type_str_join (Hi (K:=K)) AI (AA (pcm (AH JI) [] trivial (RJ 0) (fun _ _ _ _=>Fb) (fun _ _ _ _=>(Ff (DU (AU (EM (K:=K)) (by rfl) T.Al PyProof.Rows.boot_isinstance (AA (pvC 0) (AA (He (v:=.ty "str") (by rfl) T.Cp PyProof.Rows.boot_str rfl) AB)))) (pvC 0) (AJ G_number_text hr (AA (pvC 0) AB))))) AB)))),?_⟩
  have sz:sizeLine=16777216:=sizeLine_eq
  refine ⟨rfl,xs,e,fun J hJ=>JU (fun x=>.str (Oo x)) hJ (by omega) (fun x H1 R hx s1 q=>?_) fun H1 D s1 _ eD=>?_⟩
  ·rcases hw x hx with ⟨n,rfl,h⟩|⟨z,rfl,hz⟩
   ·exact ⟨.int n, "str", .type "int", false,rfl,.int n,rfl,_,rfl,DJ ⟨n,rfl,h,q⟩⟩
   ·exact ⟨.str z, "str", .type "str", true,rfl,.str z,rfl,_,rfl,Ek (q H1 (AO.refl _))⟩
  ·have j:=Mi (B:=60000) (zs:=xs.map Oo) fun z hz=>by obtain ⟨v,hv,rfl⟩:=List.mem_map.mp hz;exact X8 (hw v hv)
   have:(xs.map Oo).length * 60000≤9 * 60000:=Nat.mul_le_mul_right _ (by rw [List.length_map];exact hl)
   have e1:(" " : Str).length=1:=rfl
   refine ⟨" ", D,xs.map Oo,rfl,rfl,SqL.of ?_,by rw [List.length_map,e1];omega,k _ s1⟩
   rw [eD,List.map_map]
   rfl
def Zh:Sp:=fun vs H Q _=>∃n:Int,vs=[.int n]/\n.natAbs<10 ^ 60/\∀H',AO H H'→Q (.str (Gp [.str "end", .int n])) H'
theorem MO (T:Tx K mg ad):Ao P w K mg base CX0 4 ad.Dx ad.FE ["many"] Zh:=by
 have G_line_of:=A6.mk (Hh (P:=P) (w:=w) (base:=base) T) T.JN T.Cc.kp T.JW
 refine T.DF.ok MC (fun vs H Q E h=>?_) (fun cdv A outer s H vs Q E hr h=>?_)
 ·obtain ⟨n,rfl,_⟩:=h
  rfl
 ·obtain ⟨n,rfl,hn,k⟩:=h
  have nd:=MC.nd
  refine ⟨_,(AF (AS (AJ G_line_of hr (AA (Ak (AA AI (AA (pvC 0) AB))) AB)))),?_⟩
  refine ⟨le1 rfl,fun l hl=>⟨l,_,rfl,.inl AG,le1 rfl,fun v hv=>?_,fun H' s'=>k H' ((AO.Q7 hl).trans s')⟩⟩
  simp only [List.mem_cons,List.not_mem_nil,or_false] at hv
  rcases hv with rfl|rfl
  ·exact .inr ⟨_,rfl,by decide⟩
  ·exact .inl ⟨n,rfl,hn⟩
theorem Gy (T:Tx K mg ad):Ao P w K mg base CX0 3 ad.CI ad.DK ["words"] YO:=by
 have G_number_of:=A6.mk (PD (P:=P) (w:=w) (base:=base) T) T.Qd T.DB.kp T.Q0
 refine T.BO.ok Jc (fun vs H Q E h=>?_) (fun cdv A outer s H vs Q E hr h=>?_)
 ·obtain ⟨l,ws,rfl,_⟩:=h
  rfl
 ·obtain ⟨l,ws,rfl,e,hl,hw,k⟩:=h
  have nd:=Jc.nd
  refine ⟨_,(AF (AS (pcm (AH F3) [] trivial (RJ 0) (fun _ _ _ _=>Fb) (fun _ _ _ _=>(AJ G_number_of hr (AA (pvC 0) AB)))))),?_⟩
  have sz:sizeLine=16777216:=sizeLine_eq
  refine ⟨ws.map V.str,.inl e,fun J hJ=>JU (fun x=>Ae (Oo x)) hJ (by rw [List.length_map];omega) (fun x H1 R hx s1 q=>?_) fun H1 D s1 nD eD=>k _ D s1 nD (by rw [eD,List.map_map];rfl)⟩
  obtain ⟨z,hz,rfl⟩:=List.mem_map.mp hx
  exact ⟨z,rfl,hw z hz,q⟩
theorem Kv (T:Tx K mg ad):Ao P w K mg base CX0 2 ad.C6 ad.EJ ["numbers"] Zm:=by
 have G_is_whole:=A6.mk (Ie (P:=P) (w:=w) (base:=base) T) T.KH T.CP.kp T.KL
 refine T.B8.ok Kg (fun vs H Q E h=>?_) (fun cdv A outer s H vs Q E hr h=>?_)
 ·obtain ⟨l,xs,rfl,_⟩:=h
  rfl
 ·obtain ⟨l,xs,rfl,e,hl,hw,k⟩:=h
  have nd:=Kg.nd
  refine ⟨_,(AF (AS (AU (JA (K:=K) rfl) (by rfl) T.OA PyProof.Rows.boot_all (AA (pcm (AH Gm) [] trivial (RJ 0) (fun _ _ _ _=>Fb) (fun _ _ _ _=>(AJ G_is_whole hr (AA (pvC 0) AB)))) AB)))),?_⟩
  have sz:sizeLine=16777216:=sizeLine_eq
  refine ⟨xs,e,fun J hJ=>JU (fun x=>.bl (Cg x)) hJ (by omega) (fun x H1 R hx s1 q=>⟨x,rfl,hw x hx,q H1 (AO.refl _)⟩) fun H1 D s1 nD eD=>⟨D,xs.map Cg,rfl,SqL.of (by rw [eD,List.map_map];rfl),?_⟩⟩
  rw [List.all_map]
  exact k _ s1
section
open PySem.Spec
def oIs:Option Key→Value→Bool
 | none,.none=>true
 | none,_=>false
 | some k,v=>Il k v
theorem EB {k:Option Key}{v:Value}(h:oIs k v=true):(k=none/\v=.none)\/∃q,k=some q/\Il q v=true:=by
 cases k with
 | none=>cases v <;> first|exact .inl ⟨rfl,rfl⟩|cases h
 | some q=>exact .inr ⟨q,rfl,h⟩
theorem VP {q:Key}(h:Il q .none=true):False:=by
 cases q <;> cases h
def noK (prog:Program) (w:World):PySem.KeyKind prog w (Option Key) where
 is:=oIs
 hash:=fun k=>match k with|none=>reduceHash 0xFCA86420|some q=>aI w q
 inj:=fun v a b ha hb=>by
  rcases EB ha with ⟨rfl,rfl⟩|⟨p,rfl,hp⟩ <;> rcases EB hb with ⟨rfl,e⟩|⟨q,rfl,hq⟩
  ·rfl
  ·exact (VP hq).elim
  ·rw [e] at hp;exact (VP hp).elim
  ·rw [(A5 prog w).inj v p q hp hq]
 byValue:=fun k v h=>by
  rcases EB h with ⟨rfl,rfl⟩|⟨p,rfl,hp⟩
  ·rfl
  ·exact (A5 prog w).byValue p v hp
 pyHash:=fun hv h=>by
  rcases EB hv with ⟨rfl,rfl⟩|⟨p,rfl,hp⟩
  ·exact W.pyHash_slot (T := "NoneType") rfl F.slot_NoneType_hash F.entry_NoneType_hash (F.args_NoneType_hash_1 _) (beq_builtin_none _) (.inl rfl) (wpAny_bind (wpAny_pure (wpAny_bind (wpAny_mkInt (wpAny_pure ⟨_,_,rfl,h⟩)))))
  ·exact (A5 prog w).pyHash hp h
 eqBool:=fun {A E s a b u v Q} hu hv h=>by
  rcases EB hu with ⟨rfl,rfl⟩|⟨p,rfl,hp⟩ <;> rcases EB hv with ⟨rfl,rfl⟩|⟨q,rfl,hq⟩
  ·exact SeqAt.EqAt.same _ prog w E Q (by simpa using h)
  ·rcases A7 hq with ⟨i,t,rfl,rfl⟩|⟨x,t,rfl,rfl⟩
   ·exact SeqAt.EqAt.none_int i t prog w E Q (by simpa using h)
   ·exact SeqAt.EqAt.none_str x t prog w E Q (by simpa using h)
  ·rcases A7 hp with ⟨i,t,rfl,rfl⟩|⟨x,t,rfl,rfl⟩
   ·exact SeqAt.EqAt.int_none i t prog w E Q (by simpa using h)
   ·exact SeqAt.EqAt.str_none x t prog w E Q (by simpa using h)
  ·exact (A5 prog w).eqBool hp hq (by simpa using h)
 «strs»:=fun k x t v h=>by
  rcases EB h with ⟨_,e⟩|⟨p,rfl,hp⟩
  ·cases e
  ·exact (A5 prog w).strs p x t v hp
variable {X:Cx}{i o:Expr}{ty td:TE}
def bA (H:Hp) (a:Addr) (y:V) (b:Bool):Prop:=∃kvs,H a=some (.dK kvs)/\((∃k,y=kV k/\b=(Bc kvs k).isSome)\/(y=.non/\b=false))
def ZV (ty td:TE):TE:=fun σ H Q=>ty σ H fun y H1=>td σ H1 fun x H2=>onR x fun a=>∃b,bA H2 a y b/\Q (.bl b) H2
unseal PC PE in
theorem Sk (hu:X.A.units+1<cLine) (hi:PE X i ty) (ho:PE X o td):PC X .In i o (ZV ty td):=by
 intro pins s σ H Q I h
 refine thn (hi pins s σ H _ I h) fun iv s1 ⟨y,H1,I1,ry,q1⟩=>thn (ho pins s1 σ H1 _ I1 q1) fun u s2 ⟨x,H2,I2,rx,q2⟩=>?_
 obtain ⟨a,rfl,b,⟨kvs,e,g⟩,q2⟩:=Dh q2
 obtain rfl:u=Value.ref a:=rx
 rcases g with ⟨k,rfl,rfl⟩|⟨rfl,rfl⟩
 ·exact cG hu I2 (IJ.k e) ry fun s3 I3=>⟨.bl _,H2,I3,rfl,q2⟩
 ·cases ry
  obtain ⟨z,hd,vs,rel,dd⟩:=TB I2.hok e
  obtain ⟨o,es,ep,h1,h2,h3,h4,h5⟩:=dd.mapOf
  refine wpAny_in_of (knd:=noK X.prog X.w) (k:=none) (f:=fun k=>findBy oIs es k) rfl hd ⟨o,es,ep,h1,h2,h3,fun e he=>?_,fun k=>rfl⟩ ?_
  ·obtain ⟨k,hk,hh⟩:=h4 e he
   exact ⟨some k,hk,hh⟩
  ·have:findBy oIs es none=none:=by
    unfold findBy
    rw [Option.map_eq_none_iff,Array.find?_eq_none]
    intro e he hn
    obtain ⟨k,hk,_⟩:=h4 e he
    rcases EB hn with ⟨_,z⟩|⟨_,z,_⟩
    ·rw [z] at hk;exact VP hk
    ·cases z
   show EP X pins σ Q (.bool (findBy oIs es none).isSome) _
   rw [this]
   exact ⟨.bl false,H2,I2.tok _,rfl,q2⟩
end
def wds (z:Str):List Str:=Txt.split z " "
theorem UU (z:Str):((wds z).map (·.length)).sum+(wds z).length≤z.length+1:=PyProof.Rows.split_weight z " " (by decide)
theorem SK (z:Str):(wds z).length≤z.length+1:=by
 have:=UU z
 omega
theorem JG {z x:Str}(h:x∈wds z):x.length≤z.length:=by
 have q:=UU z
 have:∀{l:List Str},x∈l→x.length+l.length≤(l.map (·.length)).sum+l.length:=by
  intro l
  induction l with
  | nil=>intro h;cases h
  | cons a r ih =>
   intro h
   rw [List.map_cons,List.sum_cons,List.length_cons]
   rcases List.mem_cons.mp h with rfl|h
   ·omega
   ·have:=ih h;omega
 have h1:=this h
 have h2:0<(wds z).length:=List.length_pos_of_mem h
 omega
theorem Mt (z:Str):Txt.join " " (wds z)=z:=by
 have e:Txt.join " " (wds z)=Str.join " " (wds z):=eq_of_beq (PyProof.Rows.join_plain_closes _ _)
 rw [e]
 exact StrLaws.join_split z " "
theorem Om (z:Str):∃a r,wds z=a::r:=by
 cases h:wds z with
 | nil=>exact absurd h (P0 z 32)
 | cons a r=>exact ⟨a,r,rfl⟩
def Nr (ws:List Str) (a b c:Int):Prop:=∃x y z,ws=[("clock" : Str),x,y,z]/\Ae x=.int a/\Ae y=.int b/\Ae z=.int c/\0≤a/\a≤1000000000/\0≤b/\0≤c
def Mg (ws:List Str) (p s:Int) (k:Str) (t a:Int):Prop:=∃x y u v,ws=[("item" : Str),x,y,k,u,v]/\Ae x=.int p/\Ae y=.int s/\Jm k=true/\Ae u=.int t/\Ae v=.int a/\(p=2\/p=3)/\(s=0\/s=1)/\0≤t/\t≤1000000000
def Nq (ws:List Str) (p:Int) (k:Str) (s e c m l g:Int):Prop:=∃x y1 y2 y3 y4 y5 y6,ws=[("piece" : Str),x,k,y1,y2,y3,y4,y5,y6]/\Ae x=.int p/\Jm k=true/\Ae y1=.int s/\Ae y2=.int e/\Ae y3=.int c/\Ae y4=.int m/\Ae y5=.int l/\Ae y6=.int g/\(p=4\/p=5)
theorem A3 {x:V}(h:Cg x=true):∃n,x=.int n:=by
 cases x <;> first|exact ⟨_,rfl⟩|cases h
theorem V7 {a b:Int}{x:V}(h:GU a b x=true):∃n,x=.int n/\a≤n/\n≤b:=by
 cases x <;> first|cases h|exact ⟨_,rfl,by simpa [GU] using h⟩
def YV:Sp:=fun vs H Q _=>∃z:Str,vs=[.str z]/\z.length≤60000/\(∀H',AO H H'→(∀a b c,¬ Nr (wds z) a b c)→Q .non H')/\∀H' r a b c,AO H H'→Nr (wds z) a b c→H' r=some (.tup [.int a,.int b,.int c])→Q (.ref r) H'
theorem QP (T:Tx K mg ad):Ao P w K mg base CX0 4 ad.Dy ad.FG ["line"] YV:=by
 have G_numbers_of:=A6.mk (Gy (P:=P) (w:=w) (base:=base) T) T.Hj T.BO.kp T.Hs
 have G_are_whole:=A6.mk (Kv (P:=P) (w:=w) (base:=base) T) T.MR T.B8.kp T.MY
 have G_is_time:=A6.mk (NK (P:=P) (w:=w) (base:=base) T) T.ON T.EW.kp T.Oh
 refine T.CS.ok MD (fun vs H Q E h=>?_) (fun cdv A outer s H vs Q E hr h=>?_)
 ·obtain ⟨z,rfl,_⟩:=h
  rfl
 ·obtain ⟨z,rfl,hz,no,yes⟩:=h
  have nd:=MD.nd
  refine ⟨_,(AE (psl 1 nd (CA (K:=K) F.plainAttrs_str F.slot_str_split F.type_str_split Ig (pvC 0) (AA AI AB)))
    (AE (psl 2 nd (AJ G_numbers_of hr (AA (AY (Ah (K:=K)) (pvC 1) (AZ AD) Aj) AB)))
    (AE (A4 (PW.pt (G3 (AQ Jk (Bn K (pvC 1) AD) AI (AX _)) (G3 (AQ Jk (AU (AW (K:=K)) (by rfl) T.BS PySem.boot_len (AA (pvC 2) AB)) AD (AX _)) (Ia (LX (DU (AJ G_are_whole hr (AA (pvC 2) AB))))))))
    (AF (AS Bx))
    Ab)
    (AF (AS (Ff (PW.pt (Eh (DU (AJ G_is_time hr (AA (Bn K (pvC 2) AD) AB))) (FZ (AQ Sn (AU (UJ (K:=K) rfl) (by rfl) T.Pt PyProof.Rows.boot_min (AA (pvC 2) AB)) AD (AX _))))) (Aa Gz (by rfl) T.HX PyProof.Rows.boot_tuple (AA (pvC 2) AB)) Bx)))))),?_⟩
  have sz:sizeLine=16777216:=sizeLine_eq
  refine ⟨rfl,z, " ", rfl,rfl,by decide,by omega,fun l hl=>?_⟩
  have hw:=SK z
  have hm:=fun x (h:x∈wds z)=>JG h
  obtain ⟨w0,r,ew⟩:=Om z
  rw [ew] at no yes hw hm
  rw [show Txt.split z " " = w0::r from ew]
  refine AV (o:=.lst ((w0::r).map V.str)) hl fun H1 s1 e1=>?_
  refine ⟨_,rfl,l,_,rfl,SqL.of e1,fun l2 hl2=>?_⟩
  have ec:Jb ((w0::r).map V.str) (some 1) none=r.map V.str:=by
   rw [show (1:Int)=((1:Nat):Int) from rfl]
   unfold Jb
   rw [HT.Kl,HT.Mj,List.length_map]
   have:min 1 (w0::r).length=1:=by rw [List.length_cons];omega
   rw [this]
   exact List.take_of_length_le (by simp)
  rw [ec]
  refine AV (o:=.lst (r.map V.str)) hl2 fun H2 s2 e2=>?_
  rw [List.length_cons] at hw
  refine ⟨l2,r,rfl,e2,by omega,fun x hx=>Nat.le_trans (hm x (List.mem_cons_of_mem _ hx)) hz,fun H3 l3 s3 _ e3=>?_⟩
  have S1:=s2.trans s3
  have S:=s1.trans S1
  refine ⟨_,_,SqL.of (S1 _ _ e1),AL (j:=0) rfl,rfl,_,rfl,Qn (K4 (fun q1=>?_) fun q1=>Ek (no H3 S fun a b c ⟨_,_,_,e,_⟩=>q1 (List.cons.inj e).1))⟩
  subst q1
  refine ⟨_,.inl (SqL.of e3),rfl,_,rfl,Qn (Fx (fun q2=>?_) fun q2=>Ek (no H3 S fun a b c ⟨_,_,_,e,_⟩=>q2 (by rw [(List.cons.inj e).2];rfl)))⟩
  have q2:r.length=3:=by rw [List.length_map] at q2;omega
  obtain ⟨x,y,u,rfl⟩:∃x y u,r=[x,y,u]:=by
   match r,q2 with
   | [x,y,u],_=>exact ⟨x,y,u,rfl⟩
  refine ⟨l3,_,rfl,.inl e3,le1 rfl,fun v hv=>?_,fun H4 s4=>⟨_,rfl,By (fun q3=>?_) fun q3=>?_⟩⟩
  ·obtain ⟨x,_,rfl⟩:=List.mem_map.mp hv
   exact Fd x
  ·refine no H4 (S.trans s4) fun a b c ⟨_,_,_,e,e1,e2,e3,_⟩=>?_
   injection e with _ e
   injection e with h1 e
   injection e with h2 e
   injection e with h3 e
   subst h1 h2 h3
   rw [List.map_cons,List.map_cons,List.map_cons,e1,e2,e3] at q3
   cases q3
  have q3:(Cg (Ae x)&&(Cg (Ae y)&&(Cg (Ae u)&&true)))=true:=by simpa using q3
  simp only [Bool.and_eq_true,and_true] at q3
  obtain ⟨a,ea⟩:=A3 q3.1
  obtain ⟨b,eb⟩:=A3 q3.2.1
  obtain ⟨c,ec⟩:=A3 q3.2.2
  rw [List.map_cons,List.map_cons,List.map_cons,ea,eb,ec] at e3
  have e4:=s4 _ _ e3
  have S4:=S.trans s4
  have un:∀a' b' c',Nr [("clock" : Str),x,y,u] a' b' c'→0≤a/\a≤1000000000/\0≤b/\0≤c:=fun a' b' c' ⟨_,_,_,e,e1,e2,e3,q⟩=>by
   injection e with _ e
   injection e with h1 e
   injection e with h2 e
   injection e with h3 e
   subst h1 h2 h3
   rw [ea] at e1
   rw [eb] at e2
   rw [ec] at e3
   cases e1
   cases e2
   cases e3
   exact q
  refine ⟨_,_,SqL.of e4,AL (j:=0) rfl,.int a,rfl,.int a,_,rfl,By (fun q4=>?_) fun q4=>DJ (no H4 S4 fun a' b' c' h=>?_)⟩
  ·have q4:0≤a/\a≤1000000000:=by simpa [GU] using q4
   refine ⟨l3,[a,b,c],rfl,SqL.of e4,Nat.succ_pos _,fun M hM hle=>⟨_,_,rfl,rfl,_,rfl,NY (fun q5=>?_) fun q5=>?_⟩⟩
   ·have hb:=hle b (by simp)
    have hc:=hle c (by simp)
    exact ⟨l3,_,rfl,.inl ⟨SqL.of e4,fun p hp=>yes _ p a b c (S4.upd hp) ⟨_,_,_,rfl,ea,eb,ec,q4.1,q4.2,by omega,by omega⟩ AG⟩⟩
   ·refine no H4 S4 fun a' b' c' h=>?_
    have:=un _ _ _ h
    simp only [List.mem_cons,List.not_mem_nil,or_false] at hM
    omega
  ·have:=un _ _ _ h
   rw [show GU 0 1000000000 (.int a)=true by simp [GU];omega] at q4
   cases q4
theorem Sc.flat {v:V}(h:Sc v):Jo v=true:=by cases h <;> rfl
def Two (H:Hp) (d:Addr) (p q:Int):Prop:=∃x y,H d=some (.dK [(.inl p,x),(.inl q,y)])
def Nb (p q:Int):V→Bool
 | .int i=>decide (i=p\/i=q)|_=>false
theorem SO {H:Hp}{d:Addr}{p q:Int}(h:Two H d p q) {v:V}(hv:Sc v) (hs:YH v=false):bA H d v (Nb p q v):=by
 obtain ⟨x,y,e⟩:=h
 refine ⟨_,e,?_⟩
 cases hv with
 | non=>exact .inr ⟨rfl,rfl⟩
 | str z=>cases hs
 | int i =>
  refine .inl ⟨.inl i,rfl,?_⟩
  show decide (i=p\/i=q)=_
  by_cases h1:p=i
  ·subst h1;simp [Bc]
  ·by_cases h2:q=i
   ·subst h2;simp [Bc,h1]
   ·simp [Bc,h1,h2,show ¬ i=p from fun z=>h1 z.symm,show ¬ i=q from fun z=>h2 z.symm]
theorem NN (z:Str):YH (Ae z)=false:=by
 rcases G9 z with e|⟨n,e,_⟩ <;> rw [e] <;> rfl
theorem Na {p q:Int}{x:V}(h:Nb p q x=true):∃n,x=.int n/\(n=p\/n=q):=by
 cases x <;> first|cases h|exact ⟨_,rfl,of_decide_eq_true h⟩
def itG (x y:Str) (k:Str) (u v:Str):Bool:=Nb 2 3 (Ae x)&&(inV (Ae y) [.int 0,.int 1]&&(Jm k&&(GU 0 1000000000 (Ae u)&&Cg (Ae v))))
theorem aN {x:V}(h:Sc x):inV x [.int 0,.int 1]=Nb 0 1 x:=by
 cases h with
 | non=>rfl
 | str z=>rfl
 | int i =>
  show (decide ((0:Int)=i)||(decide ((1:Int)=i)||false))=decide (i=0\/i=1)
  by_cases h1:i=0
  ·subst h1;rfl
  ·by_cases h2:i=1
   ·subst h2;rfl
   ·simp [h1,h2,show ¬ (0:Int)=i from fun z=>h1 z.symm,show ¬ (1:Int)=i from fun z=>h2 z.symm]
theorem K5 {x y k u v:Str}:itG x y k u v=true↔∃p s t a,Mg [("item" : Str),x,y,k,u,v] p s k t a/\Ae x=.int p/\Ae y=.int s/\Ae u=.int t/\Ae v=.int a:=by
 unfold itG
 rw [aN (Fd y)]
 simp only [Bool.and_eq_true]
 constructor
 ·rintro ⟨h1,h2,h3,h4,h5⟩
  obtain ⟨p,e1,q1⟩:=Na h1
  obtain ⟨s,e2,q2⟩:=Na h2
  obtain ⟨t,e4,q4⟩:=V7 h4
  obtain ⟨a,e5⟩:=A3 h5
  exact ⟨p,s,t,a,⟨_,_,_,_,rfl,e1,e2,h3,e4,e5,q1,q2,q4.1,q4.2⟩,e1,e2,e4,e5⟩
 ·rintro ⟨p,s,t,a,⟨_,_,_,_,_,_,_,h3,_,_,q1,q2,q3,q4⟩,e1,e2,e4,e5⟩
  rw [e1,e2,e4,e5]
  exact ⟨decide_eq_true q1,decide_eq_true q2,h3,by simp [GU,q3,q4],rfl⟩
def YT:Sp:=fun vs H Q _=>∃(l dj:Addr) (ws:List Str),vs=[.ref l,.ref dj]/\H l=some (.lst (ws.map V.str))/\ws≠[]/\(∀x∈ws,x.length≤60000)/\Two H dj 2 3 /\
 (∀H',AO H H'→(∀p s k t a,¬ Mg ws p s k t a)→Q .non H')/\∀H' r p s k t a,AO H H'→Mg ws p s k t a→H' r=some (.tup [.int p,.int s,.str k,.int t,.int a])→Q (.ref r) H'
theorem RS (T:Tx K mg ad):Ao P w K mg base CX0 4 ad.FQ ad.GD ["words", "joins"] YT:=by
 have G_numbers_of:=A6.mk (Gy (P:=P) (w:=w) (base:=base) T) T.Hj T.BO.kp T.Hs
 have G_is_name:=A6.mk (NL (P:=P) (w:=w) (base:=base) T) T.OO T.EX.kp T.Oi
 have G_is_time:=A6.mk (NK (P:=P) (w:=w) (base:=base) T) T.ON T.EW.kp T.Oh
 have G_is_whole:=A6.mk (Ie (P:=P) (w:=w) (base:=base) T) T.KH T.CP.kp T.KL
 refine T.FX.ok M4 (fun vs H Q E h=>?_) (fun cdv A outer s H vs Q E hr h=>?_)
 ·obtain ⟨l,dj,ws,rfl,_⟩:=h
  rfl
 ·obtain ⟨l,dj,ws,rfl,e0,hn,hm,tw,no,yes⟩:=h
  have nd:=M4.nd
  refine ⟨_,(AE (A4 (PW.pt (G3 (AQ Jk (Bn K (pvC 0) AD) AI (AX _)) (Ia (AQ Jk (AU (AW (K:=K)) (by rfl) T.BS PySem.boot_len (AA (pvC 0) AB)) AD (AX _)))))
    (AF (AS Bx))
    Ab)
    (AE (psl 2 nd (Aa Gz (by rfl) T.HX PyProof.Rows.boot_tuple (AA (AN A1 (AN A1 (AJ G_numbers_of hr (AA (AY (Ah (K:=K)) (pvC 0) (AZ AD) (AZ AD)) AB)) (AY (Ah (K:=K)) (pvC 0) (AZ AD) (AZ AD))) (AJ G_numbers_of hr (AA (AY (Ah (K:=K)) (pvC 0) (AZ AD) Aj) AB))) AB)))
    (Ei (psl 3 nd (Cs (U9 (Sk hr.u1 (Ci K (pvC 2) AD) (pvC 1))) (Cs (Fc (Ex (K:=K)) (Ci K (pvC 2) AD) (Av (AA AD (AA AD AB))) (by with_unfolding_all rfl)) (Cs (AJ G_is_name hr (AA (Ci K (pvC 2) AD) AB)) (Cs (AJ G_is_time hr (AA (Ci K (pvC 2) AD) AB)) (Gw (AJ G_is_whole hr (AA (Ci K (pvC 2) AD) AB))))))))
    (AF (AS (Ff (DU (pvC 3)) (pvC 2) Bx)))))),?_⟩
  have sz:sizeLine=16777216:=sizeLine_eq
  obtain ⟨w0,r,rfl⟩:=List.exists_cons_of_ne_nil hn
  refine ⟨_,_,SqL.of e0,AL (j:=0) rfl,rfl,_,rfl,Qn (K4 (fun q1=>?_) fun q1=>Ek (no H (AO.refl H) fun p s k t a ⟨_,_,_,_,e,_⟩=>q1 (List.cons.inj e).1))⟩
  subst q1
  refine ⟨_,.inl (SqL.of e0),rfl,_,rfl,Qn (Fx (fun q2=>?_) fun q2=>no H (AO.refl H) fun p s k t a ⟨_,_,_,_,e,_⟩=>q2 (by rw [e];rfl))⟩
  have q2:r.length=5:=by rw [List.length_map,List.length_cons] at q2;omega
  obtain ⟨x,y,k,u,v,rfl⟩:∃x y k u v,r=[x,y,k,u,v]:=by
   match r,q2 with
   | [x,y,k,u,v],_=>exact ⟨x,y,k,u,v,rfl⟩
  have hm':∀z∈([x,y,k,u,v]:List Str),z.length≤60000:=fun z hz=>hm z (List.mem_cons_of_mem _ hz)
  refine ⟨_,rfl,_,rfl,l,_,rfl,SqL.of e0,fun l1 h1=>?_⟩
  refine AV (o:=.lst ([x,y].map V.str)) h1 fun H1 s1 e1=>?_
  refine ⟨l1,[x,y],rfl,e1,le1 rfl,fun z hz=>hm' z (by simp at hz;rcases hz with rfl|rfl <;> simp),fun H2 l2 s2 _ e2=>?_⟩
  have S2:=s1.trans s2
  refine ⟨_,rfl,_,rfl,l,_,rfl,SqL.of (S2 _ _ e0),fun l3 h3=>?_⟩
  refine AV (o:=.lst [.str k]) h3 fun H3 s3 e3=>?_
  refine ⟨l2,l3,_,_,rfl,rfl,s3 _ _ e2,e3,by rw [sz];exact le1 rfl,fun l4 h4=>?_⟩
  refine AV (o:=.lst [Ae x,Ae y,.str k]) h4 fun H4 s4 e4=>?_
  have S4:=(S2.trans s3).trans s4
  refine ⟨_,rfl,l,_,rfl,SqL.of (S4 _ _ e0),fun l5 h5=>?_⟩
  refine AV (o:=.lst ([u,v].map V.str)) h5 fun H5 s5 e5=>?_
  refine ⟨l5,[u,v],rfl,e5,le1 rfl,fun z hz=>hm' z (by simp at hz;rcases hz with rfl|rfl <;> simp),fun H6 l6 s6 _ e6=>?_⟩
  have S46:=s5.trans s6
  refine ⟨l4,l6,_,_,rfl,rfl,S46 _ _ e4,e6,by rw [sz];exact le1 rfl,fun l7 h7=>?_⟩
  refine AV (o:=.lst [Ae x,Ae y,.str k,Ae u,Ae v]) h7 fun H7 s7 e7=>?_
  refine ⟨l7,_,rfl,.inl ⟨SqL.of e7,fun l8 h8=>?_⟩⟩
  refine AV (o:=.tup [Ae x,Ae y,.str k,Ae u,Ae v]) h8 fun H8 s8 e8=>?_
  have S8:=((S4.trans S46).trans s7).trans s8
  have fin:∀H9,AO H8 H9→(if itG x y k u v=true then Q (.ref l8) H9 else Q .non H9):=fun H9 s9=>by
   have S9:=S8.trans s9
   have e9:=s9 _ _ e8
   refine By (fun q=>?_) fun q=>no H9 S9 fun p s k' t a h=>?_
   ·obtain ⟨p,s,t,a,h,h1,h2,h3,h4⟩:=K5.mp q
    rw [h1,h2,h3,h4] at e9
    exact yes H9 l8 p s k t a S9 h e9
   ·have h':=h
    obtain ⟨x',y',u',v',e,e1,e2,e3,e4,e5,_⟩:=h
    injection e with _ e
    injection e with i1 e
    injection e with i2 e
    injection e with i3 e
    injection e with i4 e
    injection e with i5 e
    subst i1 i2 i3 i4 i5
    rw [K5.mpr ⟨p,s,t,a,h',e1,e2,e4,e5⟩] at q
    cases q
  refine fun _ _ _ _ z1=>⟨_,_,SqT.of e8,AL (j:=0) rfl,_,SO (by obtain ⟨a,b,q⟩:=tw;exact ⟨a,b,S8 _ _ q⟩) (Fd x) (NN x),?_⟩
  have fin2:∀b H9,AO H8 H9→itG x y k u v=b→_:=fun b H9 s9 e=>z1 [some (.ref l),some (.ref dj),some (.ref l8),some (.bl b)] H9 ⟨_,rfl,by have:=fin H9 s9;rw [e] at this;exact this⟩
  refine ⟨_,rfl,By (fun g1=>?_) fun g1=>fin2 false H8 (AO.refl _) (by unfold itG;rw [g1];rfl)⟩
  refine ⟨_,_,SqT.of e8,AL (j:=1) rfl,le1 rfl,fun l9 h9=>?_⟩
  refine AV (o:=.tup [.int 0,.int 1]) h9 fun H9 s9 e9=>?_
  refine ⟨l9,_,rfl,.inr (SqT.of e9),?_,rfl,_,rfl,By (fun g2=>?_) fun g2=>fin2 false H9 s9 (by unfold itG;rw [g1,show inV (Ae y) [.int 0,.int 1]=false from g2];rfl)⟩
  ·exact (Fd y).flat
  have g2:inV (Ae y) [.int 0,.int 1]=true:=g2
  refine ⟨_,_,SqT.of (s9 _ _ e8),AL (j:=2) rfl,k,rfl,hm' k (by simp),fun HA sA=>⟨_,rfl,By (fun g3=>?_) fun g3=>fin2 false HA (s9.trans sA) (by unfold itG;rw [g1,g2,g3];rfl)⟩⟩
  have SA:=s9.trans sA
  have eA:=SA _ _ e8
  refine ⟨_,_,SqT.of eA,AL (j:=3) rfl,_,rfl,Fd u,_,rfl,By (fun g4=>?_) fun g4=>fin2 false HA SA (by unfold itG;rw [g1,g2,g3,g4];rfl)⟩
  exact ⟨_,_,SqT.of eA,AL (j:=4) rfl,_,rfl,Fd v,fin2 _ HA SA (by unfold itG;rw [g1,g2,g3,g4];rfl)⟩
def pcG (x k y1 y2 y3 y4 y5 y6:Str):Bool:=Nb 4 5 (Ae x)&&(Jm k&&([y1,y2,y3,y4,y5,y6].map Ae).all Cg)
theorem Mn {x k y1 y2 y3 y4 y5 y6:Str}:pcG x k y1 y2 y3 y4 y5 y6=true↔∃p s e c m l g,Nq [("piece" : Str),x,k,y1,y2,y3,y4,y5,y6] p k s e c m l g/\Ae x=.int p/\[y1,y2,y3,y4,y5,y6].map Ae=[s,e,c,m,l,g].map V.int:=by
 unfold pcG
 simp only [Bool.and_eq_true,List.map_cons,List.map_nil,List.all_cons,List.all_nil,and_true]
 constructor
 ·rintro ⟨h1,h2,h3,h4,h5,h6,h7,h8⟩
  obtain ⟨p,e1,q1⟩:=Na h1
  obtain ⟨s,e3⟩:=A3 h3
  obtain ⟨e,e4⟩:=A3 h4
  obtain ⟨c,e5⟩:=A3 h5
  obtain ⟨m,e6⟩:=A3 h6
  obtain ⟨l,e7⟩:=A3 h7
  obtain ⟨g,e8⟩:=A3 h8
  exact ⟨p,s,e,c,m,l,g,⟨_,_,_,_,_,_,_,rfl,e1,h2,e3,e4,e5,e6,e7,e8,q1⟩,e1,by rw [e3,e4,e5,e6,e7,e8]⟩
 ·rintro ⟨p,s,e,c,m,l,g,⟨_,_,_,_,_,_,_,_,_,h2,_,_,_,_,_,_,q1⟩,e1,e⟩
  injection e with i1 e
  injection e with i2 e
  injection e with i3 e
  injection e with i4 e
  injection e with i5 e
  injection e with i6 e
  rw [e1,i1,i2,i3,i4,i5,i6]
  exact ⟨decide_eq_true q1,h2,rfl,rfl,rfl,rfl,rfl,rfl⟩
def YN:Sp:=fun vs H Q _=>∃(l dg:Addr) (ws:List Str),vs=[.ref l,.ref dg]/\H l=some (.lst (ws.map V.str))/\ws≠[]/\(∀x∈ws,x.length≤60000)/\Two H dg 4 5 /\
 (∀H',AO H H'→(∀p k s e c m l g,¬ Nq ws p k s e c m l g)→Q .non H')/\∀H' r p k s e c m l g,AO H H'→Nq ws p k s e c m l g→H' r=some (.tup [.int p,.str k,.int s,.int e,.int c,.int m,.int l,.int g])→Q (.ref r) H'
theorem QN (T:Tx K mg ad):Ao P w K mg base CX0 4 ad.Dt ad.E9 ["words", "groups"] YN:=by
 have G_numbers_of:=A6.mk (Gy (P:=P) (w:=w) (base:=base) T) T.Hj T.BO.kp T.Hs
 have G_is_name:=A6.mk (NL (P:=P) (w:=w) (base:=base) T) T.OO T.EX.kp T.Oi
 have G_are_whole:=A6.mk (Kv (P:=P) (w:=w) (base:=base) T) T.MR T.B8.kp T.MY
 refine T.D7.ok L8 (fun vs H Q E h=>?_) (fun cdv A outer s H vs Q E hr h=>?_)
 ·obtain ⟨l,dj,ws,rfl,_⟩:=h
  rfl
 ·obtain ⟨l,dj,ws,rfl,e0,hn,hm,tw,no,yes⟩:=h
  have nd:=L8.nd
  refine ⟨_,(AE (A4 (PW.pt (G3 (AQ Jk (Bn K (pvC 0) AD) AI (AX _)) (Ia (AQ Jk (AU (AW (K:=K)) (by rfl) T.BS PySem.boot_len (AA (pvC 0) AB)) AD (AX _)))))
    (AF (AS Bx))
    Ab)
    (AE (psl 2 nd (Aa Gz (by rfl) T.HX PyProof.Rows.boot_tuple (AA (AN A1 (AN A1 (AJ G_numbers_of hr (AA (AY (Ah (K:=K)) (pvC 0) (AZ AD) (AZ AD)) AB)) (AY (Ah (K:=K)) (pvC 0) (AZ AD) (AZ AD))) (AJ G_numbers_of hr (AA (AY (Ah (K:=K)) (pvC 0) (AZ AD) Aj) AB))) AB)))
    (Ei (psl 3 nd (Cs (U9 (Sk hr.u1 (Ci K (pvC 2) AD) (pvC 1))) (Cs (AJ G_is_name hr (AA (Ci K (pvC 2) AD) AB)) (Gw (AJ G_are_whole hr (AA (AY (KW (K:=K)) (pvC 2) (AZ AD) Aj) AB))))))
    (AF (AS (Ff (DU (pvC 3)) (pvC 2) Bx)))))),?_⟩
  have sz:sizeLine=16777216:=sizeLine_eq
  obtain ⟨w0,r,rfl⟩:=List.exists_cons_of_ne_nil hn
  refine ⟨_,_,SqL.of e0,AL (j:=0) rfl,rfl,_,rfl,Qn (K4 (fun q1=>?_) fun q1=>Ek (no H (AO.refl H) fun p k s e c m l g ⟨_,_,_,_,_,_,_,e,_⟩=>q1 (List.cons.inj e).1))⟩
  subst q1
  refine ⟨_,.inl (SqL.of e0),rfl,_,rfl,Qn (Fx (fun q2=>?_) fun q2=>no H (AO.refl H) fun p k s e c m l g ⟨_,_,_,_,_,_,_,e,_⟩=>q2 (by rw [e];rfl))⟩
  have q2:r.length=8:=by rw [List.length_map,List.length_cons] at q2;omega
  obtain ⟨x,k,y1,y2,y3,y4,y5,y6,rfl⟩:∃x k y1 y2 y3 y4 y5 y6,r=[x,k,y1,y2,y3,y4,y5,y6]:=by
   match r,q2 with
   | [x,k,y1,y2,y3,y4,y5,y6],_=>exact ⟨x,k,y1,y2,y3,y4,y5,y6,rfl⟩
  have hm':∀z∈([x,k,y1,y2,y3,y4,y5,y6]:List Str),z.length≤60000:=fun z hz=>hm z (List.mem_cons_of_mem _ hz)
  refine ⟨_,rfl,_,rfl,l,_,rfl,SqL.of e0,fun l1 h1=>?_⟩
  refine AV (o:=.lst ([x].map V.str)) h1 fun H1 s1 e1=>?_
  refine ⟨l1,[x],rfl,e1,le1 rfl,fun z hz=>hm' z (by simp at hz;simp [hz]),fun H2 l2 s2 _ e2=>?_⟩
  have S2:=s1.trans s2
  refine ⟨_,rfl,_,rfl,l,_,rfl,SqL.of (S2 _ _ e0),fun l3 h3=>?_⟩
  refine AV (o:=.lst [.str k]) h3 fun H3 s3 e3=>?_
  refine ⟨l2,l3,_,_,rfl,rfl,s3 _ _ e2,e3,by rw [sz];exact le1 rfl,fun l4 h4=>?_⟩
  refine AV (o:=.lst [Ae x,.str k]) h4 fun H4 s4 e4=>?_
  have S4:=(S2.trans s3).trans s4
  refine ⟨_,rfl,l,_,rfl,SqL.of (S4 _ _ e0),fun l5 h5=>?_⟩
  refine AV (o:=.lst ([y1,y2,y3,y4,y5,y6].map V.str)) h5 fun H5 s5 e5=>?_
  refine ⟨l5,[y1,y2,y3,y4,y5,y6],rfl,e5,le1 rfl,fun z hz=>hm' z (List.mem_cons_of_mem _ (List.mem_cons_of_mem _ hz)),fun H6 l6 s6 _ e6=>?_⟩
  have S46:=s5.trans s6
  refine ⟨l4,l6,_,_,rfl,rfl,S46 _ _ e4,e6,by rw [sz];exact le1 rfl,fun l7 h7=>?_⟩
  refine AV (o:=.lst (Ae x::.str k::[y1,y2,y3,y4,y5,y6].map Ae)) h7 fun H7 s7 e7=>?_
  refine ⟨l7,_,rfl,.inl ⟨SqL.of e7,fun l8 h8=>?_⟩⟩
  refine AV (o:=.tup (Ae x::.str k::[y1,y2,y3,y4,y5,y6].map Ae)) h8 fun H8 s8 e8=>?_
  have S8:=((S4.trans S46).trans s7).trans s8
  have fin:∀H9,AO H8 H9→(if pcG x k y1 y2 y3 y4 y5 y6=true then Q (.ref l8) H9 else Q .non H9):=fun H9 s9=>by
   have S9:=S8.trans s9
   have e9:=s9 _ _ e8
   refine By (fun q=>?_) fun q=>no H9 S9 fun p k' s e c m l g h=>?_
   ·obtain ⟨p,s,e,c,m,l,g,h,h1,h2⟩:=Mn.mp q
    rw [h1,h2] at e9
    exact yes H9 l8 p k s e c m l g S9 h e9
   ·have h':=h
    obtain ⟨_,_,_,_,_,_,_,e,f1,_,f3,f4,f5,f6,f7,f8,_⟩:=h
    injection e with _ e
    injection e with i1 e
    injection e with i2 e
    injection e with i3 e
    injection e with i4 e
    injection e with i5 e
    injection e with i6 e
    injection e with i7 e
    injection e with i8 e
    subst i1 i2 i3 i4 i5 i6 i7 i8
    rw [Mn.mpr ⟨p,s,_,c,m,l,g,h',f1,by rw [List.map_cons,f3,List.map_cons,f4,List.map_cons,f5,List.map_cons,f6,List.map_cons,f7,List.map_cons,f8];rfl⟩] at q
    cases q
  refine fun _ _ _ _ z1=>⟨_,_,SqT.of e8,AL (j:=0) rfl,_,SO (by obtain ⟨a,b,q⟩:=tw;exact ⟨a,b,S8 _ _ q⟩) (Fd x) (NN x),?_⟩
  have fin2:∀b H9,AO H8 H9→pcG x k y1 y2 y3 y4 y5 y6=b→_:=fun b H9 s9 e=>z1 [some (.ref l),some (.ref dj),some (.ref l8),some (.bl b)] H9 ⟨_,rfl,by have:=fin H9 s9;rw [e] at this;exact this⟩
  refine ⟨_,rfl,By (fun g1=>?_) fun g1=>fin2 false H8 (AO.refl _) (by unfold pcG;rw [g1];rfl)⟩
  refine ⟨_,_,SqT.of e8,AL (j:=1) rfl,k,rfl,hm' k (by simp),fun HA sA=>⟨_,rfl,By (fun g3=>?_) fun g3=>fin2 false HA sA (by unfold pcG;rw [g1,g3];rfl)⟩⟩
  refine ⟨_,rfl,l8,_,rfl,SqT.of (sA _ _ e8),fun h=>absurd (show (2:Nat)=0 from h.1) (by decide),fun l9 h9=>?_⟩
  refine AV (o:=.tup ([y1,y2,y3,y4,y5,y6].map Ae)) h9 fun H9 s9 e9=>?_
  refine ⟨l9,_,rfl,.inr e9,le1 rfl,fun v hv=>?_,fun HB sB=>fin2 _ HB ((sA.trans s9).trans sB) (by unfold pcG;rw [g1,g3];rfl)⟩
  obtain ⟨z,_,rfl⟩:=List.mem_map.mp hv
  exact Fd z
section
open PySem.Spec PyProof.Rows
open PySem.SeqAt
open PySem.AutoSeq1 (wpAny_loadPart')
open PySem.MeetsSeq PySem.MeetsSeq2 PySem.MeetsSeq3
def Hq:List Key→List Key→Option Ordering
 | [],[]=>some .eq
 | [],_::_=>some .lt
 | _::_,[]=>some .gt
 | a::x,b::y=>if a=b then Hq x y else if isI a=isI b then some (if kLt a b=true then .lt else .gt) else none
structure Lx (vs ws:List Value) (n m:Nat) (r:Ordering):Prop where
 f1:∀v∈vs,CG v
 f2:∀v∈ws,CG v
 c:Hq (vs.map A2) (ws.map A2)=some r
 len:vs.length+m=ws.length+n
theorem Lx.step {v w:Value}{vs ws:List Value}{n m:Nat}{r:Ordering}(h:Lx (v::vs) (w::ws) n m r):(A2 v=A2 w/\Lx vs ws n m r)\/(A2 v≠A2 w/\isI (A2 v)=isI (A2 w)/\r=if kLt (A2 v) (A2 w)=true then .lt else .gt):=by
 obtain ⟨f1,f2,c,len⟩:=h
 rw [List.map_cons,List.map_cons,Hq] at c
 by_cases e:A2 v=A2 w
 ·rw [if_pos e] at c
  exact .inl ⟨e,fun x hx=>f1 x (List.mem_cons_of_mem _ hx),fun x hx=>f2 x (List.mem_cons_of_mem _ hx),c,by simp only [List.length_cons] at len;omega⟩
 ·rw [if_neg e] at c
  by_cases i:isI (A2 v)=isI (A2 w)
  ·rw [if_pos i] at c
   exact .inr ⟨e,i,(Option.some.inj c).symm⟩
  ·rw [if_neg i] at c
   cases c
theorem Lx.fin {vs ws:List Value}{n m:Nat}{r:Ordering}(h:Lx vs ws n m r) (z:vs.zip ws=[]):r=if n<m then .lt else if m<n then .gt else .eq:=by
 obtain ⟨_,_,c,len⟩:=h
 cases vs with
 | nil =>
  cases ws with
  | nil=>cases c;simp only [List.length_nil] at len;rw [if_neg (by omega),if_neg (by omega)]
  | cons a ws=>cases c;simp only [List.length_nil,List.length_cons] at len;rw [if_pos (by omega)]
 | cons a vs =>
  cases ws with
  | nil=>cases c;simp only [List.length_nil,List.length_cons] at len;rw [if_neg (by omega),if_pos (by omega)]
  | cons b ws=>rw [List.zip_cons_cons] at z;cases z
def oLt:Ordering→Bool|.lt=>true|_=>false
def oGe:Ordering→Bool|.lt=>false|_=>true
def oGt:Ordering→Bool|.gt=>true|_=>false
theorem Zr (A:Around) (s:Shared) {x y:Value}(hx:CG x) (hy:CG y) (hs:isI (A2 x)=isI (A2 y)) (hn:A2 x≠A2 y) (prog:Program) (w:World) (E:Value→Shared→Prop) (Q:Value→Shared→Prop) (h:Q (.bool (oLt (if kLt (A2 x) (A2 y)=true then .lt else .gt))) s) :
  wpAny (model prog w) A (richCompare .Lt x y) Q E s:=by
 cases x <;> first|exact hx.elim|skip
 all_goals (cases y <;> first|exact hy.elim|exact Bool.noConfusion (by assumption)|skip)
 ·refine PyProof.Rows.lt_int ?_
  have e:∀b:Bool,oLt (if b=true then .lt else .gt)=b:=fun b=>by cases b <;> rfl
  rw [e] at h
  exact h
 ·refine PyProof.Rows.lt_str ?_
  have e:∀b:Bool,oLt (if b=true then .lt else .gt)=b:=fun b=>by cases b <;> rfl
  rw [e] at h
  exact h
theorem ZK (l b:Addr) (items items2:Array Value) (n n2:Nat) (dd dd2:Option Addr) (sl sl2:Array (Option Value)) (r:Ordering) (hx:Lx items.toList items2.toList items.size items2.size r) :
  Meets (Builtin.«tuple.__lt__» ⟨[.ref l,.ref b],[]⟩)
   (fun _ R s=>s.heap.get? l=some { cls:=.type "tuple", dict:=dd,data:=.seq items n,slots:=sl }/\s.heap.get? b=some { cls:=.type "tuple", dict:=dd2,data:=.seq items2 n2,slots:=sl2 } /\
    R (.ok (.ret (.bool (oLt r)))) s) :=
 .of_wp fun prog w A R s h=>by
  obtain ⟨hp,g,d,tk,os⟩:=s;obtain ⟨hl,hb,h⟩:=h
  have f2:=AutoSeq1.sub_tuple_tuple
  wp_walk using wpAny_loadPart' hl,wpAny_loadPart' hb,wpAny_forIn_list _ (fun rest b s'=>b.1=none/\s'=⟨hp,g,d,tk,os⟩/\∃(vs ws:List Value),rest=vs.zip ws/\Lx vs ws items.size items2.size r) _
  case turn =>
   rintro ⟨y,x⟩ rest b s' ⟨hb',rfl,vs,ws,hz,hx'⟩
   cases ws with
   | nil=>rw [List.zip_nil_right] at hz;cases hz
   | cons c ws =>
    cases vs with
    | nil=>cases hz
    | cons a us =>
     rw [List.zip_cons_cons] at hz
     injection hz with hyx hrest
     injection hyx with hy hx
     subst hy hx
     have fa:=hx'.f1 y List.mem_cons_self
     have fc:=hx'.f2 x List.mem_cons_self
     rcases hx'.step with ⟨e,h5⟩|⟨e,ks,h5⟩
     ·refine wpAny_bind (Fj A.in1 ⟨hp,g,d,tk,os⟩ fa fc (by rw [e]) prog w _ _ ?_)
      rw [decide_eq_true e]
      wp_walk
      exact ⟨rfl,rfl,us,ws,hrest,h5⟩
     ·refine wpAny_bind (Fj A.in1 ⟨hp,g,d,tk,os⟩ fa fc ks prog w _ _ ?_)
      rw [decide_eq_false e]
      have hri:=Zr A.in1 ⟨hp,g,d,tk,os⟩ fa fc ks e prog w
      wp_walk using hri
      exact ⟨_,rfl,by rw [←h5];exact h⟩
  case fin =>
   rintro ⟨b1,b2⟩ s' ⟨hb',rfl,vs,ws,hz,hx'⟩
   simp only at hb'
   subst hb'
   have hv:=hx'.fin hz.symm
   have hv:oLt r=decide (items.size<items2.size):=by
    rw [hv]
    by_cases h1:items.size<items2.size
    ·rw [if_pos h1,decide_eq_true h1];rfl
    ·rw [if_neg h1,decide_eq_false h1]
     split <;> rfl
   rw [hv] at h
   wp_walk
   exact ⟨_,rfl,by simpa [Builtin.Tuple.tupleCompareSizes] using h⟩
  case h =>
   exact ⟨rfl,rfl,items.toList,items2.toList,rfl,hx⟩
theorem Zt (A:Around) (s:Shared) {x y:Value}(hx:CG x) (hy:CG y) (hs:isI (A2 x)=isI (A2 y)) (hn:A2 x≠A2 y) (prog:Program) (w:World) (E:Value→Shared→Prop) (Q:Value→Shared→Prop) (h:Q (.bool (oGe (if kLt (A2 x) (A2 y)=true then .lt else .gt))) s) :
  wpAny (model prog w) A (richCompare .GtE x y) Q E s:=by
 cases x <;> first|exact hx.elim|skip
 all_goals (cases y <;> first|exact hy.elim|exact Bool.noConfusion (by assumption)|skip)
 ·rename_i i _ j _
  refine PyProof.Rows.ge_int ?_
  have e:∀b:Bool,oGe (if b=true then .lt else .gt)=!b:=fun b=>by cases b <;> rfl
  rw [e] at h
  rw [show decide (j≤i)=!decide (i<j) by rw [←decide_not];exact decide_eq_decide.mpr (by omega)]
  exact h
 ·refine PySem.P.ge_str ?_
  have e:∀b:Bool,oGe (if b=true then .lt else .gt)=!b:=fun b=>by cases b <;> rfl
  rw [e] at h
  exact h
theorem ZM (l b:Addr) (items items2:Array Value) (n n2:Nat) (dd dd2:Option Addr) (sl sl2:Array (Option Value)) (r:Ordering) (hx:Lx items.toList items2.toList items.size items2.size r) :
  Meets (Builtin.«tuple.__ge__» ⟨[.ref l,.ref b],[]⟩)
   (fun _ R s=>s.heap.get? l=some { cls:=.type "tuple", dict:=dd,data:=.seq items n,slots:=sl }/\s.heap.get? b=some { cls:=.type "tuple", dict:=dd2,data:=.seq items2 n2,slots:=sl2 } /\
    R (.ok (.ret (.bool (oGe r)))) s) :=
 .of_wp fun prog w A R s h=>by
  obtain ⟨hp,g,d,tk,os⟩:=s;obtain ⟨hl,hb,h⟩:=h
  have f2:=AutoSeq1.sub_tuple_tuple
  wp_walk using wpAny_loadPart' hl,wpAny_loadPart' hb,wpAny_forIn_list _ (fun rest b s'=>b.1=none/\s'=⟨hp,g,d,tk,os⟩/\∃(vs ws:List Value),rest=vs.zip ws/\Lx vs ws items.size items2.size r) _
  case turn =>
   rintro ⟨y,x⟩ rest b s' ⟨hb',rfl,vs,ws,hz,hx'⟩
   cases ws with
   | nil=>rw [List.zip_nil_right] at hz;cases hz
   | cons c ws =>
    cases vs with
    | nil=>cases hz
    | cons a us =>
     rw [List.zip_cons_cons] at hz
     injection hz with hyx hrest
     injection hyx with hy hx
     subst hy hx
     have fa:=hx'.f1 y List.mem_cons_self
     have fc:=hx'.f2 x List.mem_cons_self
     rcases hx'.step with ⟨e,h5⟩|⟨e,ks,h5⟩
     ·refine wpAny_bind (Fj A.in1 ⟨hp,g,d,tk,os⟩ fa fc (by rw [e]) prog w _ _ ?_)
      rw [decide_eq_true e]
      wp_walk
      exact ⟨rfl,rfl,us,ws,hrest,h5⟩
     ·refine wpAny_bind (Fj A.in1 ⟨hp,g,d,tk,os⟩ fa fc ks prog w _ _ ?_)
      rw [decide_eq_false e]
      have hri:=Zt A.in1 ⟨hp,g,d,tk,os⟩ fa fc ks e prog w
      wp_walk using hri
      exact ⟨_,rfl,by rw [←h5];exact h⟩
  case fin =>
   rintro ⟨b1,b2⟩ s' ⟨hb',rfl,vs,ws,hz,hx'⟩
   simp only at hb'
   subst hb'
   have hv:=hx'.fin hz.symm
   have hv:oGe r=decide (items2.size≤items.size):=by
    rw [hv]
    by_cases h1:items.size<items2.size
    ·rw [if_pos h1,decide_eq_false (by omega)];rfl
    ·rw [if_neg h1,decide_eq_true (by omega)]
     split <;> rfl
   rw [hv] at h
   wp_walk
   exact ⟨_,rfl,by simpa [Builtin.Tuple.tupleCompareSizes] using h⟩
  case h =>
   exact ⟨rfl,rfl,items.toList,items2.toList,rfl,hx⟩
theorem Zs (A:Around) (s:Shared) {x y:Value}(hx:CG x) (hy:CG y) (hs:isI (A2 x)=isI (A2 y)) (hn:A2 x≠A2 y) (prog:Program) (w:World) (E:Value→Shared→Prop) (Q:Value→Shared→Prop) (h:Q (.bool (oGt (if kLt (A2 x) (A2 y)=true then .lt else .gt))) s) :
  wpAny (model prog w) A (richCompare .Gt x y) Q E s:=by
 cases x <;> first|exact hx.elim|skip
 all_goals (cases y <;> first|exact hy.elim|exact Bool.noConfusion (by assumption)|skip)
 ·rename_i i _ j _
  refine PyProof.Rows.gt_int ?_
  have e:∀b:Bool,oGt (if b=true then .lt else .gt)=!b:=fun b=>by cases b <;> rfl
  rw [e] at h
  have hn:i≠j:=fun z=>hn (by show (Sum.inl i:Key)=.inl j;rw [z])
  rw [show decide (j<i)=!decide (i<j) by rw [←decide_not];exact decide_eq_decide.mpr (by omega)]
  exact h
 ·rename_i i _ j _
  refine PySem.P.gt_str ?_
  have e:∀b:Bool,oGt (if b=true then .lt else .gt)=!b:=fun b=>by cases b <;> rfl
  rw [e] at h
  have hn:i≠j:=fun z=>hn (by show (Sum.inr i:Key)=.inr j;rw [z])
  have e2:decide (j.cps.toList<i.cps.toList)=!decide (i.cps.toList<j.cps.toList):=by
   have t:=@JO (.inr i) (.inr j)
   have a:kLt (.inr i) (.inr j)=true→kLt (.inr j) (.inr i)=false:=fun h1=>by
    cases h2:kLt (.inr j) (.inr i) with
    | false=>rfl
    | true=>have:=Lj h1 h2;rw [K0] at this;cases this
   revert t a
   show ((decide (i.cps.toList<j.cps.toList))=false→(decide (j.cps.toList<i.cps.toList))=false→(Sum.inr i:Key)=.inr j)→((decide (i.cps.toList<j.cps.toList))=true→(decide (j.cps.toList<i.cps.toList))=false)→_
   cases decide (i.cps.toList<j.cps.toList) <;> cases decide (j.cps.toList<i.cps.toList) <;> intro t a
   ·exact absurd (Sum.inr.inj (t rfl rfl)) hn
   ·rfl
   ·rfl
   ·cases a rfl
  rw [e2]
  exact h
theorem ZL (l b:Addr) (items items2:Array Value) (n n2:Nat) (dd dd2:Option Addr) (sl sl2:Array (Option Value)) (r:Ordering) (hx:Lx items.toList items2.toList items.size items2.size r) :
  Meets (Builtin.«tuple.__gt__» ⟨[.ref l,.ref b],[]⟩)
   (fun _ R s=>s.heap.get? l=some { cls:=.type "tuple", dict:=dd,data:=.seq items n,slots:=sl }/\s.heap.get? b=some { cls:=.type "tuple", dict:=dd2,data:=.seq items2 n2,slots:=sl2 } /\
    R (.ok (.ret (.bool (oGt r)))) s) :=
 .of_wp fun prog w A R s h=>by
  obtain ⟨hp,g,d,tk,os⟩:=s;obtain ⟨hl,hb,h⟩:=h
  have f2:=AutoSeq1.sub_tuple_tuple
  wp_walk using wpAny_loadPart' hl,wpAny_loadPart' hb,wpAny_forIn_list _ (fun rest b s'=>b.1=none/\s'=⟨hp,g,d,tk,os⟩/\∃(vs ws:List Value),rest=vs.zip ws/\Lx vs ws items.size items2.size r) _
  case turn =>
   rintro ⟨y,x⟩ rest b s' ⟨hb',rfl,vs,ws,hz,hx'⟩
   cases ws with
   | nil=>rw [List.zip_nil_right] at hz;cases hz
   | cons c ws =>
    cases vs with
    | nil=>cases hz
    | cons a us =>
     rw [List.zip_cons_cons] at hz
     injection hz with hyx hrest
     injection hyx with hy hx
     subst hy hx
     have fa:=hx'.f1 y List.mem_cons_self
     have fc:=hx'.f2 x List.mem_cons_self
     rcases hx'.step with ⟨e,h5⟩|⟨e,ks,h5⟩
     ·refine wpAny_bind (Fj A.in1 ⟨hp,g,d,tk,os⟩ fa fc (by rw [e]) prog w _ _ ?_)
      rw [decide_eq_true e]
      wp_walk
      exact ⟨rfl,rfl,us,ws,hrest,h5⟩
     ·refine wpAny_bind (Fj A.in1 ⟨hp,g,d,tk,os⟩ fa fc ks prog w _ _ ?_)
      rw [decide_eq_false e]
      have hri:=Zs A.in1 ⟨hp,g,d,tk,os⟩ fa fc ks e prog w
      wp_walk using hri
      exact ⟨_,rfl,by rw [←h5];exact h⟩
  case fin =>
   rintro ⟨b1,b2⟩ s' ⟨hb',rfl,vs,ws,hz,hx'⟩
   simp only at hb'
   subst hb'
   have hv:=hx'.fin hz.symm
   have hv:oGt r=decide (items2.size<items.size):=by
    rw [hv]
    by_cases h1:items.size<items2.size
    ·rw [if_pos h1,decide_eq_false (by omega)];rfl
    ·rw [if_neg h1]
     by_cases h2:items2.size<items.size
     ·rw [if_pos h2,decide_eq_true h2];rfl
     ·rw [if_neg h2,decide_eq_false h2];rfl
   rw [hv] at h
   wp_walk
   exact ⟨_,rfl,by simpa [Builtin.Tuple.tupleCompareSizes] using h⟩
  case h =>
   exact ⟨rfl,rfl,items.toList,items2.toList,rfl,hx⟩
variable {X:Cx}{K:W.Frag}
def Wg (K:W.Frag) (f:Ordering→Bool):R2:=fun x y H Q=>onR x fun a=>onR y fun b=>∃ks ms r,SqT K H a (ks.map kV)/\SqT K H b (ms.map kV)/\Hq ks ms=some r/\Q (.bl (f r)) H
theorem Pg {pins:List (Addr×Obj)}{s:Shared}{σ:L2.St}{H:Hp}{a b:Addr}{ks ms:List Key}{r:Ordering}(I:Inv X pins σ H s) (ha:SqT X.K H a (ks.map kV)) (hb:SqT X.K H b (ms.map kV)) (hc:Hq ks ms=some r) :
  ∃items items2 n n2 dd dd2 sl sl2,s.heap.get? a=some { cls:=.type "tuple", dict:=dd,data:=.seq items n,slots:=sl }/\s.heap.get? b=some { cls:=.type "tuple", dict:=dd2,data:=.seq items2 n2,slots:=sl2 }/\Lx items.toList items2.toList items.size items2.size r:=by
 obtain ⟨its,r1,p1,_⟩:=I.tuple ha
 obtain ⟨its2,r2,p2,_⟩:=I.tuple hb
 obtain ⟨k1,f1⟩:=Ky r1
 obtain ⟨k2,f2⟩:=Ky r2
 obtain ⟨⟨cls,dd,data,sl⟩,ho,hc1,n,hd⟩:=id p1
 obtain ⟨⟨cls2,dd2,data2,sl2⟩,ho2,hc2,n2,hd2⟩:=id p2
 simp only at hc1 hd hc2 hd2
 subst hc1 hd hc2 hd2
 exact ⟨_,_,n,n2,dd,dd2,sl,sl2,ho,ho2,by simpa using f1,by simpa using f2,by simpa [k1,k2] using hc,by simp;omega⟩
unseal OpR in
theorem Xr (hu:X.A.units<cLine) (hK:X.K=K:=by rfl):OpR X (compareOp .Lt) (Wg K oLt):=by
 subst hK
 intro pins s σ H x y v u Q I rx ry h
 obtain ⟨a,rfl,h1⟩:=Dh h
 obtain ⟨b,rfl,ks,ms,r,ha,hb,hc,q⟩:=Dh h1
 cases rx
 cases ry
 obtain ⟨_,_,n,n2,dd,dd2,sl,sl2,ho,ho2,lx⟩:=Pg I ha hb hc
 exact richCompare_meets_room (op:=.Lt) ⟨_,ho,rfl⟩ ⟨_,ho2,rfl⟩ F.slot_tuple_lt F.entry_tuple_lt (by rfl) (ZK a b _ _ n n2 dd dd2 sl sl2 _ lx)
  ⟨ho,ho2,show Value.bool (oLt r)≠Value.notImplemented/\EP X pins σ Q (.bool (oLt r)) s from ⟨(fun e=>nomatch e),⟨.bl _,H,I,rfl,q⟩⟩⟩ hu
unseal OpR in
theorem Z7 (hu:X.A.units<cLine) (hK:X.K=K:=by rfl):OpR X (compareOp .GtE) (Wg K oGe):=by
 subst hK
 intro pins s σ H x y v u Q I rx ry h
 obtain ⟨a,rfl,h1⟩:=Dh h
 obtain ⟨b,rfl,ks,ms,r,ha,hb,hc,q⟩:=Dh h1
 cases rx
 cases ry
 obtain ⟨_,_,n,n2,dd,dd2,sl,sl2,ho,ho2,lx⟩:=Pg I ha hb hc
 exact richCompare_meets_room (op:=.GtE) ⟨_,ho,rfl⟩ ⟨_,ho2,rfl⟩ F.slot_tuple_ge F.entry_tuple_ge (by rfl) (ZM a b _ _ n n2 dd dd2 sl sl2 _ lx)
  ⟨ho,ho2,show Value.bool (oGe r)≠Value.notImplemented/\EP X pins σ Q (.bool (oGe r)) s from ⟨(fun e=>nomatch e),⟨.bl _,H,I,rfl,q⟩⟩⟩ hu
unseal OpR in
theorem Z6 (hu:X.A.units<cLine) (hK:X.K=K:=by rfl):OpR X (compareOp .Gt) (Wg K oGt):=by
 subst hK
 intro pins s σ H x y v u Q I rx ry h
 obtain ⟨a,rfl,h1⟩:=Dh h
 obtain ⟨b,rfl,ks,ms,r,ha,hb,hc,q⟩:=Dh h1
 cases rx
 cases ry
 obtain ⟨_,_,n,n2,dd,dd2,sl,sl2,ho,ho2,lx⟩:=Pg I ha hb hc
 exact richCompare_meets_room (op:=.Gt) ⟨_,ho,rfl⟩ ⟨_,ho2,rfl⟩ F.slot_tuple_gt F.entry_tuple_gt (by rfl) (ZL a b _ _ n n2 dd dd2 sl sl2 _ lx)
  ⟨ho,ho2,show Value.bool (oGt r)≠Value.notImplemented/\EP X pins σ Q (.bool (oGt r)) s from ⟨(fun e=>nomatch e),⟨.bl _,H,I,rfl,q⟩⟩⟩ hu
end
theorem Iy:∀{x y:List Key}{r:Ordering},Hq x y=some r→An x y=oLt r/\An y x=oGt r/\(r=.eq→x=y)
 | [],[],_,h=>by cases h;exact ⟨rfl,rfl,fun _=>rfl⟩
 | [],_::_,_,h=>by cases h;exact ⟨rfl,rfl,fun e=>nomatch e⟩
 | _::_,[],_,h=>by cases h;exact ⟨rfl,rfl,fun e=>nomatch e⟩
 | a::x,b::y,r,h=>by
  rw [Hq] at h
  unfold An
  by_cases e:a=b
  ·subst e
   rw [if_pos rfl] at h
   obtain ⟨h1,h2,h3⟩:=Iy h
   rw [if_pos rfl,if_pos rfl]
   exact ⟨h1,h2,fun q=>by rw [h3 q]⟩
  ·rw [if_neg e] at h
   rw [if_neg e,if_neg (fun z=>e z.symm)]
   by_cases i:isI a=isI b
   ·rw [if_pos i] at h
    cases Option.some.inj h
    cases h1:kLt a b with
    | true =>
     refine ⟨rfl,?_,fun z=>nomatch z⟩
     cases h2:kLt b a with
     | false=>rfl
     | true=>have:=Lj h1 h2;rw [K0] at this;cases this
    | false =>
     refine ⟨rfl,?_,fun z=>nomatch z⟩
     cases h2:kLt b a with
     | true=>rfl
     | false=>exact absurd (JO h1 h2) e
   ·rw [if_neg i] at h
    cases h
theorem grp {α:Type}(f:α→Key):∀{ks:List Key}{L:List α},ks.Pairwise (fun a b=>kLt b a=false)→ks.Nodup→L.Pairwise (fun a b=>kLt (f b) (f a)=false)→(∀e∈L,f e∈ks)→(ks.flatMap fun k=>L.filter fun e=>decide (f e=k))=L
 | [],L,_,_,_,hm=>by
  cases L with
  | nil=>rfl
  | cons e L=>exact absurd (hm e List.mem_cons_self) List.not_mem_nil
 | k::ks,L,hs,nd,hL,hm=>by
  obtain ⟨p1,p2⟩:=List.pairwise_cons.mp hs
  obtain ⟨n1,n2⟩:=List.nodup_cons.mp nd
  have part:∀{L:List α},L.Pairwise (fun a b=>kLt (f b) (f a)=false)→(∀e∈L,f e∈k::ks)→(L.filter fun e=>decide (f e=k))++(L.filter fun e=>!decide (f e=k))=L:=by
   intro L
   induction L with
   | nil=>intro _ _;rfl
   | cons a L ih =>
    intro hL hm
    obtain ⟨q1,q2⟩:=List.pairwise_cons.mp hL
    by_cases e:f a=k
    ·rw [List.filter_cons,if_pos (decide_eq_true e),List.filter_cons,if_neg (by simp [e]),List.cons_append,ih q2 fun x hx=>hm x (List.mem_cons_of_mem _ hx)]
    ·have no:∀x∈L,¬ f x=k:=fun x hx z=>by
      have h1:=q1 x hx
      rw [z] at h1
      rcases List.mem_cons.mp (hm a List.mem_cons_self) with h2|h2
      ·exact e h2
      ·exact e (JO (p1 _ h2) h1)
     rw [List.filter_cons,if_neg (by simpa using e),List.filter_cons,if_pos (by simpa using e),List.filter_eq_nil_iff.mpr (by simpa using no),List.filter_eq_self.mpr (by simpa using no)]
     rfl
  rw [List.flatMap_cons]
  have e1:(ks.flatMap fun k'=>L.filter fun e=>decide (f e=k'))=ks.flatMap fun k'=>(L.filter fun e=>!decide (f e=k)).filter fun e=>decide (f e=k'):=by
   rw [List.flatMap_def,List.flatMap_def]
   refine congrArg List.flatten (List.map_congr_left fun k' hk'=>?_)
   rw [List.filter_filter]
   refine List.filter_congr fun e _=>?_
   by_cases h:f e=k'
   ·have:¬ f e=k:=fun z=>n1 (by rw [←z,h];exact hk')
    simp [h,this,show ¬ k'=k from fun z=>n1 (by rw [←z];exact hk')]
   ·simp [h]
  rw [e1,grp f p2 n2 (hL.sublist List.filter_sublist) fun e he=>?_,part hL hm]
  obtain ⟨h1,h2⟩:=List.mem_filter.mp he
  rcases List.mem_cons.mp (hm e h1) with h|h
  ·simp [h] at h2
  ·exact h
def FU (H:Hp) (xs:List V) (vss:List (List V)):Prop:=Paired (fun x vs=>∃a,x=.ref a/\H a=some (.tup vs)) xs vss
theorem FU.keep {H H':Hp}{xs:List V}{vss:List (List V)}(h:FU H xs vss) (t:Tp H H'):FU H' xs vss:=KC (fun x ks ⟨a,e,q⟩=>⟨a,e,t _ _ q⟩) h
theorem FU.len {H:Hp}{xs:List V}{vss:List (List V)}(h:FU H xs vss):xs.length=vss.length:=(DI h).1
theorem FU.snoc {H:Hp}{xs:List V}{vss:List (List V)}{p:Addr}{vs:List V}(h:FU H xs vss) (e:H p=some (.tup vs)):FU H (xs++[.ref p]) (vss++[vs]):=Dg h (.cons ⟨p,rfl,e⟩ .nil)
theorem FU.at {H:Hp}{xs:List V}{vss:List (List V)}(h:FU H xs vss) {i:Nat}{x:V}(e:xs[i]?=some x):∃a vs,x=.ref a/\vss[i]?=some vs/\H a=some (.tup vs):=by
 obtain ⟨l,f⟩:=DI h
 have hi:=(List.getElem?_eq_some_iff.mp e).1
 have e2:vss[i]?=some vss[i]:=List.getElem?_eq_getElem (by omega)
 obtain ⟨a,e3,e4⟩:=f i _ _ e e2
 exact ⟨a,_,e3,e2,e4⟩
inductive Ent where
 | it (i:Int) (k:Str) (t a:Int)
 | pc (i:Int) (k:Str) (s e:Int) (q:Addr) (c m l g:Int)
def Ent.ix:Ent→Int
 | .it i _ _ _=>i|.pc i _ _ _ _ _ _ _ _=>i
def Ent.ky:Ent→Str
 | .it _ k _ _=>k|.pc _ k _ _ _ _ _ _ _=>k
def Ent.bd:Ent→List V
 | .it _ _ t a=>[.int t,.int a]|.pc _ _ s e q _ _ _ _=>[.int s,.int e,.ref q]
def Ent.rk:Ent→List Key
 | .it i k t a=>[.inl 0,.inl (2+i / 2),.inl (i % 2),.inr k,.inl t,.inl a]|.pc i k s _ _ _ _ _ _=>[.inl 1,.inl i,.inr k,.inl s]
def Ent.ln:Ent→List V
 | .it i k t a=>[.str "item", .int (2+i / 2),.int (i % 2),.str k,.int t,.int a]|.pc i k s e _ c m l g=>[.str "piece", .int i,.str k,.int s,.int e,.int c,.int m,.int l,.int g]
def Ent.rg:Ent→Prop
 | .it i _ _ _=>0≤i/\i<4|.pc i _ _ _ _ _ _ _ _=>4≤i/\i<6
def Ent.tl (H:Hp):Ent→Prop
 | .it _ _ _ _=>True|.pc _ _ _ _ q c m l g=>H q=some (.tup [.int c,.int m,.int l,.int g])
theorem Ent.Hc {H H':Hp}{e:Ent}(h:e.tl H) (t:Tp H H'):e.tl H':=by
 cases e with
 | it=>trivial
 | pc=>exact t _ _ h
abbrev Own:=Addr→Int×Str
def sel (E:List Ent) (i:Int) (z:Str):List (List V):=(E.filter fun e=>decide (e.ix=i/\e.ky=z)).map Ent.bd
def V8 (Hb H:Hp) (ow:Own) (E:List Ent) (i:Int) (q:Key×V):Prop:=∃z r xs,q=(.inr z,.ref r)/\Hb r=none/\ow r=(i,z)/\H r=some (.lst xs)/\FU H xs (sel E i z)
structure Xg (Hb H:Hp) (ow:Own) (E:List Ent) (n:Nat) (i:Int) (kvs:List (Key×V)):Prop where
 nd:(kvs.map (·.1)).Nodup
 le:kvs.length≤n
 row:∀q∈kvs,V8 Hb H ow E i q
 all:∀e∈E,e.ix=i→(Sum.inr e.ky:Key)∈kvs.map (·.1)
structure St (Hb H:Hp) (D:Int→Addr) (E:List Ent) (n:Nat):Prop where
 fr:∀b o,Hb b=some o→∃o',H b=some o'/\(o≠.dK []→o'=o)
 dic:∃ow,∀i,0≤i→i<6→∃kvs,H (D i)=some (.dK kvs)/\Xg Hb H ow E n i kvs
 d0:∀i,0≤i→i<6→Hb (D i)=some (.dK [])
 dj:∀i j,0≤i→i<6→0≤j→j<6→D i=D j→i=j
 tl:∀e∈E,e.tl H
theorem St.fix {Hb H:Hp}{D:Int→Addr}{E:List Ent}{n:Nat}(st:St Hb H D E n) {b:Addr}{o:HO}(e:Hb b=some o) (ho:o≠.dK []):H b=some o:=by
 obtain ⟨o',h1,h2⟩:=st.fr b o e
 rw [h1,h2 ho]
theorem Xg.keep {Hb H H':Hp}{ow:Own}{E:List Ent}{n:Nat}{i:Int}{kvs:List (Key×V)}(h:Xg Hb H ow E n i kvs) (kl:∀b xs,ow b=(i,(ow b).2)→H b=some (.lst xs)→H' b=some (.lst xs)) (t:Tp H H'):Xg Hb H' ow E n i kvs :=
 ⟨h.nd,h.le,fun q hq=>by
  obtain ⟨z,r,xs,e,h1,h2,h3,h4⟩:=h.row q hq
  exact ⟨z,r,xs,e,h1,h2,kl _ _ (by rw [h2]) h3,h4.keep t⟩,h.all⟩
theorem St.same {Hb H H':Hp}{D:Int→Addr}{E:List Ent}{n:Nat}(st:St Hb H D E n) (s:AO H H'):St Hb H' D E n:=by
 obtain ⟨ow,h⟩:=st.dic
 exact ⟨fun b o e=>let ⟨o',h1,h2⟩:=st.fr b o e;⟨o',s _ _ h1,h2⟩,⟨ow,fun i h0 h6=>let ⟨kvs,e,d⟩:=h i h0 h6;⟨kvs,s _ _ e,d.keep (fun _ _ _ e=>s _ _ e) s.tp⟩⟩,st.d0,st.dj,fun e he=>Ent.Hc (st.tl e he) s.tp⟩
theorem My {E:List Ent}{e:Ent}{i:Int}{z:Str}:sel (E++[e]) i z=if e.ix=i/\e.ky=z then sel E i z++[e.bd] else sel E i z:=by
 unfold sel
 rw [List.filter_append,List.map_append]
 by_cases h:e.ix=i/\e.ky=z
 ·rw [if_pos h,List.filter_cons,if_pos (decide_eq_true h)];rfl
 ·rw [if_neg h,List.filter_cons,if_neg (by simpa using h)];simp
theorem St.putL {Hb H0 H:Hp}{D:Int→Addr}{E E':List Ent}{n:Nat}(st:St Hb H0 D E n) (s:AO H0 H) {c:Addr}(hc:H0 c=none) {i:Int}(h0:0≤i) (h6:i<6) {kvs:List (Key×V)}(e:H (D i)=some (.dK kvs)) {z:Str}{ys:List V}(ec:H c=some (.lst ys))
  (tr:FU H ys (sel E' i z)) (oth:∀j y,¬ (j=i/\y=z)→sel E' j y=sel E j y) (hE:∀x∈E',x∈E\/(x.ix=i/\x.ky=z)) (tl:∀x∈E',x.tl H):St Hb (upd H (D i) (.dK (putK kvs (.inr z) (.ref c)))) D E' (n+1):=by
 have st1:=st.same s
 obtain ⟨ow,hd⟩:=st.dic
 have tp:Tp H (upd H (D i) (.dK (putK kvs (.inr z) (.ref c)))):=(Tp.refl H).upd e fun xs=>by intro z;cases z
 have kl:∀b xs,H b=some (.lst xs)→(upd H (D i) (.dK (putK kvs (.inr z) (.ref c)))) b=some (.lst xs):=fun b xs q=>by
  rw [AM fun z=>by rw [z,e] at q;cases q];exact q
 have hbc:Hb c=none:=by
  cases q:Hb c with
  | none=>rfl
  | some o=>obtain ⟨o',h,_⟩:=st.fr c o q;rw [hc] at h;cases h
 have row:∀j q,¬ (j=i/\q.1=Sum.inr z)→V8 Hb H0 ow E j q→V8 Hb (upd H (D i) (.dK (putK kvs (.inr z) (.ref c)))) (fun a=>if a=c then (i,z) else ow a) E' j q:=fun j q hne ⟨y,r,xs,e1,e2,e3,e4,e5⟩=>by
  refine ⟨y,r,xs,e1,e2,?_,kl _ _ (s _ _ e4),?_⟩
  ·show (if r=c then (i,z) else ow r)=_
   rw [if_neg (fun z=>by rw [z,hc] at e4;cases e4)];exact e3
  ·rw [oth j y fun h=>hne ⟨h.1,by rw [e1,h.2]⟩];exact e5.keep fun p xs h=>tp p xs (s _ _ h)
 refine ⟨fun b o q=>?_,⟨fun a=>if a=c then (i,z) else ow a,fun j j0 j6=>?_⟩,st.d0,st.dj,fun x hx=>Ent.Hc (tl x hx) tp⟩
 ·obtain ⟨o',h1,h2⟩:=st1.fr b o q
  by_cases hb:b=D i
  ·subst hb
   rw [e] at h1
   cases h1
   rw [st.d0 i h0 h6] at q
   cases q
   exact ⟨_,AG,fun ho=>absurd rfl ho⟩
  ·exact ⟨o',by rw [AM hb];exact h1,h2⟩
 ·obtain ⟨kv0,hd1,hd2⟩:=hd j j0 j6
  by_cases hj:j=i
  ·subst hj
   have:=s _ _ hd1
   rw [e] at this
   cases this
   refine ⟨_,AG,RV hd2.nd,Nat.le_trans (Qi _ _ _) (Nat.succ_le_succ hd2.le),fun q hq=>?_,fun x hx hxi=>?_⟩
   ·rcases QW hq with rfl|⟨hm,hne⟩
    ·exact ⟨z,c,ys,rfl,hbc,if_pos rfl,kl _ _ ec,tr.keep tp⟩
    ·exact row _ q (fun h=>hne h.2) (hd2.row q hm)
   ·rw [Lf]
    rcases hE x hx with hx|⟨_,hz⟩
    ·have:=hd2.all x hx hxi
     split
     ·exact this
     ·exact List.mem_append_left _ this
    ·rw [hz]
     split
     ·assumption
     ·exact List.mem_append_right _ (List.mem_singleton.mpr rfl)
  ·refine ⟨kv0,?_,hd2.nd,Nat.le_succ_of_le hd2.le,fun q hq=>row j q (fun h=>hj h.1) (hd2.row q hq),fun x hx hxj=>?_⟩
   ·rw [AM (fun z=>hj (st.dj j i j0 j6 h0 h6 z))]
    exact s _ _ hd1
   ·rcases hE x hx with hx|⟨hz,_⟩
    ·exact hd2.all x hx hxj
    ·exact absurd (hxj.symm.trans hz) hj
theorem OL:∀{kvs:List (Key×V)}{k:Key}{v:V},(kvs.map (·.1)).Nodup→(k,v)∈kvs→Bc kvs k=some v
 | p::r,k,v,nd,h=>by
  obtain ⟨n1,n2⟩:=List.nodup_cons.mp nd
  rcases List.mem_cons.mp h with rfl|h
  ·exact CT rfl
  ·rw [CU fun z=>n1 (List.mem_map.mpr ⟨_,h,z.symm⟩)]
   exact OL n2 h
theorem St.app {Hb H:Hp}{D:Int→Addr}{E E':List Ent}{n:Nat}(st:St Hb H D E n) {i:Int}(h0:0≤i) (h6:i<6) {kvs:List (Key×V)}(e:H (D i)=some (.dK kvs)) {z:Str}{r:Addr}(hr:Bc kvs (.inr z)=some (.ref r)) {ys:List V}
  (tr:FU H ys (sel E' i z)) (oth:∀j y,¬ (j=i/\y=z)→sel E' j y=sel E j y) (hE:∀x∈E',x∈E\/(x.ix=i/\x.ky=z)) (tl:∀x∈E',x.tl H):St Hb (upd H r (.lst ys)) D E' n:=by
 obtain ⟨ow,hd⟩:=st.dic
 obtain ⟨kv0,hd1,hd2⟩:=hd i h0 h6
 rw [e] at hd1
 cases hd1
 obtain ⟨z',r',xs,e1,hb,eo,er,_⟩:=hd2.row _ (IK hr)
 cases e1
 have tp:Tp H (upd H r (.lst ys)):=(Tp.refl H).upd er fun xs=>by intro z;cases z
 have nr:∀{b:Addr} {o:HO},H b=some o→(∀xs,o≠.lst xs)→(upd H r (.lst ys)) b=some o:=fun q hq=>by rw [AM fun z=>by rw [z,er] at q;exact hq _ (Option.some.inj q).symm];exact q
 refine ⟨fun b o q=>?_,⟨ow,fun j j0 j6=>?_⟩,st.d0,st.dj,fun x hx=>Ent.Hc (tl x hx) tp⟩
 ·obtain ⟨o',h1,h2⟩:=st.fr b o q
  exact ⟨o',by rw [AM fun z=>by rw [z,hb] at q;cases q];exact h1,h2⟩
 ·obtain ⟨kv1,hj1,hj2⟩:=hd j j0 j6
  refine ⟨kv1,nr hj1 (fun xs=>by intro z;cases z),hj2.nd,hj2.le,fun q hq=>?_,fun x hx hxj=>?_⟩
  ·obtain ⟨y,r',xs',e1,e2,e3,e4,e5⟩:=hj2.row q hq
   by_cases h:r'=r
   ·subst h
    rw [eo] at e3
    cases e3
    exact ⟨_,r',ys,e1,e2,eo,AG,tr.keep tp⟩
   ·refine ⟨y,r',xs',e1,e2,e3,by rw [AM h];exact e4,?_⟩
    by_cases hq':j=i/\y=z
    ·rw [hq'.1,e] at hj1
     cases hj1
     have h1:=OL hd2.nd (show (Sum.inr z,V.ref r')∈kvs by rw [←hq'.2,←e1];exact hq)
     rw [hr] at h1
     cases h1
     exact absurd rfl h
    ·rw [oth j y hq'];exact e5.keep tp
  ·rcases hE x hx with hx|⟨h1,h2⟩
   ·exact hj2.all x hx hxj
   ·rw [hxj] at h1
    subst h1
    rw [e] at hj1
    cases hj1
    rw [h2]
    exact List.mem_map.mpr ⟨_,IK hr,rfl⟩
def WZ:Sp:=fun vs H Q _=>∃(r mk:Addr) (xs:List V) (kss:List (List Key)) (ms:List Key),vs=[.ref r,.ref mk]/\H r=some (.lst xs)/\Rws H xs kss/\kss.length≤1000/\H mk=some (.tup (ms.map kV)) /\
 (∀ks∈kss,∃o,Hq ks ms=some o)/\Sd kss/\∀n:Nat,n≤kss.length→(∀(i:Nat) ks,n≤i→kss[i]?=some ks→An ks ms=false)→Q (.int (n:Int)) H
theorem Zn {kss:List (List Key)}(h:Sd kss) {i j:Nat}{a b ms:List Key}(hij:i≤j) (ea:kss[i]?=some a) (eb:kss[j]?=some b) (hm:An b ms=true):An a ms=true:=by
 by_cases e:i=j
 ·subst e
  rw [ea] at eb
  cases eb
  exact hm
 ·obtain ⟨hi,e1⟩:=List.getElem?_eq_some_iff.mp ea
  obtain ⟨hj,e2⟩:=List.getElem?_eq_some_iff.mp eb
  have:=List.pairwise_iff_getElem.mp h i j hi hj (by omega)
  rw [e1,e2] at this
  exact PyProof.Rows.KeyOrd.klt_of_kle_of_klt (O:=lexOrd) this hm
theorem VN (T:Tx K mg ad):Ao P w K mg base CX0 1 ad.Hw ad.JT ["rows", "mark"] WZ:=by
 refine T.IC.ok P5 (fun vs H Q E h=>?_) (fun cdv A outer s H vs Q E hr h=>?_)
 ·obtain ⟨r,mk,xs,kss,ms,rfl,_⟩:=h
  rfl
 ·obtain ⟨r,mk,xs,kss,ms,rfl,er,hw,hl,em,hs,sd,k⟩:=h
  have nd:=P5.nd
  refine ⟨_,(AE (psl 2 nd AD)
    (AE (psl 3 nd (AU (AW (K:=K)) (by rfl) T.BS PySem.boot_len (AA (pvC 0) AB)))
    (AE (QF PassesOwn.never (AQ O7 (pvC 2) (pvC 3) (AX _))
    (AE (psl 4 nd (AN BU (AN Bb (pvC 2) (pvC 3)) AD))
    (AF (A4 (AQ (Xr (K:=K) hr.Gu) (Bn K (pvC 0) (pvC 4)) (pvC 1) (AX _))
    (AF (psl 2 nd (AN Bb (pvC 4) AD)))
    (AF (psl 3 nd (pvC 4)))))))
    (AF (AS (pvC 2)))))),?_⟩
  have len:=hw.len
  refine ⟨_,.inl (SqL.of er),?_⟩
  refine UT (fun σ H'=>H'=H/\∃(lo hi:Nat) (o4:Option V),σ=[some (.ref r),some (.ref mk),some (.int (lo:Int)),some (.int (hi:Int)),o4]/\lo≤hi/\hi≤kss.length/\(∀(i:Nat) ks,hi≤i→kss[i]?=some ks→An ks ms=false))
   (fun σ _=>match σ with|[_,_,some (.int lo),some (.int hi),_]=>(hi-lo).toNat|_=>0) ⟨rfl,0,kss.length,none,by rw [len];rfl,Nat.zero_le _,Nat.le_refl _,fun i ks h e=>by have:=(List.getElem?_eq_some_iff.mp e).1;omega⟩ ?_ ?_
  ·rintro σ H' ⟨rfl,lo,hi,o4,rfl,h1,h2,h4⟩
   refine ⟨_,rfl,NY (fun e=>?_) fun e=>?_⟩
   ·have e:lo<hi:=by omega
    have em2:((lo:Int)+(hi:Int)) / 2=(((lo+hi) / 2:Nat):Int):=by omega
    have hm:(lo+hi) / 2<kss.length:=by omega
    have ek:kss[(lo+hi) / 2]?=some kss[(lo+hi) / 2]:=List.getElem?_eq_getElem hm
    obtain ⟨a,ea,eq⟩:=hw.ix ek
    have ea2:atI xs (((lo:Int)+(hi:Int)) / 2)=some (.ref a):=by rw [em2];exact AL ea
    obtain ⟨o,ho⟩:=hs _ (List.getElem_mem hm)
    refine ⟨⟨by decide,by decide⟩,_,_,SqL.of er,ea2,_,_,_,SqT.of eq,SqT.of em,ho,_,rfl,By (fun b=>?_) fun b=>?_⟩
    ·refine ⟨⟨rfl,(lo+hi) / 2+1,hi,_,by show _=[_,_,some (V.int _),_,_];rw [show ((((lo+hi) / 2+1:Nat)):Int)=((lo:Int)+(hi:Int)) / 2+1 by omega];rfl,by omega,h2,h4⟩,?_⟩
     show ((hi:Int)-(((lo:Int)+(hi:Int)) / 2+1)).toNat<((hi:Int)-(lo:Int)).toNat
     omega
    ·refine ⟨⟨rfl,lo,(lo+hi) / 2,_,by show _=[_,_,_,some (V.int _),_];rw [←em2];rfl,by omega,by omega,fun i ks hi' e'=>?_⟩,?_⟩
     ·cases z:An ks ms with
      | false=>rfl
      | true=>rw [←(Iy ho).1,Zn sd hi' ek e' z] at b;cases b
     ·show ((((lo:Int)+(hi:Int)) / 2)-(lo:Int)).toNat<((hi:Int)-(lo:Int)).toNat
      omega
   ·have e:lo=hi:=by omega
    subst e
    exact k lo h2 h4
  ·intro σ H1 R R' hR q
   obtain ⟨v,e1,q1⟩:=O8 q
   obtain ⟨u,e2,q2⟩:=O8 q1
   obtain ⟨i,rfl,q3⟩:=Hg q2
   obtain ⟨j,rfl,b,e5,q4⟩:=Hg q3
   show onV σ[2]? fun v=>onV σ[3]? _
   rw [e1,e2]
   exact ⟨b,e5,hR _ _ q4⟩
def Ent.pk:Ent→List Key
 | .it _ _ t a=>[.inl t,.inl a]|_=>[]
def Srt (E:List Ent):Prop:=E.Pairwise fun x y=>An y.rk x.rk=false
def pr (E:List Ent) (i:Int) (z:Str):List (List Key):=(E.filter fun e=>decide (e.ix=i/\e.ky=z)).map Ent.pk
theorem OT {e:Ent}(h:e.rg) (h4:e.ix<4):∃t a,e=.it e.ix e.ky t a:=by
 cases e with
 | it i k t a=>exact ⟨t,a,rfl⟩
 | pc=>exact absurd h4 (by have:=h.1;show ¬ _<(4:Int);exact Int.not_lt.mpr this)
theorem YX {E:List Ent}{i:Int}{z:Str}(h:∀e∈E,e.rg) (h4:i<4):sel E i z=(pr E i z).map (·.map kV):=by
 unfold sel pr
 rw [List.map_map]
 refine List.map_congr_left fun e he=>?_
 obtain ⟨h1,h2⟩:=List.mem_filter.mp he
 obtain ⟨t,a,q⟩:=OT (h e h1) (by rw [(of_decide_eq_true h2).1];exact h4)
 rw [q]
 rfl
theorem TN {H:Hp}:∀{xs:List V}{kss:List (List Key)},FU H xs (kss.map (·.map kV))→Rws H xs kss
 | _,[],h=>by cases h;exact .nil
 | _,k::kss,h=>by
  cases h with
  | cons h1 h2=>exact .cons h1 (TN h2)
theorem Vd {i t a t' a':Int}{k:Str}:An (Ent.it i k t a).rk (Ent.it i k t' a').rk=An [.inl t,.inl a] [.inl t',.inl a']:=by
 unfold Ent.rk
 rw [An,if_pos rfl,An,if_pos rfl,An,if_pos rfl,An,if_pos rfl]
theorem Zx {E:List Ent}{i:Int}{z:Str}(s:Srt E) (h:∀e∈E,e.rg) (h4:i<4):Sd (pr E i z):=by
 unfold pr Sd
 rw [List.pairwise_map]
 have q:(E.filter fun e=>decide (e.ix=i/\e.ky=z)).Pairwise fun x y=>An y.rk x.rk=false:=s.sublist List.filter_sublist
 refine q.imp_of_mem fun {x y} hx hy hxy=>?_
 obtain ⟨x1,x2⟩:=List.mem_filter.mp hx
 obtain ⟨y1,y2⟩:=List.mem_filter.mp hy
 obtain ⟨x2,x3⟩:=of_decide_eq_true x2
 obtain ⟨y2,y3⟩:=of_decide_eq_true y2
 obtain ⟨t,a,q1⟩:=OT (h x x1) (by rw [x2];exact h4)
 obtain ⟨t',a',q2⟩:=OT (h y y1) (by rw [y2];exact h4)
 rw [x2,x3] at q1
 rw [y2,y3] at q2
 rw [q1,q2,Vd] at hxy
 rw [q1,q2]
 exact hxy
theorem Yd {E:List Ent}{i:Int}{z:Str}(h:∀e∈E,e.rg) (h4:i<4) (t a:Int):∀ks∈pr E i z,∃o,Hq ks [.inl t,.inl a]=some o:=fun ks hk=>by
 obtain ⟨e,he,rfl⟩:=List.mem_map.mp hk
 obtain ⟨h1,h2⟩:=List.mem_filter.mp he
 obtain ⟨t',a',q⟩:=OT (h e h1) (by rw [(of_decide_eq_true h2).1];exact h4)
 rw [q]
 show ∃o,Hq [.inl t',.inl a'] [.inl t,.inl a]=some o
 unfold Hq
 split
 ·unfold Hq
  split
  ·exact ⟨_,rfl⟩
  ·exact ⟨_,if_pos rfl⟩
 ·exact ⟨_,if_pos rfl⟩
theorem Wi {α:Type}{m:α}{l:List α}{n:Nat}(h:∀x∈l.drop n,x=m):l.take n++[m]++l.drop n=l++[m]:=by
 have e:∀{r:List α},(∀x∈r,x=m)→[m]++r=r++[m]:=by
  intro r
  induction r with
  | nil=>intro _;rfl
  | cons a r ih =>
   intro h
   rw [h a List.mem_cons_self]
   show m::([m]++r)=m::(r++[m])
   rw [ih fun x hx=>h x (List.mem_cons_of_mem _ hx)]
 rw [List.append_assoc,e h,←List.append_assoc,List.take_append_drop]
theorem TJ (xs:List V) (n:Nat) (h:n≤xs.length):Jb xs none (some (n:Int))=xs.take n:=by
 unfold Jb
 rw [HT.Kl,HT.Mj,Nat.min_eq_left h]
 rfl
theorem OZ (xs:List V) (n:Nat) (h:n≤xs.length):Jb xs (some (n:Int)) none=xs.drop n:=by
 unfold Jb
 rw [HT.Kl,HT.Mj,Nat.min_eq_left h]
 exact List.take_of_length_le (by rw [List.length_drop];exact Nat.le_refl _)
theorem St.row {Hb H:Hp}{D:Int→Addr}{E:List Ent}{n:Nat}(st:St Hb H D E n) {i:Int}(h0:0≤i) (h6:i<6) (z:Str) {kvs:List (Key×V)}(e:H (D i)=some (.dK kvs)) :
  kvs.length≤n/\((Bc kvs (.inr z)=none/\sel E i z=[])\/∃r xs,Bc kvs (.inr z)=some (.ref r)/\Hb r=none/\H r=some (.lst xs)/\FU H xs (sel E i z)):=by
 obtain ⟨ow,hd⟩:=st.dic
 obtain ⟨kv,e1,hd⟩:=hd i h0 h6
 rw [e] at e1
 cases e1
 refine ⟨hd.le,?_⟩
 cases hv:Bc kvs (.inr z) with
 | none =>
  refine .inl ⟨rfl,?_⟩
  unfold sel
  rw [List.filter_eq_nil_iff.mpr fun x hx hz=>?_]
  ·rfl
  ·obtain ⟨q1,q2⟩:=of_decide_eq_true hz
   have:=hd.all x hx q1
   rw [q2] at this
   exact Pu hv this
 | some v =>
  obtain ⟨z',r,xs,e3,hb,_,er,tr⟩:=hd.row _ (IK hv)
  cases e3
  exact .inr ⟨r,xs,rfl,hb,er,tr⟩
theorem QJ {E:List Ent}{e:Ent}:∀j y,¬ (j=e.ix/\y=e.ky)→sel (E++[e]) j y=sel E j y:=fun j y h=>by
 rw [My,if_neg fun q=>h ⟨q.1.symm,q.2.symm⟩]
theorem QV {E:List Ent}{e:Ent}:∀x∈E++[e],x∈E\/(x.ix=e.ix/\x.ky=e.ky):=fun x hx=>by
 rcases List.mem_append.mp hx with h|h
 ·exact .inl h
 ·rw [List.mem_singleton.mp h];exact .inr ⟨rfl,rfl⟩
theorem SQ {H:Hp}{E:List Ent}{e:Ent}(h:∀x∈E,x.tl H) (he:e.tl H):∀x∈E++[e],x.tl H:=fun x hx=>by
 rcases List.mem_append.mp hx with hx|hx
 ·exact h x hx
 ·rw [List.mem_singleton.mp hx];exact he
def Za (ad:Ad):Sp:=fun vs H Q _=>∃(Hb:Hp) (D:Int→Addr) (E:List Ent) (n:Nat) (i:Int) (x p dx:Addr) (k:Str) (t a:Int),vs=[.ref x,.ref p]/\St Hb H D E n/\0≤i/\i<4/\H x=some (.ins ad.Ar dx [("rows", .ref (D i))])/\H p=some (.tup [.int t,.str k,.int a]) /\
 Srt (E++[.it i k t a])/\(∀e∈E,e.rg)/\n≤60/\E.length≤60/\∀H',Tp H H'→St Hb H' D (E++[.it i k t a]) (n+1)→Q .non H'
theorem Yk (T:Tx K mg ad):Ao P w K mg base CX0 2 ad.Dz ad.FH ["self", "item"] (Za ad):=by
 have G_ahead:=A6.mk (VN (P:=P) (w:=w) (base:=base) T) T.XJ T.IC.kp T.Xb
 refine T.D9.ok ME (fun vs H Q E h=>?_) (fun cdv A outer s H vs Q E hr h=>?_)
 ·obtain ⟨Hb,D,E,n,i,x,p,dx,k,t,a,rfl,_⟩:=h
  rfl
 ·obtain ⟨Hb,D,E,n,i,x,p,dx,z,t,a,rfl,st,i0,i4,ex,ep,so,rg,hn,hE,k⟩:=h
  have nd:=ME.nd
  refine ⟨_,(AE (psl 2 nd (Av (AA (Ci K (pvC 1) AD) (AA (Ci K (pvC 1) AD) AB))))
    (AE (psl 3 nd (U6 hr.u1 (Cr (pvC 0) rfl) (Ci K (pvC 1) AD) (Ak AB) ⟨rfl,rfl,rfl,rfl⟩))
    (AE (psl 4 nd (AJ G_ahead hr (AA (pvC 3) (AA (pvC 2) AB))))
    (AF (Ml hr.u1 (Cr (pvC 0) rfl) (Ci K (pvC 1) AD) (AN A1 (AN A1 (AY (Ah (K:=K)) (pvC 3) Aj (AZ (pvC 4))) (Ak (AA (pvC 2) AB))) (AY (Ah (K:=K)) (pvC 3) (AZ (pvC 4)) Aj)) rfl))))),?_⟩
  have sz:sizeLine=16777216:=sizeLine_eq
  have i6:i<6:=by omega
  refine ⟨_,_,SqT.of ep,AL (j:=0) rfl,_,_,SqT.of ep,AL (j:=2) rfl,le1 rfl,fun pp hpp=>?_⟩
  refine AV (o:=.tup [.int t,.int a]) hpp fun H1 s1 epp=>?_
  obtain ⟨kvs,ed⟩:∃kvs,H1 (D i)=some (.dK kvs):=let ⟨_,h⟩:=(st.same s1).dic;let ⟨kvs,e,_⟩:=h i i0 i6;⟨kvs,e⟩
  refine ⟨x,_,dx,_,_,rfl,s1 _ _ ex,T.JV,T.B6,rfl,D i,rfl,.inl ⟨kvs,.inl ed⟩,_,_,SqT.of (s1 _ _ ep),AL (j:=1) rfl,Nat.zero_le _,fun el hel=>?_⟩
  refine AV (o:=.lst []) hel fun H2 s2 eel=>?_
  have s02:=s1.trans s2
  have ed2:=s2 _ _ ed
  obtain ⟨lk,row⟩:=(st.same s02).row i0 i6 z ed2
  obtain ⟨rw_,xs,erw,er,tr⟩:∃r xs,(Bc kvs (.inr z)).getD (.ref el)=.ref r/\H2 r=some (.lst xs)/\FU H2 xs (sel E i z):=by
   rcases row with ⟨e1,e2⟩|⟨r,xs,e1,_,er,tr⟩
   ·exact ⟨el,[],by rw [e1];rfl,eel,by rw [e2];exact .nil⟩
   ·exact ⟨r,xs,by rw [e1];rfl,er,tr⟩
  refine ⟨_,IJ.k (k:=Sum.inr z) ed2,?_⟩
  rw [erw]
  have lE:(pr E i z).length≤E.length:=by unfold pr;rw [List.length_map];exact List.length_filter_le _ _
  obtain ⟨so1,_,so2⟩:=List.pairwise_append.mp so
  have es:=YX (z:=z) rg i4
  rw [es] at tr
  have hxl:=tr.len
  rw [List.length_map] at hxl
  refine ⟨rw_,pp,xs,pr E i z,[.inl t,.inl a],rfl,er,TN tr,by omega,s2 _ _ epp,Yd rg i4 t a,Zx so1 rg i4,fun m hm b2=>?_⟩
  have all:∀ks∈(pr E i z).drop m,ks=[.inl t,.inl a]:=fun ks hk=>by
   obtain ⟨j,hj,e⟩:=List.mem_iff_getElem.mp hk
   rw [List.length_drop] at hj
   have q:=b2 (m+j) ks (by omega) (by rw [←e,List.getElem_drop];exact List.getElem?_eq_getElem _)
   obtain ⟨y,hy,rfl⟩:=List.mem_map.mp (List.mem_of_mem_drop hk)
   obtain ⟨y1,y2⟩:=List.mem_filter.mp hy
   obtain ⟨y2,y3⟩:=of_decide_eq_true y2
   obtain ⟨t',a',q2⟩:=OT (rg y y1) (by rw [y2];exact i4)
   rw [y2,y3] at q2
   have q3:=so2 y y1 _ (List.mem_singleton.mpr rfl)
   rw [q2,Vd] at q3
   rw [q2] at q ⊢
   exact Hl q q3
  refine ⟨_,rfl,rw_,xs,rfl,SqL.of er,fun c1 hc1=>?_⟩
  rw [TJ xs m (by omega)]
  refine AV (o:=.lst (xs.take m)) hc1 fun H3 s3 ec1=>?_
  refine ⟨le1 rfl,fun c2 hc2=>?_⟩
  refine AV (o:=.lst [.ref pp]) hc2 fun H4 s4 ec2=>?_
  refine ⟨c1,c2,_,_,rfl,rfl,s4 _ _ ec1,ec2,by rw [List.length_take];simp;omega,fun c3 hc3=>?_⟩
  refine AV hc3 fun H5 s5 ec3=>?_
  have s25:=(s3.trans s4).trans s5
  refine ⟨_,rfl,rw_,xs,rfl,SqL.of (s25 _ _ er),fun c4 hc4=>?_⟩
  rw [OZ xs m (by omega)]
  refine AV (o:=.lst (xs.drop m)) hc4 fun H6 s6 ec4=>?_
  refine ⟨c3,c4,_,_,rfl,rfl,s6 _ _ ec3,ec4,by rw [List.length_append,List.length_take,List.length_drop];simp;omega,fun c5 hc5=>?_⟩
  have s06:=s02.trans (s25.trans s6)
  refine AV hc5 fun H7 s7 ec5=>?_
  have s27:=(s25.trans s6).trans s7
  have s07:=s02.trans s27
  have ed7:=s27 _ _ ed2
  refine ⟨x,_,dx,_,_,rfl,s07 _ _ ex,T.JV,T.B6,rfl,_,_,SqT.of (s07 _ _ ep),AL (j:=1) rfl,D i,_,rfl,N9.k (k:=Sum.inr z) ed7 (by omega),?_⟩
  have t7:=tr.keep s27.tp
  refine k _ (fun p' xs' h=>by have h:=s07 _ _ h;rw [AM fun z'=>by rw [z',ed7] at h;cases h];exact h) (st.putL (E':=E++[Ent.it i z t a]) (z:=z) s07 (s06.free hc5) i0 i6 ed7 ec5 ?_ (QJ (e:=.it i z t a)) (QV (e:=.it i z t a)) (SQ (fun y hy=>Ent.Hc (st.tl y hy) s07.tp) trivial))
  rw [My,if_pos ⟨rfl,rfl⟩,es,show (Ent.it i z t a).bd=[Sum.inl t,Sum.inl a].map kV from rfl]
  have:=Dg (Dg (ML m t7) (.cons ⟨pp,rfl,(s2.trans s27) _ _ epp⟩ .nil)) (MM m t7)
  have e:(((pr E i z).map (·.map kV)).take m++[[V.int t,.int a]]++((pr E i z).map (·.map kV)).drop m)=(pr E i z).map (·.map kV)++[[Sum.inl t,Sum.inl a].map kV]:=by
   refine Wi fun y hy=>?_
   rw [←List.map_drop] at hy
   obtain ⟨ks,hk,rfl⟩:=List.mem_map.mp hy
   rw [all ks hk]
   rfl
  rw [←e]
  exact this
def tol (e:Ent):List V:=.str e.ky::e.bd
def YI:Sp:=fun vs H Q _=>∃(Hb:Hp) (D:Int→Addr) (E:List Ent) (n:Nat) (i:Int),vs=[.ref (D i)]/\St Hb H D E n/\0≤i/\i<6/\(E.filter fun e=>decide (e.ix=i)).Pairwise (fun x y=>kLt (.inr y.ky) (.inr x.ky)=false)/\E.length≤60/\n≤60 /\
 ∀H' r xs,AO H H'→H r=none→H' r=some (.lst xs)→FU H' xs ((E.filter fun e=>decide (e.ix=i)).map tol)→Q (.ref r) H'
theorem SU (E:List Ent) (i:Int) (z:Str):(sel E i z).length≤E.length:=by
 unfold sel
 rw [List.length_map]
 exact List.length_filter_le _ _
theorem Y7 (e:Ent):e.bd≠[]/\e.bd.length≤3:=by
 cases e with
 | it=>exact ⟨fun z=>(nomatch z),le1 rfl⟩
 | pc=>exact ⟨fun z=>(nomatch z),le1 rfl⟩
theorem So (T:Tx K mg ad):Ao P w K mg base CX0 1 ad.Cy ad.EC ["rows"] YI:=by
 refine T.B7.ok KY (fun vs H Q E h=>?_) (fun cdv A outer s H vs Q E hr h=>?_)
 ·obtain ⟨Hb,D,E,n,i,rfl,_⟩:=h
  rfl
 ·obtain ⟨Hb,D,E,n,i,rfl,st,i0,i6,so,hE,hn,k⟩:=h
  have nd:=KY.nd
  refine ⟨_,(AE (psl 1 nd (Ak AB))
    (AE (Df PassesOwn.never rfl (DW (K:=K) (AU (GS rfl) (by rfl) T.Ef PyProof.Rows.boot_sorted (AA (pvC 0) AB))) (pgn 2 nd)
    (AF (DH (CA (K:=K) F.plainAttrs_list F.slot_list_extend F.type_list_extend LZ (pvC 1) (AA (pcm (AH Gj) [("key", 2)] ⟨rfl,rfl,trivial⟩ (DW (K:=K) (JL hr.u1 (pvC 0) (pvC 2) (fun _ _=>rfl))) (fun _ _ _ _=>Fb) (fun _ _ _ _=>(AN (Fg (K:=K)) (Av (AA (pvC 1) AB)) (pvC 0)))) AB)))))
    (AF (AS (pvC 1))))),?_⟩
  have sz:sizeLine=16777216:=sizeLine_eq
  obtain ⟨ow,hd⟩:=st.dic
  obtain ⟨kvs,ed,hd⟩:=hd i i0 i6
  refine ⟨Nat.zero_le _,fun l hl=>?_⟩
  refine AV (o:=.lst []) hl fun H1 s1 el=>?_
  refine ⟨D i,kvs,rfl,s1 _ _ ed,.inr fun q hq'=>?_,Nat.lt_of_le_of_lt hd.le (Nat.lt_of_le_of_lt hn (by decide)),fun ls ks hls pk ps=>?_⟩
  ·obtain ⟨z,r,xs,e,_⟩:=hd.row q hq'
   exact ⟨z,by rw [e]⟩
  have hls':=hls
  refine AV (o:=.lst (ks.map kV)) hls fun H2 s2 els=>?_
  have nll:ls≠l:=fun z=>by rw [z,el] at hls';cases hls'
  have km:∀k∈ks,k∈kvs.map (·.1):=fun k hk=>pk.mem_iff.mp hk
  have hlk:=hd.le
  have lks:ks.length≤60:=by rw [pk.length_eq,List.length_map];omega
  have flt:∀z:Str,(E.filter fun e=>decide (e.ix=i)).filter (fun e=>decide ((Sum.inr e.ky:Key)=.inr z))=E.filter fun e=>decide (e.ix=i/\e.ky=z):=fun z=>by
   rw [List.filter_filter]
   refine List.filter_congr fun e _=>?_
   by_cases h1:e.ix=i <;> by_cases h2:e.ky=z <;> simp [h1,h2]
  refine ⟨ls,rfl,⟨_,SqL.of els⟩,HJ (xs:=ks.map kV) (fun j σ H'=>∃(o2:Option V) (acc:List V),σ=[some (.ref (D i)),some (.ref l),o2]/\AO H H'/\H' l=some (.lst acc)/\H' ls=some (.lst (ks.map kV))/\FU H' acc (((ks.take j).flatMap fun k=>(E.filter fun e=>decide (e.ix=i)).filter fun e=>decide ((Sum.inr e.ky:Key)=k)).map tol)/\acc.length≤1000 * j)
   ⟨none,[],rfl,s1.trans s2,s2 _ _ el,els,.nil,Nat.zero_le _⟩ (fun i σ H' _ ⟨_,_,_,_,_,e,_⟩=>SqL.of e) ?_ ?_⟩
  ·rintro j x σ H3 hx ⟨o2,acc,rfl,s3,el3,els3,hw3,la⟩
   rw [List.getElem?_map] at hx
   obtain ⟨ky,hky,rfl⟩:=Option.map_eq_some_iff.mp hx
   have hi:j<ks.length:=(List.getElem?_eq_some_iff.mp hky).1
   obtain ⟨v,hv⟩:=SM (km ky (List.mem_of_getElem? hky))
   obtain ⟨z,r,xs,e1,_,_,er,tr⟩:=hd.row _ (IK hv)
   cases e1
   have hxl:=tr.len
   have hsl:=SU E i z
   have ed3:=s3 _ _ ed
   refine ⟨.inl ⟨rfl,_,SqL.of el3⟩,D i,_,rfl,by have:=IJ.k (k:=Sum.inr z) ed3;rw [hv] at this;exact this,r,rfl,⟨_,SqL.of (s3 _ _ er)⟩,?_⟩
   refine KJ (K:=K) (xs:=xs) (fun j τ acc' H'=>(∃o,τ=[o,some (.str z)])/\AO H3 H'/\FU H' acc' (((sel E i z).take j).map fun b=>V.str z::b)) (by omega) ⟨⟨none,rfl⟩,AO.refl _,.nil⟩ (fun j τ acc' H' ⟨_,s',_⟩=>SqL.of (s' _ _ (s3 _ _ er))) ?_ ?_
   ·rintro j y τ acc' H4 R1 hy _ ⟨⟨o,rfl⟩,s4,hw4⟩ k1
    obtain ⟨a,vs,rfl,ek,ea⟩:=tr.at hy
    have ea4:=s4 _ _ (s3 _ _ ea)
    obtain ⟨e,_,rfl⟩:=List.mem_map.mp (List.mem_of_getElem? ek)
    obtain ⟨b1,b2⟩:=Y7 e
    refine ⟨le1 rfl,fun p hp=>?_⟩
    refine AV (o:=.tup [.str z]) hp fun H5 s5 ep=>?_
    refine ⟨p,a,_,_,rfl,rfl,SqT.of ep,SqT.of (s5 _ _ ea4),by simp,by simp;omega,fun e=>absurd e b1,fun _ q hq'=>k1 _ _ _ ⟨⟨_,rfl⟩,(s4.trans s5).upd hq',?_⟩⟩
    rw [List.take_add_one,ek,List.map_append]
    exact (hw4.keep (s5.upd hq').tp).snoc AG
   ·rintro τ acc' H4 la4 ⟨_,s4,hw4⟩ C hC
    refine AV (o:=.lst acc') hC fun H5 s5 eC=>?_
    have s35:=s4.trans s5
    have el5:=s35 _ _ el3
    have tp5:Tp H5 (upd H5 l (.lst (acc++acc'))):=(Tp.refl H5).upd el5 fun xs=>by intro z;cases z
    refine ⟨l,C,_,_,rfl,rfl,el5,eC,by omega,_,acc++acc',rfl,(s3.trans s35).Ma hl,AG,by rw [AM nll];exact s35 _ _ els3,?_,by rw [List.length_append];omega⟩
    rw [List.take_add_one,hky,List.flatMap_append,List.map_append]
    refine FU.keep (Dg (hw3.keep s35.tp) ?_) tp5
    rw [List.take_of_length_le (by omega)] at hw4
    have:=hw4.keep s5.tp
    show FU H5 acc' (([Sum.inr z].flatMap _).map tol)
    rw [List.flatMap_cons,List.flatMap_nil,List.append_nil,flt z]
    unfold sel at this
    rw [List.map_map] at this
    rwa [List.map_congr_left fun e he=>?_]
    show tol e=V.str z::e.bd
    unfold tol
    rw [(of_decide_eq_true (List.mem_filter.mp he).2).2]
  ·rintro σ H3 ⟨o2,acc,rfl,s3,el3,els3,hw3,la⟩
   rw [List.length_map,List.take_of_length_le (Nat.le_refl _)] at hw3
   refine k H3 l acc s3 hl el3 ?_
   rwa [grp (fun e:Ent=>(Sum.inr e.ky:Key)) ps (pk.nodup_iff.mpr hd.nd) so fun e he=>?_] at hw3
   obtain ⟨h1,h2⟩:=List.mem_filter.mp he
   exact pk.mem_iff.mpr (hd.all e h1 (of_decide_eq_true h2))
def Ui (C:Addr) (fs:V→List (Str×V)):Sp:=fun vs H Q _=>∃(Hb:Hp) (D:Int→Addr) (E:List Ent) (n:Nat) (i:Int) (x dx:Addr) (v:V),vs=[.ref x]/\H x=some (.ins C dx (fs v++([("rows", V.ref (D i))]:List (Str×V))))/\St Hb H D E n/\0≤i/\i<6/\(E.filter fun e=>decide (e.ix=i)).Pairwise (fun x y=>kLt (.inr y.ky) (.inr x.ky)=false)/\E.length≤60/\n≤60 /\
 ∀H' r xs,AO H H'→H r=none→H' r=some (.lst xs)→FU H' xs ((E.filter fun e=>decide (e.ix=i)).map tol)→Q (.ref r) H'
theorem W0 (T:Tx K mg ad):Ao P w K mg base CX0 2 ad.C7 ad.EK ["self"] (Ui ad.Ar fun _=>[]):=by
 have G_with_keys:=A6.mk (So (P:=P) (w:=w) (base:=base) T) T.MQ T.B7.kp T.MX
 refine T.DG.ok Kh (fun vs H Q E h=>?_) (fun cdv A outer s H vs Q E hr h=>?_)
 ·obtain ⟨Hb,D,E,n,i,x,dx,v,rfl,_⟩:=h
  rfl
 ·obtain ⟨Hb,D,E,n,i,x,dx,v,rfl,ex,h⟩:=h
  have nd:=Kh.nd
  refine ⟨_,(AF (AS (AJ G_with_keys hr (AA (Cr (pvC 0) rfl) AB)))),?_⟩
  exact ⟨x,_,dx,_,_,rfl,ex,T.JV,T.B6,rfl,Hb,D,E,n,i,rfl,h⟩
theorem Th (T:Tx K mg ad):Ao P w K mg base CX0 2 ad.BZ ad.B0 ["self"] (Ui ad.Ai fun v=>[("step", v)]):=by
 have G_with_keys:=A6.mk (So (P:=P) (w:=w) (base:=base) T) T.MQ T.B7.kp T.MX
 refine T.Ba.ok IF (fun vs H Q E h=>?_) (fun cdv A outer s H vs Q E hr h=>?_)
 ·obtain ⟨Hb,D,E,n,i,x,dx,v,rfl,_⟩:=h
  rfl
 ·obtain ⟨Hb,D,E,n,i,x,dx,v,rfl,ex,h⟩:=h
  have nd:=IF.nd
  refine ⟨_,(AF (AS (AJ G_with_keys hr (AA (Cr (pvC 0) rfl) AB)))),?_⟩
  exact ⟨x,_,dx,_,_,rfl,ex,T.Iz,T.CC,rfl,Hb,D,E,n,i,rfl,h⟩
theorem mkS {H H':Hp}{C x dx:Addr}(hx:H x=none) (hdx:H dx=none) (s:Cn x (upd (upd H dx (.own x)) x (.ins C dx [])) H'):AO H H':=fun b o e =>
 s b o (Af e hx) (by rw [AM (Af e hx),AM (Af e hdx)];exact e)
theorem mkN {H:Hp}{C x dx b:Addr}(hn:dx≠x) (h:upd (upd H dx (.own x)) x (.ins C dx []) b=none):H b=none/\b≠x:=by
 have n1:b≠x:=fun z=>by rw [z,AG] at h;cases h
 have n2:b≠dx:=fun z=>by rw [z,AM hn,AG] at h;cases h
 rw [AM n1,AM n2] at h
 exact ⟨h,n1⟩
def WR (ad:Ad):Sp:=fun vs H Q _=>∃x dx,vs=[.ref x]/\H x=some (.ins ad.Ar dx [])/\∀H' d,Cn x H H'→H d=none→H' d=some (.dK [])→H' x=some (.ins ad.Ar dx [("rows", .ref d)])→Q .non H'
theorem VH (T:Tx K mg ad):Ao P w K mg base CX0 1 ad.Aw ad.Bd ["self"] (WR ad):=by
 refine T.BK.ok G0 (fun vs H Q E h=>?_) (fun cdv A outer s H vs Q E hr h=>?_)
 ·obtain ⟨x,dx,rfl,_⟩:=h
  rfl
 ·obtain ⟨x,dx,rfl,e,k⟩:=h
  have nd:=G0.nd
  refine ⟨_,(AF (DV (pvC 0) Kr rfl)),?_⟩
  intro d hd
  have n:=Af e hd
  exact ⟨x,_,dx,[],rfl,by rw [AM n];exact e,T.JV,T.B6,by decide,k _ d ((AO.Q7 hd).x x).upd hd (by rw [AM n.symm];exact AG) AG⟩
def Ul (ad:Ad):Sp:=fun vs H Q _=>∃x dx v,vs=[.ref x,v]/\H x=some (.ins ad.Ai dx [])/\∀H' d,Cn x H H'→H d=none→H' d=some (.dK [])→H' x=some (.ins ad.Ai dx [("step", v),("rows", .ref d)])→Q .non H'
theorem To (T:Tx K mg ad):Ao P w K mg base CX0 1 ad.As ad.BQ ["self", "step"] (Ul ad):=by
 refine T.BE.ok Gh (fun vs H Q E h=>?_) (fun cdv A outer s H vs Q E hr h=>?_)
 ·obtain ⟨x,dx,v,rfl,_⟩:=h
  rfl
 ·obtain ⟨x,dx,v,rfl,e,k⟩:=h
  have nd:=Gh.nd
  refine ⟨_,(AE (DV (pvC 0) (pvC 1) rfl)
    (AF (DV (pvC 0) Kr rfl))),?_⟩
  refine ⟨x,_,dx,[],rfl,e,T.Iz,T.Ej,by decide,fun d hd=>?_⟩
  have n:x≠d:=Af AG hd
  have hd':H d=none:=by rw [AM n.symm] at hd;exact hd
  exact ⟨x,_,dx,_,rfl,by rw [AM n];exact AG,T.Iz,T.CC,(by show 1<1000;decide),k _ d ((((AO.refl H).x x).upd.trans ((AO.Q7 hd).x x)).upd) hd' (by rw [AM n.symm];exact AG) AG⟩
def ckF (s a b:Int):List (Str×V):=[("slack", .int s),("now", .int a),("count", .int b)]
def Um (ad:Ad):Sp:=fun vs H Q _=>∃(x dx:Addr) (s:Int),vs=[.ref x,.int s]/\0≤s/\s≤1000000000/\H x=some (.ins ad.Am dx [])/\∀H',Cn x H H'→H' x=some (.ins ad.Am dx (ckF s 0 0))→Q .non H'
theorem Tq (T:Tx K mg ad):Ao P w K mg base CX0 3 ad.Au ad.BR ["self", "slack"] (Um ad):=by
 have G_is_among:=A6.mk (MN (P:=P) (w:=w) (base:=base) T) T.NR T.DD.kp T.Nl
 refine T.BF.ok Gi (fun vs H Q E h=>?_) (fun cdv A outer s H vs Q E hr h=>?_)
 ·obtain ⟨x,dx,s,rfl,_⟩:=h
  rfl
 ·obtain ⟨x,dx,s,rfl,s0,s1,e,k⟩:=h
  obtain ⟨t_MOST_SLACK,h_MOST_SLACK⟩:=T.El
  have nd:=Gi.nd
  refine ⟨_,(AE (A4 (LX (DU (AJ G_is_among hr (AA (pvC 1) (AA AD (AA (Bg (v:=.int 1000000000) (by rfl) h_MOST_SLACK ⟨t_MOST_SLACK,rfl⟩) AB))))))
    OJ
    Ab)
    (AE (DV (pvC 0) (pvC 1) rfl)
    (AE (DV (pvC 0) AD rfl)
    (AF (DV (pvC 0) AD rfl))))),?_⟩
  refine ⟨.int s,_,_,rfl,.int s,_,rfl,?_⟩
  rw [show GU 0 1000000000 (.int s)=true by simp [GU];omega]
  refine DJ ⟨x,_,dx,[],rfl,e,T.GR,T.DY,by decide,?_⟩
  refine ⟨x,_,dx,_,rfl,AG,T.GR,T.Ct,(by show 1<1000;decide),?_⟩
  exact ⟨x,_,dx,_,rfl,AG,T.GR,T.Br,(by show 2<1000;decide),k _ ((AO.refl H).x x).upd.upd.upd AG⟩
def Oj (ad:Ad) (G:Hp) (J d0 d1:Addr):Prop:=G d0=some (.dK [])/\G d1=some (.dK [])/\∃dx wi l S0 S1 x0 x1,G J=some (.ins ad.BA dx [("within", wi),("sides", .ref l)])/\G l=some (.lst [.ref S0,.ref S1])/\G S0=some (.ins ad.Ar x0 [("rows", .ref d0)])/\G S1=some (.ins ad.Ar x1 [("rows", .ref d1)])
def WW (ad:Ad):Sp:=fun vs H Q _=>∃x dx v,vs=[.ref x,v]/\H x=some (.ins ad.BA dx [])/\∀H' d0 d1,Cn x H H'→H d0=none→H d1=none→d0≠d1→(∀G,(∀b o,(H b=none\/b=x)→H' b=some o→G b=some o)→Oj ad G x d0 d1)→Q .non H'
theorem VL (T:Tx K mg ad):Ao P w K mg base CX0 3 ad.Ax ad.Be ["self", "within"] (WW ad):=by
 have G_Side___init__:=VH (P:=P) (w:=w) (base:=base) T
 refine T.BL.ok G1 (fun vs H Q E h=>?_) (fun cdv A outer s H vs Q E hr h=>?_)
 ·obtain ⟨x,dx,v,rfl,_⟩:=h
  rfl
 ·obtain ⟨x,dx,v,rfl,e,k⟩:=h
  have nd:=G1.nd
  refine ⟨_,(AE (DV (pvC 0) (pvC 1) rfl)
    (AF (DV (pvC 0) (Ak (AA (QH T.Sr G_Side___init__ (hr.mono (by decide)) (by rfl) T.Sv T.IG .nil Ic) (AA (QH T.Sr G_Side___init__ (hr.mono (by decide)) (by rfl) T.Sv T.IG .nil Ic) AB))) rfl))),?_⟩
  refine ⟨x,_,dx,[],rfl,e,T.Mr,T.DX,by decide,?_⟩
  generalize hH:upd H x (HO.ins ad.BA dx (G6 "within" v []))=H1
  have xs1:Cn x H H1:=by rw [←hH];exact ((AO.refl H).x x).upd
  have e1:H1 x=some (.ins ad.BA dx [("within", v)]):=by rw [←hH];exact AG
  have fr1:∀b,H1 b=none→H b=none/\b≠x:=fun b hb=>by
   have n:b≠x:=fun z=>by rw [z,e1] at hb;cases hb
   rw [←hH,AM n] at hb
   exact ⟨hb,n⟩
  clear hH
  intro x0 dx0 hx0 hdx0 hn0
  refine ⟨x0,dx0,rfl,AG,fun H2 d0 m2 f2 ed0 ex0=>⟨rfl,?_⟩⟩
  have s2:=mkS hx0 hdx0 m2
  have f2:=(mkN hn0 f2).1
  intro x1 dx1 hx1 hdx1 hn1
  refine ⟨x1,dx1,rfl,AG,fun H3 d1 m3 f3 ed1 ex1=>⟨rfl,le1 rfl,fun l hl=>?_⟩⟩
  have s3:=mkS hx1 hdx1 m3
  have f3:=(mkN hn1 f3).1
  have hl1:=(s2.trans s3).free hl
  refine AV (o:=.lst [.ref x0,.ref x1]) hl fun H4 s4 el=>?_
  have s14:=(s2.trans s3).trans s4
  refine ⟨x,_,dx,_,rfl,s14 _ _ e1,T.Mr,T.CB,(by show 1<1000;decide),?_⟩
  have F0:=fr1 _ f2
  have F1:=fr1 _ (s2.free f3)
  have X0:=fr1 _ hx0
  have X1:=fr1 _ (s2.free hx1)
  have L:=fr1 _ hl1
  refine k _ d0 d1 (xs1.trans (s14.x x)).upd F0.1 F1.1 (fun z=>by rw [z] at ed0;rw [ed0] at f3;cases f3) fun G hG=>?_
  have up:∀{b o},H b=none/\b≠x→H4 b=some o→G b=some o:=fun h q=>hG _ _ (.inl h.1) (by rw [AM h.2];exact q)
  have s24:=s3.trans s4
  exact ⟨up F0 (s24 _ _ ed0),up F1 (s4 _ _ ed1),dx,v,l,x0,x1,dx0,dx1,hG _ _ (.inr rfl) AG,up L el,up X0 (s24 _ _ ex0),up X1 (s4 _ _ ex1)⟩
def Uy:List (List V):=[[.str "take", .str "ab", .str "buy"],[.str "take", .str "ac", .str "sell"],[.str "join", .str "ad", .str "ab", .str "ac", .int 9],[.str "join", .str "ag", .str "ab", .str "ab", .int 3],[.str "each", .str "ae", .str "ad", .str "sum", .int 6,.int 3],[.str "gap", .str "af", .str "ag", .str "least", .int 4]]
def jpl (n:Nat):List Int:=if n≤2 then [] else if n≤3 then [2] else [2,3]
theorem Sb {n:Nat}{vs:List V}(h:Uy[n]?=some vs):∃z:Str,vs[0]?=some (.str z)/\(z = "join" → jpl (n+1)=jpl n++[(n:Int)]/\∃v,vs[4]?=some v)/\(¬ z = "join" → jpl (n+1)=jpl n)/\inV (.str z) [.str "each", .str "gap"]=decide (4≤n):=by
 match n,h with
 | 0,h=>cases h;exact ⟨_,rfl,fun z=>absurd z (by decide),fun _=>rfl,by decide +kernel⟩
 | 1,h=>cases h;exact ⟨_,rfl,fun z=>absurd z (by decide),fun _=>rfl,by decide +kernel⟩
 | 2,h=>cases h;exact ⟨_,rfl,fun _=>⟨rfl,_,rfl⟩,fun z=>absurd rfl z,by decide +kernel⟩
 | 3,h=>cases h;exact ⟨_,rfl,fun _=>⟨rfl,_,rfl⟩,fun z=>absurd rfl z,by decide +kernel⟩
 | 4,h=>cases h;exact ⟨_,rfl,fun z=>absurd z (by decide),fun _=>rfl,by decide +kernel⟩
 | 5,h=>cases h;exact ⟨_,rfl,fun z=>absurd z (by decide),fun _=>rfl,by decide +kernel⟩
def IH (H:Hp) (lp:Addr) (xs:List V):Prop:=H lp=some (.lst xs)/\FU H xs Uy
theorem IH.same {H H':Hp}{lp:Addr}{xs:List V}(h:IH H lp xs) (s:AO H H'):IH H' lp xs:=⟨s _ _ h.1,h.2.keep s.tp⟩
def JsR (ad:Ad) (G:Hp) (dj d0 d1 d2 d3:Addr):Prop:=∃J2 J3,G dj=some (.dK [(.inl 2,.ref J2),(.inl 3,.ref J3)])/\Oj ad G J2 d0 d1/\Oj ad G J3 d2 d3
def WV (ad:Ad):Sp:=fun vs H Q _=>∃lp xs,vs=[.ref lp]/\IH H lp xs/\∀H' dj d0 d1 d2 d3,AO H H'→([d0,d1,d2,d3]:List Addr).Nodup→(∀d∈([d0,d1,d2,d3]:List Addr),H d=none)→(∀G,(∀b o,H b=none→H' b=some o→G b=some o)→JsR ad G dj d0 d1 d2 d3)→Q (.ref dj) H'
theorem QE {kvs:List (Key×V)}{k:Key}{v:V}(h:k∉kvs.map (·.1)):putK kvs k v=kvs++[(k,v)]:=by
 unfold putK
 rw [if_neg]
 intro q
 obtain ⟨p,hp,e⟩:=List.any_eq_true.mp q
 exact h (List.mem_map.mpr ⟨p,hp,of_decide_eq_true e⟩)
theorem QO (T:Tx K mg ad):Ao P w K mg base CX0 5 ad.Du ad.FA ["plan"] (WV ad):=by
 have G_Join___init__:=VL (P:=P) (w:=w) (base:=base) T
 refine T.D8.ok L9 (fun vs H Q E h=>?_) (fun cdv A outer s H vs Q E hr h=>?_)
 ·obtain ⟨lp,xs,rfl,_⟩:=h
  rfl
 ·obtain ⟨lp,xs,rfl,pl,k⟩:=h
  have nd:=L9.nd
  refine ⟨_,(AE (psl 1 nd Kr)
    (AE (Df PassesOwn.never rfl (O4 (K:=K) (by rfl) T.Cq (pvC 0)) (RK rfl (G7 (pgn 2 nd) (G7 (pgn 3 nd) O5)))
    (AF (A4 (AQ Cj (Ci K (pvC 3) AD) AI (AX _))
    (AF (Ml hr.u1 (pvC 1) (pvC 2) (Mm T.W5 G_Join___init__ (hr.mono (by decide)) (by rfl) T.XD T.Me .nil Ic (AA (Ci K (pvC 3) AD) AB)) rfl))
    Ab)))
    (AF (AS (pvC 1))))),?_⟩
  have sz:sizeLine=16777216:=sizeLine_eq
  intro dj hj
  refine AV (o:=.dK []) hj fun H0 s0 ej=>?_
  have lx:=pl.2.len
  refine ⟨lp,rfl,⟨_,SqL.of (s0 _ _ pl.1)⟩,Qp (K:=K) (xs:=xs) (fun n σ H'=>∃(o2 o3:Option V) (js:List (Int×Addr×Addr×Addr)),σ=[some (.ref lp),some (.ref dj),o2,o3]/\AO H H'/\H' dj=some (.dK (js.map fun j=>(.inl j.1,.ref j.2.1)))/\js.map (·.1)=jpl n /\
    (js.flatMap fun j=>[j.2.2.1,j.2.2.2]).Nodup/\(∀d∈js.flatMap fun j=>[j.2.2.1,j.2.2.2],H d=none)/\∀G,(∀b o,H b=none→b≠dj→H' b=some o→G b=some o)→∀j∈js,Oj ad G j.2.1 j.2.2.1 j.2.2.2)
   ⟨none,none,[],rfl,s0,ej,rfl,.nil,fun d hd=>(nomatch hd),fun G _ j hj=>(nomatch hj)⟩ (fun n σ H' _ ⟨_,_,_,_,s',_⟩=>SqL.of (s' _ _ pl.1)) ?_ ?_⟩
  ·rintro n x σ H1' pt hx ⟨o2,o3,js,rfl,s1',ej1',hp,nd',hn',hG'⟩ hpt
   obtain ⟨a,vs,rfl,ea,eq⟩:=pl.2.at hx
   obtain ⟨z,e0,yes,no,_⟩:=Sb ea
   refine AV (o:=.tup [.int (n:Int),.ref a]) hpt fun H1 s11 ept=>?_
   have s1:=s1'.trans s11
   have ej1:=s11 _ _ ej1'
   have hG:∀G,(∀b o,H b=none→b≠dj→H1 b=some o→G b=some o)→∀j∈js,Oj ad G j.2.1 j.2.2.1 j.2.2.2:=fun G g=>hG' G fun b o q1 q2 q3=>g b o q1 q2 (s11 _ _ q3)
   have eq1:=s1 _ _ eq
   refine ⟨pt,_,rfl,SqT.of ept,rfl,_,_,rfl,_,_,rfl,rfl,?_⟩
   refine ⟨_,_,SqT.of eq1,AL (j:=0) e0,rfl,_,rfl,K4 (fun ez=>?_) fun ez=>⟨_,_,js,rfl,s1,ej1,by rw [no ez];exact hp,nd',hn',hG⟩⟩
   obtain ⟨jp,v,e4⟩:=yes ez
   refine ⟨_,_,SqT.of eq1,AL (j:=4) e4,fun x dx hx hdx hxn=>⟨x,dx,v,rfl,AG,fun H2 d0 d1 m f0 f1 n01 hJ=>⟨rfl,?_⟩⟩⟩
   have s2:=mkS hx hdx m
   have f0:=(mkN hxn f0).1
   have f1:=(mkN hxn f1).1
   have s12:=s1.trans s2
   have ej2:=s2 _ _ ej1
   have ln:n<6:=by have:=(List.getElem?_eq_some_iff.mp ea).1;exact this
   have ll:js.length≤2:=by
    have:js.length=(jpl n).length:=by rw [←hp,List.length_map]
    rw [this];unfold jpl;split <;> (try split) <;> decide
   have nk:(Sum.inl (n:Int):Key)∉(js.map fun j=>((Sum.inl j.1:Key),V.ref j.2.1)).map (·.1):=fun hm=>by
    rw [List.map_map] at hm
    obtain ⟨j,hj,e⟩:=List.mem_map.mp hm
    have e:j.1=(n:Int):=Sum.inl.inj e
    have:(n:Int)∈jpl n:=by rw [←hp,←e];exact List.mem_map.mpr ⟨j,hj,rfl⟩
    revert this
    unfold jpl
    split <;> (try split) <;> simp <;> omega
   have old:∀j∈js,Oj ad H1 j.2.1 j.2.2.1 j.2.2.2:=hG H1 fun b o _ _ q=>q
   have oldd:∀d∈js.flatMap fun j=>[j.2.2.1,j.2.2.2],H1 d≠none:=fun d hd z=>by
    obtain ⟨j,hj,hd⟩:=List.mem_flatMap.mp hd
    have:=old j hj
    simp only [List.mem_cons,List.not_mem_nil,or_false] at hd
    rcases hd with rfl|rfl
    ·rw [this.1] at z;cases z
    ·rw [this.2.1] at z;cases z
   refine ⟨dj,_,rfl,N9.k (k:=Sum.inl (n:Int)) ej2 (by rw [List.length_map];omega),_,_,js++[((n:Int),x,d0,d1)],rfl,s12.Ma hj,?_,?_,?_,?_,?_⟩
   ·rw [AG,QE nk,List.map_append];rfl
   ·rw [List.map_append,hp,jp];rfl
   ·rw [List.flatMap_append]
    refine List.nodup_append.mpr ⟨nd',by simpa using n01,fun d hd d' hd' z=>?_⟩
    have hd':d'=d0\/d'=d1:=by simpa using hd'
    subst z
    rcases hd' with rfl|rfl
    ·exact oldd _ hd f0
    ·exact oldd _ hd f1
   ·intro d hd
    rw [List.flatMap_append] at hd
    rcases List.mem_append.mp hd with hd|hd
    ·exact hn' d hd
    ·have hd:d=d0\/d=d1:=by simpa using hd
     rcases hd with rfl|rfl
     ·exact s1.free f0
     ·exact s1.free f1
   ·intro G g j hj'
    have up:∀b o,H b=none→b≠dj→H2 b=some o→G b=some o:=fun b o q1 q2 q3=>g b o q1 q2 (by rw [AM q2];exact q3)
    rcases List.mem_append.mp hj' with hj'|hj'
    ·exact hG G (fun b o q1 q2 q3=>up b o q1 q2 (s2 _ _ q3)) j hj'
    ·rw [List.mem_singleton.mp hj']
     refine hJ G fun b o q1 q2=>?_
     have q1:H1 b=none:=q1.elim (fun q=>(mkN hxn q).1) fun q=>by rw [q];exact hx
     exact up b o (s1.free q1) (fun z=>by rw [z,ej1] at q1;cases q1) q2
  ·rintro σ H1 ⟨o2,o3,js,rfl,s1,ej1,hp,nd',hn',hG⟩
   have hp:js.map (·.1)=[2,3]:=by rw [hp,lx];rfl
   obtain ⟨J2,d0,d1,J3,d2,d3,rfl⟩:∃J2 d0 d1 J3 d2 d3,js=[((2:Int),J2,d0,d1),((3:Int),J3,d2,d3)]:=by
    match js,hp with
    | [(p,J2,d0,d1),(q,J3,d2,d3)],hp =>
     have h2:p=2:=(List.cons.inj hp).1
     have h3:q=3:=(List.cons.inj (List.cons.inj hp).2).1
     exact ⟨J2,d0,d1,J3,d2,d3,by rw [h2,h3]⟩
   refine k H1 dj d0 d1 d2 d3 s1 nd' hn' fun G g=>⟨J2,J3,g _ _ hj ej1,?_,?_⟩
   ·exact hG G (fun b o q1 _ q3=>g b o q1 q3) _ List.mem_cons_self
   ·exact hG G (fun b o q1 _ q3=>g b o q1 q3) _ (List.mem_cons_of_mem _ List.mem_cons_self)
def ZZ:Sp:=fun vs H Q _=>∃(a:Addr) (xs:List V) (z:Str),vs=[.ref a]/\H a=some (.tup xs)/\xs[0]?=some (.str z)/\Q (.bl (inV (.str z) [.str "each", .str "gap"])) H
theorem PF (T:Tx K mg ad):Ao P w K mg base CX0 1 ad.C4 ad.EH ["step"] ZZ:=by
 refine T.DC.ok Ke (fun vs H Q E h=>?_) (fun cdv A outer s H vs Q E hr h=>?_)
 ·obtain ⟨a,xs,z,rfl,_⟩:=h
  rfl
 ·obtain ⟨a,xs,z,rfl,e,e0,k⟩:=h
  have nd:=Ke.nd
  refine ⟨_,(AF (AS (Fc (Ex (K:=K)) (Ci K (pvC 0) AD) (Bg (v:=.ref ad.EA) (by rfl) T.HF rfl) (by with_unfolding_all rfl)))),?_⟩
  exact ⟨_,_,SqT.of e,AL (j:=0) e0,_,_,rfl,.inr (T.Tb H),rfl,rfl,k⟩
def YK:Sp:=fun vs H Q _=>∃lp xs,vs=[.ref lp]/\IH H lp xs/\∀H' r,AO H H'→H r=none→H' r=some (.lst [.int 4,.int 5])→Q (.ref r) H'
theorem RP (T:Tx K mg ad):Ao P w K mg base CX0 2 ad.FJ ad.GA ["plan"] YK:=by
 have G_is_teller:=A6.mk (PF (P:=P) (w:=w) (base:=base) T) T.Qe T.DC.kp T.Q2
 refine T.FV.ok M0 (fun vs H Q E h=>?_) (fun cdv A outer s H vs Q E hr h=>?_)
 ·obtain ⟨lp,xs,rfl,_⟩:=h
  rfl
 ·obtain ⟨lp,xs,rfl,pl,k⟩:=h
  have nd:=M0.nd
  refine ⟨_,(AF (AS (U7 (osc:=AH JH) [] rfl (O4 (K:=K) (by rfl) T.Cq (pvC 0)) rfl rfl (by decide +kernel) (by decide +kernel) (by decide +kernel) trivial rfl rfl (by decide +kernel) (fun _ _ _ _=>Wj (DU (AJ G_is_teller hr (AA (pvC 1) AB)))) (fun _ _ _ _=>(pvC 0))))),?_⟩
  have sz:sizeLine=16777216:=sizeLine_eq
  have lx:xs.length=6:=pl.2.len
  refine ⟨lp,rfl,⟨_,SqL.of pl.1⟩,UI (K:=K) (xs:=xs) (fun i _=>decide (4≤i)) (fun i _=>.int (i:Int)) (by omega) (fun H1 s1=>SqL.of (s1 _ _ pl.1)) (fun i x p o1 o2 H1 R _ _ e q=>⟨p,_,rfl,SqT.of e,rfl,_,_,rfl,_,_,rfl,rfl,q⟩) (fun i x H1 R hx s1 q=>?_) (fun i x H1 R _ _ s1 q=>q H1 (AO.refl _)) fun H1 s1 C hC=>?_⟩
  ·obtain ⟨a,vs,rfl,ea,eq⟩:=pl.2.at hx
   obtain ⟨z,e0,_,_,ez⟩:=Sb ea
   exact ⟨a,vs,z,rfl,s1 _ _ eq,e0,_,rfl,by rw [ez];exact q H1 (AO.refl _)⟩
  ·obtain ⟨x0,x1,x2,x3,x4,x5,rfl⟩:∃x0 x1 x2 x3 x4 x5,xs=[x0,x1,x2,x3,x4,x5]:=by
    match xs,lx with
    | [x0,x1,x2,x3,x4,x5],_=>exact ⟨x0,x1,x2,x3,x4,x5,rfl⟩
   exact k _ C (s1.upd hC) (s1.free hC) AG
def ZD (ad:Ad) (G:Hp) (g d:Addr):Prop:=G d=some (.dK [])/\∃dx v,G g=some (.ins ad.Ai dx [("step", v),("rows", .ref d)])
def GsR (ad:Ad) (G:Hp) (dg d4 d5:Addr):Prop:=∃G4 G5,G dg=some (.dK [(.inl 4,.ref G4),(.inl 5,.ref G5)])/\ZD ad G G4 d4/\ZD ad G G5 d5
def Uk (ad:Ad):Sp:=fun vs H Q _=>∃lp xs,vs=[.ref lp]/\IH H lp xs/\∀H' dg d4 d5,AO H H'→d4≠d5→H d4=none→H d5=none→(∀G,(∀b o,H b=none→H' b=some o→G b=some o)→GsR ad G dg d4 d5)→Q (.ref dg) H'
theorem PH (T:Tx K mg ad):Ao P w K mg base CX0 3 ad.C5 ad.EI ["plan"] (Uk ad):=by
 have G_Group___init__:=To (P:=P) (w:=w) (base:=base) T
 have G_tellers:=A6.mk (RP (P:=P) (w:=w) (base:=base) T) T.T2 T.FV.kp T.UK
 refine T.DE.ok Kf (fun vs H Q E h=>?_) (fun cdv A outer s H vs Q E hr h=>?_)
 ·obtain ⟨lp,xs,rfl,_⟩:=h
  rfl
 ·obtain ⟨lp,xs,rfl,pl,k⟩:=h
  have nd:=Kf.nd
  refine ⟨_,(AE (psl 1 nd Kr)
    (AE (Df PassesOwn.never rfl (DW (K:=K) (AJ G_tellers hr (AA (pvC 0) AB))) (pgn 2 nd)
    (AF (Ml hr.u1 (pvC 1) (pvC 2) (Mm T.VQ G_Group___init__ (hr.mono (by decide)) (by rfl) T.VW T.Lp .nil Ic (AA (Bn K (pvC 0) (pvC 2)) AB)) rfl)))
    (AF (AS (pvC 1))))),?_⟩
  have sz:sizeLine=16777216:=sizeLine_eq
  intro dg hg
  refine AV (o:=.dK []) hg fun H0 s0 eg=>?_
  have lx:xs.length=6:=pl.2.len
  refine ⟨lp,xs,rfl,pl.same s0,fun H1 lt s1 nt et=>⟨lt,rfl,⟨_,SqL.of et⟩,HJ (K:=K) (xs:=[.int 4,.int 5]) (fun n σ H'=>∃(o2:Option V) (gs:List (Addr×Addr)),σ=[some (.ref lp),some (.ref dg),o2]/\AO H H'/\H' lt=some (.lst [.int 4,.int 5])/\gs.length=n/\H' dg=some (.dK (List.zipWith (fun (p:Int) (g:Addr×Addr)=>(.inl p,.ref g.1)) [4,5] gs)) /\
    (gs.map (·.2)).Nodup/\(∀d∈gs.map (·.2),H d=none)/\∀G,(∀b o,H b=none→b≠dg→H' b=some o→G b=some o)→∀g∈gs,ZD ad G g.1 g.2)
   ⟨none,[],rfl,s0.trans s1,et,rfl,s1 _ _ eg,.nil,fun d hd=>(nomatch hd),fun G _ j hj=>(nomatch hj)⟩ (fun n σ H' _ ⟨_,_,_,_,e,_⟩=>SqL.of e) ?_ ?_⟩⟩
  ·rintro n x σ H2 hx ⟨o2,gs,rfl,s2,et2,ln,eg2,nd',hn',hG⟩
   have n2:n<2:=(List.getElem?_eq_some_iff.mp hx).1
   obtain ⟨p,rfl,hp,p0,p6⟩:∃p:Int,x=.int p/\([4,5]:List Int)[n]?=some p/\4≤p/\p<6:=by
    match n,hx with
    | 0,hx=>cases hx;exact ⟨4,rfl,rfl,by decide,by decide⟩
    | 1,hx=>cases hx;exact ⟨5,rfl,rfl,by decide,by decide⟩
   obtain ⟨v,hv⟩:∃v,xs[p.toNat]?=some v:=⟨_,List.getElem?_eq_getElem (by omega)⟩
   have hv':atI xs p=some v:=by have:=AL hv;rwa [Int.toNat_of_nonneg (by omega)] at this
   refine ⟨_,_,SqL.of (s2 _ _ pl.1),hv',fun x dx hx hdx hxn=>⟨x,dx,v,rfl,AG,fun H3 d m f0 ed ex=>⟨rfl,?_⟩⟩⟩
   have s3:=mkS hx hdx m
   have f0:=(mkN hxn f0).1
   have eg3:=s3 _ _ eg2
   have nk:(Sum.inl p:Key)∉(List.zipWith (fun (p:Int) (g:Addr×Addr)=>((Sum.inl p:Key),V.ref g.1)) [4,5] gs).map (·.1):=fun hm=>by
    match n,gs,ln,hp with
    | 0,[],_,hp=>cases hm
    | 1,[g],_,hp=>cases hp;simp at hm
   refine ⟨dg,_,rfl,N9.k (k:=Sum.inl p) eg3 (by rw [List.length_zipWith];show min 2 _<_;omega),_,gs++[(x,d)],rfl,(s2.trans s3).Ma hg,?_,by rw [List.length_append,ln];rfl,?_,?_,?_,?_⟩
   ·have:=s3 _ _ et2
    rw [AM fun z=>by rw [z,eg3] at this;cases this]
    exact this
   ·rw [AG,QE nk]
    match n,gs,ln,hp with
    | 0,[],_,hp=>cases hp;rfl
    | 1,[g],_,hp=>cases hp;rfl
   ·rw [List.map_append]
    refine List.nodup_append.mpr ⟨nd',by simp,fun a ha b hb z=>?_⟩
    obtain ⟨g,hg',rfl⟩:=List.mem_map.mp ha
    have hb:b=d:=by simpa using hb
    have:=(hG H2 (fun b o _ _ q=>q) g hg').1
    rw [z,hb,f0] at this
    cases this
   ·intro b hb
    rw [List.map_append] at hb
    rcases List.mem_append.mp hb with hb|hb
    ·exact hn' b hb
    ·have hb:b=d:=by simpa using hb
     rw [hb]
     exact s2.free f0
   ·intro G g q hq
    have up:∀b o,H b=none→b≠dg→H3 b=some o→G b=some o:=fun b o q1 q2 q3=>g b o q1 q2 (by rw [AM q2];exact q3)
    rcases List.mem_append.mp hq with hq|hq
    ·exact hG G (fun b o q1 q2 q3=>up b o q1 q2 (s3 _ _ q3)) q hq
    ·rw [List.mem_singleton.mp hq]
     have nw:∀b o,H2 b=none→H3 b=some o→G b=some o:=fun b o q1 q2=>up b o (s2.free q1) (fun z=>by rw [z,eg2] at q1;cases q1) q2
     exact ⟨nw _ _ f0 ed,dx,v,nw _ _ hx ex⟩
  ·rintro σ H2 ⟨o2,gs,rfl,s2,_,ln,eg2,nd',hn',hG⟩
   obtain ⟨G4,d4,G5,d5,rfl⟩:∃G4 d4 G5 d5,gs=[(G4,d4),(G5,d5)]:=by
    match gs,ln with
    | [(G4,d4),(G5,d5)],_=>exact ⟨G4,d4,G5,d5,rfl⟩
   refine k H2 dg d4 d5 s2 (by simpa using nd') (hn' d4 (by simp)) (hn' d5 (by simp)) fun G g=>⟨G4,G5,g _ _ hg eg2,?_,?_⟩
   ·exact hG G (fun b o q1 _ q3=>g b o q1 q3) _ List.mem_cons_self
   ·exact hG G (fun b o q1 _ q3=>g b o q1 q3) _ (List.mem_cons_of_mem _ List.mem_cons_self)
def FlR (ad:Ad) (G:Hp) (x c dj dg:Addr) (s a b n:Int):Prop:=∃dx dc p,G x=some (.ins ad.Ag dx [("plan", p),("clock", .ref c),("joins", .ref dj),("groups", .ref dg),("number", .int n)])/\G c=some (.ins ad.Am dc (ckF s a b))
def WX (ad:Ad):Sp:=fun vs H Q _=>∃x dx lp xs s,vs=[.ref x,.ref lp,.int s]/\IH H lp xs/\0≤s/\s≤1000000000/\H x=some (.ins ad.Ag dx [])/\∀H' c dj dg D,Cn x H H'→(H c=none)→FlR ad H' x c dj dg s 0 0 0→St H' H' D [] 0→(∀G,(∀b o,b≠x→b≠c→H' b=some o→G b=some o)→JsR ad G dj (D 0) (D 1) (D 2) (D 3)/\GsR ad G dg (D 4) (D 5))→Q .non H'
theorem IH.SV {H H':Hp}{lp x C dx:Addr}{fs:List (Str×V)}{xs:List V}(h:IH H lp xs) (s:Cn x H H') (e:H x=some (.ins C dx fs)):IH H' lp xs :=
 ⟨s _ _ (fun z=>by have:=h.1;rw [z,e] at this;cases this) h.1,h.2.keep (s.tp e fun xs=>by intro z;cases z)⟩
def Y4 (d0 d1 d2 d3 d4 d5:Addr) (i:Int):Addr:=if i=0 then d0 else if i=1 then d1 else if i=2 then d2 else if i=3 then d3 else if i=4 then d4 else d5
theorem six {i:Int}(h0:0≤i) (h6:i<6):i=0\/i=1\/i=2\/i=3\/i=4\/i=5:=by omega
theorem S6 {d0 d1 d2 d3 d4 d5:Addr}{i:Int}(h0:0≤i) (h6:i<6):([d0,d1,d2,d3,d4,d5]:List Addr)[i.toNat]?=some (Y4 d0 d1 d2 d3 d4 d5 i):=by
 rcases six h0 h6 with rfl|rfl|rfl|rfl|rfl|rfl <;> rfl
theorem VM (T:Tx K mg ad):Ao P w K mg base CX0 6 ad.Ay ad.Bf ["self", "plan", "slack"] (WX ad):=by
 have G_Clock___init__:=Tq (P:=P) (w:=w) (base:=base) T
 have G_joins_of:=A6.mk (QO (P:=P) (w:=w) (base:=base) T) T.Rl T.D8.kp T.R5
 have G_groups_of:=A6.mk (PH (P:=P) (w:=w) (base:=base) T) T.Qf T.DE.kp T.Q3
 refine T.BM.ok G2 (fun vs H Q E h=>?_) (fun cdv A outer s H vs Q E hr h=>?_)
 ·obtain ⟨x,dx,lp,xs,s,rfl,_⟩:=h
  rfl
 ·obtain ⟨x,dx,lp,xs,sl,rfl,pl,s0,s1,ex,k⟩:=h
  have nd:=G2.nd
  refine ⟨_,(AE (DV (pvC 0) (Aa (Jp (K:=K)) (by rfl) T.Jq PyProof.Rows.boot_list (AA (pvC 1) AB)) rfl)
    (AE (DV (pvC 0) (Mm T.VR G_Clock___init__ (hr.mono (by decide)) (by rfl) T.VX T.Lq .nil Ic (AA (pvC 2) AB)) rfl)
    (AE (DV (pvC 0) (AJ G_joins_of hr (AA (pvC 1) AB)) rfl)
    (AE (DV (pvC 0) (AJ G_groups_of hr (AA (pvC 1) AB)) rfl)
    (AF (DV (pvC 0) AD rfl)))))),?_⟩
  refine ⟨lp,_,rfl,.inl (SqL.of pl.1),fun p hp=>?_⟩
  refine AV (o:=.lst xs) hp fun H1 t1 ep=>?_
  refine ⟨x,_,dx,[],rfl,t1 _ _ ex,T.Cm,T.Fh,by decide,?_⟩
  generalize hH2:upd H1 x (HO.ins ad.Ag dx (G6 "plan" (V.ref p) []))=H2
  have x2:Cn x H H2:=by rw [←hH2];exact (t1.x x).upd
  have e2:H2 x=some (.ins ad.Ag dx [("plan", .ref p)]):=by rw [←hH2];exact AG
  have fr2:∀b,H2 b=none→H b=none:=fun b hb=>by
   have n:b≠x:=fun z=>by rw [z,e2] at hb;cases hb
   rw [←hH2,AM n] at hb
   exact t1.free hb
  clear hH2
  have pl2:=pl.SV x2 ex
  intro c dc hc hdc hcn
  refine ⟨c,dc,sl,rfl,s0,s1,AG,fun H3 m3 ec=>⟨rfl,?_⟩⟩
  have t3:=mkS hc hdc m3
  refine ⟨x,_,dx,_,rfl,t3 _ _ e2,T.Cm,T.Bh,(by show 1<1000;decide),?_⟩
  have ncx:c≠x:=fun z=>by rw [z,e2] at hc;cases hc
  generalize hH4:upd H3 x (HO.ins ad.Ag dx (G6 "clock" (V.ref c) [("plan", .ref p)]))=H4
  have x4:Cn x H2 H4:=by rw [←hH4];exact (t3.x x).upd
  have ec4:H4 c=some (.ins ad.Am dc (ckF sl 0 0)):=by rw [←hH4,AM ncx];exact ec
  have e4:H4 x=some (.ins ad.Ag dx [("plan", .ref p),("clock", .ref c)]):=by rw [←hH4];exact AG
  clear hH4
  refine ⟨lp,xs,rfl,pl2.SV x4 e2,fun H5 dj d0 d1 d2 d3 t5 nd4 nn4 hJ=>?_⟩
  refine ⟨x,_,dx,_,rfl,t5 _ _ e4,T.Cm,T.CD,(by show 2<1000;decide),?_⟩
  generalize hH6:upd H5 x (HO.ins ad.Ag dx (G6 "joins" (V.ref dj) [("plan", .ref p),("clock", .ref c)]))=H6
  have x6:Cn x H5 H6:=by rw [←hH6];exact ((AO.refl H5).x x).upd
  have x46:Cn x H4 H6:=(t5.x x).trans x6
  have e6:H6 x=some (.ins ad.Ag dx [("plan", .ref p),("clock", .ref c),("joins", .ref dj)]):=by rw [←hH6];exact AG
  clear hH6
  refine ⟨lp,xs,rfl,(pl2.SV x4 e2).SV x46 e4,fun H7 dg d4 d5 t7 n45 n4 n5 hG=>?_⟩
  refine ⟨x,_,dx,_,rfl,t7 _ _ e6,T.Cm,T.Bq,(by show 3<1000;decide),x,_,dx,_,rfl,AG,T.Cm,T.Bp,(by show 4<1000;decide),?_⟩
  generalize hH8:upd (upd H7 x _) x _=H8
  have x8:Cn x H7 H8:=by rw [←hH8];exact ((AO.refl H7).x x).upd.upd
  have e8:H8 x=some (.ins ad.Ag dx [("plan", .ref p),("clock", .ref c),("joins", .ref dj),("groups", .ref dg),("number", .int 0)]):=by rw [←hH8];exact AG
  clear hH8
  have x68:Cn x H6 H8:=(t7.x x).trans x8
  have ec6:=x46 _ _ ncx ec4
  have gG:∀G,(∀b o,b≠x→b≠c→H8 b=some o→G b=some o)→JsR ad G dj d0 d1 d2 d3/\GsR ad G dg d4 d5:=fun G gg=>⟨hJ G fun b o q1 q2=>have nx:b≠x:=fun z=>by rw [z,e4] at q1;cases q1
   gg b o nx (fun z=>by rw [z,ec4] at q1;cases q1) ((x6.trans x68) b o nx q2),hG G fun b o q1 q2=>have nx:b≠x:=fun z=>by rw [z,e6] at q1;cases q1
   gg b o nx (fun z=>by rw [z,ec6] at q1;cases q1) (x8 b o nx q2)⟩
  obtain ⟨J8,G8⟩:=gG H8 fun _ _ _ _ q=>q
  have J6:JsR ad H6 dj d0 d1 d2 d3:=hJ H6 fun b o q1 q2=>x6 b o (fun z=>by rw [z,e4] at q1;cases q1) q2
  have em:∀i,0≤i→i<6→H8 (Y4 d0 d1 d2 d3 d4 d5 i)=some (.dK []):=fun i i0 i6=>by
   obtain ⟨_,_,_,j1,j2⟩:=J8
   obtain ⟨_,_,_,g1,g2⟩:=G8
   rcases six i0 i6 with rfl|rfl|rfl|rfl|rfl|rfl
   ·exact j1.1
   ·exact j1.2.1
   ·exact j2.1
   ·exact j2.2.1
   ·exact g1.1
   ·exact g2.1
  have nd6:([d0,d1,d2,d3,d4,d5]:List Addr).Nodup:=by
   obtain ⟨_,_,_,j1,j2⟩:=J6
   have ne:∀d∈([d0,d1,d2,d3]:List Addr),H6 d=some (.dK []):=fun d hd=>by
    simp only [List.mem_cons,List.not_mem_nil,or_false] at hd
    rcases hd with rfl|rfl|rfl|rfl
    ·exact j1.1
    ·exact j1.2.1
    ·exact j2.1
    ·exact j2.2.1
   show ([d0,d1,d2,d3]++[d4,d5]:List Addr).Nodup
   refine List.nodup_append.mpr ⟨nd4,by simpa using n45,fun a ha b hb z=>?_⟩
   have:=ne a ha
   simp only [List.mem_cons,List.not_mem_nil,or_false] at hb
   rcases hb with rfl|rfl
   ·rw [z,n4] at this;cases this
   ·rw [z,n5] at this;cases this
  refine k H8 c dj dg (Y4 d0 d1 d2 d3 d4 d5) ((x2.trans x4).trans (x46.trans x68)) (fr2 c hc) ⟨dx,dc,.ref p,e8,(x46.trans x68) _ _ ncx ec4⟩ ⟨fun b o e=>⟨o,e,fun _=>rfl⟩,⟨fun _=>(0, ""),fun i i0 i6=>⟨[],em i i0 i6,.nil,Nat.le_refl _,fun q hq=>(nomatch hq),fun e he=>(nomatch he)⟩⟩,em,fun i j i0 i6 j0 j6 e=>?_,fun e he=>(nomatch he)⟩ gG
  have h1:=S6 (d0:=d0) (d1:=d1) (d2:=d2) (d3:=d3) (d4:=d4) (d5:=d5) i0 i6
  have h2:=S6 (d0:=d0) (d1:=d1) (d2:=d2) (d3:=d3) (d4:=d4) (d5:=d5) j0 j6
  rw [←e] at h2
  have:=(List.getElem?_inj (by show i.toNat<6;omega) nd6).mp (h1.trans h2.symm)
  omega
theorem JsR.at {ad:Ad}{G:Hp}{dj:Addr}{D:Int→Addr}(h:JsR ad G dj (D 0) (D 1) (D 2) (D 3)) {i:Int}(i0:0≤i) (i4:i<4):∃kvs J dx wi l ys S x0,G dj=some (.dK kvs)/\kvs≠[]/\Bc kvs (.inl (2+i / 2))=some (.ref J)/\G J=some (.ins ad.BA dx [("within", wi),("sides", .ref l)])/\G l=some (.lst ys)/\atI ys (i % 2)=some (.ref S)/\G S=some (.ins ad.Ar x0 [("rows", .ref (D i))]):=by
 obtain ⟨J2,J3,e,⟨_,_,dx,wi,l,S0,S1,x0,x1,a1,a2,a3,a4⟩,⟨_,_,dx',wi',l',S0',S1',x0',x1',b1,b2,b3,b4⟩⟩:=h
 have:i=0\/i=1\/i=2\/i=3:=by omega
 rcases this with rfl|rfl|rfl|rfl
 ·exact ⟨_,J2,dx,wi,l,_,S0,x0,e,(fun z=>nomatch z),rfl,a1,a2,AL (j:=0) rfl,a3⟩
 ·exact ⟨_,J2,dx,wi,l,_,S1,x1,e,(fun z=>nomatch z),rfl,a1,a2,AL (j:=1) rfl,a4⟩
 ·exact ⟨_,J3,dx',wi',l',_,S0',x0',e,(fun z=>nomatch z),rfl,b1,b2,AL (j:=0) rfl,b3⟩
 ·exact ⟨_,J3,dx',wi',l',_,S1',x1',e,(fun z=>nomatch z),rfl,b1,b2,AL (j:=1) rfl,b4⟩
theorem GsR.at {ad:Ad}{G:Hp}{dg:Addr}{D:Int→Addr}(h:GsR ad G dg (D 4) (D 5)) {i:Int}(i0:4≤i) (i6:i<6):∃kvs g dx v,G dg=some (.dK kvs)/\kvs≠[]/\Bc kvs (.inl i)=some (.ref g)/\G g=some (.ins ad.Ai dx [("step", v),("rows", .ref (D i))]):=by
 obtain ⟨G4,G5,e,⟨_,dx,v,a⟩,⟨_,dx',v',b⟩⟩:=h
 have:i=4\/i=5:=by omega
 rcases this with rfl|rfl
 ·exact ⟨_,G4,dx,v,e,(fun z=>nomatch z),rfl,a⟩
 ·exact ⟨_,G5,dx',v',e,(fun z=>nomatch z),rfl,b⟩
theorem MU {kvs:List (Key×V)}(h:kvs≠[]):HO.dK kvs≠.dK []:=fun z=>h (by injection z)
def WT (ad:Ad):Sp:=fun vs H Q _=>∃(Hb:Hp) (D:Int→Addr) (E:List Ent) (n:Nat) (i:Int) (dj p:Addr) (k:Str) (t a:Int),vs=[.ref dj,.ref p]/\St Hb H D E n/\JsR ad Hb dj (D 0) (D 1) (D 2) (D 3)/\0≤i/\i<4/\H p=some (.tup [.int (2+i / 2),.int (i % 2),.str k,.int t,.int a]) /\
 Srt (E++[.it i k t a])/\(∀e∈E,e.rg)/\n≤60/\E.length≤60/\∀H',Tp H H'→St Hb H' D (E++[.it i k t a]) (n+1)→Q .non H'
theorem QM (T:Tx K mg ad):Ao P w K mg base CX0 3 ad.Ds ad.E8 ["joins", "item"] (WT ad):=by
 have G_Side_put:=Yk (P:=P) (w:=w) (base:=base) T
 refine T.CN.ok L7 (fun vs H Q E h=>?_) (fun cdv A outer s H vs Q E hr h=>?_)
 ·obtain ⟨Hb,D,E,n,i,dj,p,k,t,a,rfl,_⟩:=h
  rfl
 ·obtain ⟨Hb,D,E,n,i,dj,p,z,t,a,rfl,st,jr,i0,i4,ep,so,rg,hn,hE,k⟩:=h
  have nd:=L7.nd
  refine ⟨_,(AF (DH (Ws (Bn K (Cr (JL hr.u1 (pvC 0) (Ci K (pvC 1) AD) (fun _ _=>rfl)) rfl) (Ci K (pvC 1) AD)) T.JV T.QX G_Side_put (hr.mono (by decide)) T.R7 .nil Ic (AA (Av (AA (Ci K (pvC 1) AD) (AA (Ci K (pvC 1) AD) (AA (Ci K (pvC 1) AD) AB)))) AB)))),?_⟩
  obtain ⟨kvs,J,dx,wi,l,ys,S,x0,e1,n1,e2,e3,e4,e5,e6⟩:=jr.at i0 i4
  have e1:=st.fix e1 (MU n1)
  have e3:=st.fix e3 (by intro z;cases z)
  have e4:=st.fix e4 (by intro z;cases z)
  have e6:=st.fix e6 (by intro z;cases z)
  refine ⟨_,_,SqT.of ep,AL (j:=0) rfl,dj,_,rfl,by have:=IJ.k (k:=Sum.inl (2+i / 2)) e1;rw [e2] at this;exact this,J,_,dx,_,_,rfl,e3,T.Mr,T.CB,rfl,_,_,SqT.of ep,AL (j:=1) rfl,ys,_,SqL.of e4,e5,S,x0,_,rfl,e6,rfl,?_⟩
  refine ⟨_,_,SqT.of ep,AL (j:=3) rfl,_,_,SqT.of ep,AL (j:=2) rfl,_,_,SqT.of ep,AL (j:=4) rfl,le1 rfl,fun q hq=>?_⟩
  refine AV (o:=.tup [.int t,.str z,.int a]) hq fun H1 s1 eq=>?_
  exact ⟨Hb,D,E,n,i,S,q,x0,z,t,a,rfl,st.same s1,i0,i4,s1 _ _ e6,eq,so,rg,hn,hE,fun H' tp st'=>k H' (s1.tp.trans tp) st'⟩
theorem St.up {Hb H:Hp}{D:Int→Addr}{E:List Ent}{n:Nat}(st:St Hb H D E n):St Hb H D E (n+1) :=
 ⟨st.fr,let ⟨ow,h⟩:=st.dic;⟨ow,fun i i0 i6=>let ⟨kvs,e,d⟩:=h i i0 i6;⟨kvs,e,d.nd,Nat.le_succ_of_le d.le,d.row,d.all⟩⟩,st.d0,st.dj,st.tl⟩
def WS (ad:Ad):Sp:=fun vs H Q _=>∃(Hb:Hp) (D:Int→Addr) (E:List Ent) (n:Nat) (i:Int) (dg p:Addr) (k:Str) (s e c m l g:Int),vs=[.ref dg,.ref p]/\St Hb H D E n/\GsR ad Hb dg (D 4) (D 5)/\4≤i/\i<6/\H p=some (.tup [.int i,.str k,.int s,.int e,.int c,.int m,.int l,.int g]) /\
 n≤60/\E.length≤60/\∀H' q,Tp H H'→St Hb H' D (E++[.pc i k s e q c m l g]) (n+1)→Q .non H'
theorem O9 (T:Tx K mg ad):Ao P w K mg base CX0 1 ad.C0 ad.EE ["groups", "piece"] (WS ad):=by
 refine T.Bl.ok Ka (fun vs H Q E h=>?_) (fun cdv A outer s H vs Q E hr h=>?_)
 ·obtain ⟨Hb,D,E,n,i,dg,p,k,s,e,c,m,l,g,rfl,_⟩:=h
  rfl
 ·obtain ⟨Hb,D,E,n,i,dg,p,z,b,en,c,m,l,g,rfl,st,gr,i0,i6,ep,hn,hE,k⟩:=h
  have nd:=Ka.nd
  refine ⟨_,(AF (DH (pap K (U4 (Cr (JL hr.u1 (pvC 0) (Ci K (pvC 1) AD) (fun _ _=>rfl)) rfl) (Ci K (pvC 1) AD) (Ak AB) ⟨rfl,rfl,rfl,rfl⟩) (AA (Av (AA (Ci K (pvC 1) AD) (AA (Ci K (pvC 1) AD) (AA (AY (KW (K:=K)) (pvC 1) (AZ AD) Aj) AB)))) AB)))),?_⟩
  have sz:sizeLine=16777216:=sizeLine_eq
  have i00:0≤i:=by omega
  obtain ⟨kv0,J,dx,v,e1,n1,e2,e3⟩:=gr.at i0 i6
  have e1:=st.fix e1 (MU n1)
  have e3:=st.fix e3 (by intro z;cases z)
  obtain ⟨kvs,ed⟩:∃kvs,H (D i)=some (.dK kvs):=let ⟨_,h⟩:=st.dic;let ⟨kvs,e,_⟩:=h i i00 i6;⟨kvs,e⟩
  refine ⟨_,_,SqT.of ep,AL (j:=0) rfl,dg,_,rfl,by have:=IJ.k (k:=Sum.inl i) e1;rw [e2] at this;exact this,J,_,dx,_,_,rfl,e3,T.Iz,T.CC,rfl,D i,rfl,.inl ⟨kvs,.inl ed⟩,_,_,SqT.of ep,AL (j:=1) rfl,Nat.zero_le _,fun el hel=>?_⟩
  refine AV (o:=.lst []) hel fun H1 s1 eel=>?_
  have ed1:=s1 _ _ ed
  have st1:=st.same s1
  obtain ⟨lk,row⟩:=st1.row i00 i6 z ed1
  have sl:=SU E i z
  have fin:∀{H2:Hp} {kv2:List (Key×V)} {r:Addr} {xs:List V},Tp H H2→St Hb H2 D E (n+1)→H2 (D i)=some (.dK kv2)→Bc kv2 (.inr z)=some (.ref r)→H2 r=some (.lst xs)→FU H2 xs (sel E i z) →
    Ls (WK (Ls (tOp (Ur K) (IE 1) (tC (V.int 2))) (Ls (tOp (Ur K) (IE 1) (tC (V.int 3))) (Ls (tSl (We K) (IE 1) (Py (tC (V.int 4))) KR) Oq)))) Oq [some (.ref dg),some (.ref p)] H2 fun xs H3=>O2 (V.ref r) xs H3 fun _ H4=>Q .non H4:=fun {H2 kv2 r xs} tp2 st2 ed2 ev er tr=>by
   have ep2:=tp2 _ _ ep
   refine ⟨_,_,SqT.of ep2,AL (j:=2) rfl,_,_,SqT.of ep2,AL (j:=3) rfl,_,rfl,p,_,rfl,SqT.of ep2,(fun h=>absurd (show (4:Nat)=0 from h.1) (by decide)),fun q hq=>?_⟩
   refine AV (o:=.tup [.int c,.int m,.int l,.int g]) hq fun H3 s3 eq=>?_
   refine ⟨le1 rfl,fun p' hp'=>?_⟩
   refine AV (o:=.tup [.int b,.int en,.ref q]) hp' fun H4 s4 ep'=>?_
   have s24:=s3.trans s4
   have er4:=s24 _ _ er
   refine ⟨r,xs,_,rfl,rfl,er4,by have:=tr.len;omega,?_⟩
   refine k _ q ((tp2.trans s24.tp).upd er4 fun xs=>by intro z;cases z) ((st2.same s24).app (E':=E++[Ent.pc i z b en q c m l g]) i00 i6 (s24 _ _ ed2) ev ?_ (QJ (e:=.pc i z b en q c m l g)) (QV (e:=.pc i z b en q c m l g)) (SQ (fun y hy=>Ent.Hc (st2.tl y hy) s24.tp) (s4 _ _ eq)))
   rw [My,if_pos ⟨rfl,rfl⟩]
   exact (tr.keep s24.tp).snoc ep'
  refine ⟨kvs,.inr z,ed1,rfl,by omega,fun v hv=>?_,fun hv=>?_⟩
  ·rcases row with ⟨e1,_⟩|⟨r,xs,e1,_,er,tr⟩
   ·rw [hv] at e1;cases e1
   rw [hv] at e1
   cases e1
   exact ⟨.inl ⟨rfl,_,SqL.of er⟩,fin s1.tp st1.up ed1 hv er tr⟩
  ·rcases row with ⟨_,es⟩|⟨r,xs,e1,_⟩
   ·have tr:FU H1 [] (sel E i z):=by rw [es];exact .nil
    have ne:el≠D i:=fun z'=>by rw [z',ed1] at eel;cases eel
    have tp:Tp H1 (upd H1 (D i) (.dK (putK kvs (.inr z) (.ref el)))):=(Tp.refl H1).upd ed1 fun xs=>by intro z;cases z
    have el2:(upd H1 (D i) (.dK (putK kvs (.inr z) (.ref el)))) el=some (.lst []):=by rw [AM ne];exact eel
    exact ⟨.inl ⟨rfl,_,SqL.of el2⟩,fin (s1.tp.trans tp) (st.putL (E':=E) s1 hel i00 i6 ed1 eel tr (fun _ _ _=>rfl) (fun x hx=>.inl hx) fun x hx=>Ent.Hc (st.tl x hx) s1.tp) AG (by rw [UX,if_pos rfl]) el2 (tr.keep tp)⟩
   ·rw [hv] at e1;cases e1
def II (z:Str):Ent→Prop
 | .it i k t a=>0≤i/\i<4/\Mg (wds z) (2+i / 2) (i % 2) k t a|.pc i k s e _ c m l g=>Nq (wds z) i k s e c m l g
def Bad (lk:List Key):Ent→Prop
 | .it i k t a=>An (Ent.it i k t a).rk lk=true|.pc i k s e q c m l g=>An lk (Ent.pc i k s e q c m l g).rk=false
inductive Lk:List Key→Prop where
 | z (i:Int):Lk [.inl i]
 | e (e:Ent):Lk e.rk
theorem Mg.en {z:Str}{p s t a:Int}{k:Str}(h:Mg (wds z) p s k t a):II z (.it (2 * (p-2)+s) k t a)/\2+(2 * (p-2)+s) / 2=p/\(2 * (p-2)+s) % 2=s:=by
 have h':=h
 obtain ⟨_,_,_,_,_,_,_,_,_,_,hp,hs,_⟩:=h
 have e1:2+(2 * (p-2)+s) / 2=p:=by omega
 have e2:(2 * (p-2)+s) % 2=s:=by omega
 refine ⟨⟨by omega,by omega,?_⟩,e1,e2⟩
 rw [e1,e2]
 exact h'
theorem Xv {z:Str}{p s t a:Int}{k:Str}(h:Mg (wds z) p s k t a):∀p k s e c m l g,¬ Nq (wds z) p k s e c m l g:=fun p' k' s' e' c m l g h2=>by
 obtain ⟨_,_,_,_,e1,_⟩:=h
 obtain ⟨_,_,_,_,_,_,_,e2,_⟩:=h2
 rw [e1] at e2
 exact absurd (List.cons.inj e2).1 (by decide)
theorem II.un {z:Str}{e e':Ent}(h:II z e) (h':II z e'):e.rk=e'.rk/\(∀lk,Bad lk e↔Bad lk e'):=by
 cases e with
 | it i k t a =>
  cases e' with
  | it i' k' t' a' =>
   obtain ⟨x0,x4,x,y,u,v,w1,n1,n2,_,n3,n4,_⟩:=h
   obtain ⟨y0,y4,x',y',u',v',w2,m1,m2,_,m3,m4,_⟩:=h'
   rw [w1] at w2
   injection w2 with _ w2
   injection w2 with i1 w2
   injection w2 with i2 w2
   injection w2 with i3 w2
   injection w2 with i4 w2
   injection w2 with i5 w2
   subst i1 i2 i3 i4 i5
   rw [n1] at m1
   rw [n2] at m2
   rw [n3] at m3
   rw [n4] at m4
   cases m3
   cases m4
   have h1:=V.int.inj m1
   have h2:=V.int.inj m2
   obtain rfl:i=i':=by omega
   exact ⟨rfl,fun _=>Iff.rfl⟩
  | pc=>exact absurd h' (Xv h.2.2 _ _ _ _ _ _ _ _)
 | pc i k s e q c m l g =>
  cases e' with
  | it=>exact absurd h (Xv h'.2.2 _ _ _ _ _ _ _ _)
  | pc i' k' s' e' q' c' m' l' g' =>
   obtain ⟨_,_,_,_,_,_,_,w1,n1,_,n2,_⟩:=h
   obtain ⟨_,_,_,_,_,_,_,w2,m1,_,m2,_⟩:=h'
   rw [w1] at w2
   injection w2 with _ w2
   injection w2 with i1 w2
   injection w2 with i2 w2
   injection w2 with i3 w2
   subst i1 i2 i3
   rw [n1] at m1
   rw [n2] at m2
   cases m1
   cases m2
   exact ⟨rfl,fun _=>Iff.rfl⟩
theorem Rr (e:Ent) {lk:List Key}(h:Lk lk):∃r,Hq e.rk lk=some r:=by
 have one:∀(a b:Int) (x y:List Key),a≠b→∃r,Hq (.inl a::x) (.inl b::y)=some r:=fun a b x y n=>by
  rw [Hq,if_neg (fun z=>n (Sum.inl.inj z)),if_pos (show isI (Sum.inl a)=isI (Sum.inl b) from rfl)]
  exact ⟨_,rfl⟩
 have same:∀{x y:List Key},x.map isI=y.map isI→∃r,Hq x y=some r:=by
  intro x
  induction x with
  | nil=>intro y h;cases y with
   | nil=>exact ⟨_,rfl⟩
   | cons=>cases h
  | cons a x ih =>
   intro y h
   cases y with
   | nil=>cases h
   | cons b y =>
    obtain ⟨h1,h2⟩:=List.cons.inj h
    rw [Hq]
    split
    ·exact ih h2
    ·exact ⟨_,rfl⟩
 cases h with
 | z i =>
  cases e with
  | it =>
   by_cases n:(0:Int)=i
   ·subst n;exact ⟨.gt,by rw [Ent.rk,Hq,if_pos rfl];rfl⟩
   ·exact one _ _ _ _ n
  | pc =>
   by_cases n:(1:Int)=i
   ·subst n;exact ⟨.gt,by rw [Ent.rk,Hq,if_pos rfl];rfl⟩
   ·exact one _ _ _ _ n
 | e e' =>
  cases e with
  | it=>cases e' with
   | it=>exact same rfl
   | pc=>exact one _ _ _ _ (by decide)
  | pc=>cases e' with
   | it=>exact one _ _ _ _ (by decide)
   | pc=>exact same rfl
structure Go (ad:Ad) (Hb H:Hp) (D:Int→Addr) (dj dg:Addr) (E:List Ent) (lk:List Key) (n:Nat):Prop where
 st:St Hb H D E n
 jr:JsR ad Hb dj (D 0) (D 1) (D 2) (D 3)
 gr:GsR ad Hb dg (D 4) (D 5)
 so:Srt E
 rg:∀e∈E,e.rg
 lo:Lk lk
 le:∀e∈E,An lk e.rk=false
 n1:n≤60
 n2:E.length≤60
theorem Go.same {ad:Ad}{Hb H H':Hp}{D:Int→Addr}{dj dg:Addr}{E:List Ent}{lk:List Key}{n:Nat}(g:Go ad Hb H D dj dg E lk n) (s:AO H H'):Go ad Hb H' D dj dg E lk n:=⟨g.st.same s,g.jr,g.gr,g.so,g.rg,g.lo,g.le,g.n1,g.n2⟩
theorem W4 {lk:List Key}{e:Ent}(h:¬ Bad lk e):An e.rk lk=false:=by
 cases e with
 | it i k t a =>
  cases q:An (Ent.it i k t a).rk lk with
  | false=>rfl
  | true=>exact absurd q h
 | pc i k s e q c m l g =>
  cases q1:An (Ent.pc i k s e q c m l g).rk lk with
  | false=>rfl
  | true =>
   cases q2:An lk (Ent.pc i k s e q c m l g).rk with
   | false=>exact absurd q2 h
   | true=>have:=Hk q1 q2;rw [Kx] at this;cases this
theorem Go.srt {ad:Ad}{Hb H:Hp}{D:Int→Addr}{dj dg:Addr}{E:List Ent}{lk:List Key}{n:Nat}(g:Go ad Hb H D dj dg E lk n) {e:Ent}(h:¬ Bad lk e):(∀x∈E,An e.rk x.rk=false)/\Srt (E++[e]):=by
 have q:∀x∈E,An e.rk x.rk=false:=fun x hx=>by
  cases q1:An e.rk x.rk with
  | false=>rfl
  | true=>have:=PyProof.Rows.KeyOrd.klt_of_kle_of_klt (O:=lexOrd) (show lexOrd.kle lk e.rk from W4 h) q1;rw [show lexOrd.klt lk x.rk=An lk x.rk from rfl,g.le x hx] at this;cases this
 refine ⟨q,List.pairwise_append.mpr ⟨g.so,List.pairwise_singleton _ _,fun a ha b hb=>?_⟩⟩
 rw [List.mem_singleton.mp hb]
 exact q a ha
def TY (ad:Ad):Sp:=fun vs H Q _=>∃(Hb:Hp) (D:Int→Addr) (E:List Ent) (n:Nat) (dj dg la:Addr) (z:Str) (lk:List Key),vs=[.str z,.ref dj,.ref dg,.ref la]/\z.length≤60000/\Go ad Hb H D dj dg E lk n/\H la=some (.tup (lk.map kV)) /\
 (∀H',AO H H'→(∀e,II z e→Bad lk e)→Q .non H')/\∀H' r e,Tp H H'→II z e→¬ Bad lk e→e.rg→St Hb H' D (E++[e]) (n+1)→H' r=some (.tup (e.rk.map kV))→Q (.ref r) H'
theorem Z8 (o:Ordering):oLt o=!oGe o:=by cases o <;> rfl
def ItV (ws:List Str) (H:Hp) (v:V):Prop:=(v=.non/\∀p s k t a,¬ Mg ws p s k t a)\/∃r p s k t a,v=.ref r/\Mg ws p s k t a/\H r=some (.tup [.int p,.int s,.str k,.int t,.int a])
def PcV (ws:List Str) (H:Hp) (v:V):Prop:=(v=.non/\∀p k s e c m l g,¬ Nq ws p k s e c m l g)\/∃r p k s e c m l g,v=.ref r/\Nq ws p k s e c m l g/\H r=some (.tup [.int p,.str k,.int s,.int e,.int c,.int m,.int l,.int g])
def Zf:Sp:=fun vs H Q _=>∃(l dj:Addr) (ws:List Str),vs=[.ref l,.ref dj]/\H l=some (.lst (ws.map V.str))/\ws≠[]/\(∀x∈ws,x.length≤60000)/\Two H dj 2 3/\∀v H',AO H H'→ItV ws H' v→Q v H'
def Zc:Sp:=fun vs H Q _=>∃(l dg:Addr) (ws:List Str),vs=[.ref l,.ref dg]/\H l=some (.lst (ws.map V.str))/\ws≠[]/\(∀x∈ws,x.length≤60000)/\Two H dg 4 5/\∀v H',AO H H'→PcV ws H' v→Q v H'
theorem QL (T:Tx K mg ad):Ao P w K mg base CX0 5 ad.Dr ad.E7 ["line", "joins", "groups", "last"] (TY ad):=by
 have G_item_of:=(A6.mk (RS (P:=P) (w:=w) (base:=base) T) T.T4 T.FX.kp T.UM).weak (sp':=Zf) fun vs H Q E ⟨l,dj,ws,h1,h2,h3,h4,h5,h⟩=>⟨l,dj,ws,h1,h2,h3,h4,h5,fun H' s n=>h _ _ s (.inl ⟨rfl,n⟩),fun H' r p s k t a sm i e=>h _ _ sm (.inr ⟨r,p,s,k,t,a,rfl,i,e⟩)⟩
 have G_piece_of:=(A6.mk (QN (P:=P) (w:=w) (base:=base) T) T.Rk T.D7.kp T.R4).weak (sp':=Zc) fun vs H Q E ⟨l,dj,ws,h1,h2,h3,h4,h5,h⟩=>⟨l,dj,ws,h1,h2,h3,h4,h5,fun H' s n=>h _ _ s (.inl ⟨rfl,n⟩),fun H' r p k s e c m l g sm i er=>h _ _ sm (.inr ⟨r,p,k,s,e,c,m,l,g,rfl,i,er⟩)⟩
 have CN:=A6.mk (QM (P:=P) (w:=w) (base:=base) T) T.Rj T.CN.kp T.R3
 have Bl:=A6.mk (O9 (P:=P) (w:=w) (base:=base) T) T.Qb T.Bl.kp T.Qy
 refine T.D6.ok L6 (fun vs H Q E h=>?_) (fun cdv A outer s H vs Q E hr h=>?_)
 ·obtain ⟨Hb,D,E,n,dj,dg,la,z,lk,rfl,_⟩:=h
  rfl
 ·obtain ⟨Hb,D,E,n,dj,dg,la,z,lk,rfl,hz,g,el,no,yes⟩:=h
  have nd:=L6.nd
  refine ⟨_,(AE (psl 4 nd (CA (K:=K) F.plainAttrs_str F.slot_str_split F.type_str_split Ig (pvC 0) (AA AI AB)))
    (AE (psl 5 nd (AJ G_item_of hr (AA (pvC 4) (AA (pvC 1) AB))))
    (Ib (A4 (PW.pt (Eh (AQ Sl (pvC 5) Bx (AX _)) (FZ (AQ (Z7 (K:=K) hr.Gu) (AN (Fg (K:=K)) (Av (AA AD AB)) (pvC 5)) (pvC 3) (AX _)))))
    (AE (DH (AJ CN hr (AA (pvC 1) (AA (pvC 5) AB))))
    (AF (AS (AN (Fg (K:=K)) (Av (AA AD AB)) (pvC 5)))))
    Ab)
    (AE (psl 6 nd (AJ G_piece_of hr (AA (pvC 4) (AA (pvC 2) AB))))
    (AE (A4 (PW.pt (Eh (AQ Sl (pvC 6) Bx (AX _)) (FZ (AQ (Z6 (K:=K) hr.Gu) (AN (Fg (K:=K)) (Av (AA AD AB)) (AY (KW (K:=K)) (pvC 6) Aj (AZ AD))) (pvC 3) (AX _)))))
    (AE (DH (AJ Bl hr (AA (pvC 2) (AA (pvC 6) AB))))
    (AF (AS (AN (Fg (K:=K)) (Av (AA AD AB)) (AY (KW (K:=K)) (pvC 6) Aj (AZ AD))))))
    Ab)
    (AF (AS Bx))))))),?_⟩
  have sz:sizeLine=16777216:=sizeLine_eq
  refine ⟨rfl,z, " ", rfl,rfl,by decide,by omega,fun l hl=>?_⟩
  refine AV (o:=.lst ((wds z).map V.str)) hl fun H1 s1 e1=>?_
  have hm:=fun x (h:x∈wds z)=>Nat.le_trans (JG h) hz
  have hn:wds z≠[]:=P0 z 32
  have tw1:Two H1 dj 2 3:=let ⟨J2,J3,e,_⟩:=g.jr;⟨_,_,s1 _ _ (g.st.fix e (MU fun z=>nomatch z))⟩
  have tw2:Two H1 dg 4 5:=let ⟨J2,J3,e,_⟩:=g.gr;⟨_,_,s1 _ _ (g.st.fix e (MU fun z=>nomatch z))⟩
  refine ⟨l,dj,wds z,rfl,e1,hn,hm,tw1,fun v H2 s2 hv=>?_⟩
  refine fun _ _ _ _ z1 z2=>?_
  have go:(∀i k t a,II z (.it i k t a)→Bad lk (.it i k t a))→∀H3,AO H1 H3→_:=fun hb H3 s3=>z1 [some (.str z),some (.ref dj),some (.ref dg),some (.ref la),some (.ref l),some v,none] H3 ?_
  ·rcases hv with ⟨rfl,hv⟩|⟨r,p,sd,k,t,a,rfl,hi,er⟩
   ·exact ⟨rfl,_,rfl,DJ (go (fun i k t a h=>absurd h.2.2 (hv _ _ _ _ _)) H2 s2)⟩
   obtain ⟨i,hen,rfl,rfl⟩:∃i,II z (.it i k t a)/\p=2+i / 2/\sd=i % 2:=⟨_,hi.en.1,hi.en.2.1.symm,hi.en.2.2.symm⟩
   have cat:∀{H3:Hp} {R:VK},H3 r=some (.tup [.int (2+i / 2),.int (i % 2),.str k,.int t,.int a])→(∀q H4,AO H3 H4→H4 q=some (.tup ((Ent.it i k t a).rk.map kV))→R (.ref q) H4)→tOp (Sa K) (WK (Ls (tC (V.int 0)) Oq)) (IE 5) [some (.str z),some (.ref dj),some (.ref dg),some (.ref la),some (.ref l),some (.ref r),none] H3 R:=fun {H3 R} er k=>by
    refine ⟨le1 rfl,fun q hq=>?_⟩
    refine AV (o:=.tup [.int 0]) hq fun H4 s4 eq=>?_
    exact ⟨q,r,_,_,rfl,rfl,SqT.of eq,SqT.of (s4 _ _ er),(fun z=>nomatch z),le1 rfl,(fun z=>nomatch z),fun _ q2 hq2=>k q2 _ (s4.upd hq2) AG⟩
   refine ⟨rfl,_,rfl,Ek (cat er fun q H3 s3 eq=>?_)⟩
   have S3:=(s1.trans s2).trans s3
   obtain ⟨o,ho⟩:=Rr (.it i k t a) g.lo
   have lx:=(Iy ho).1
   refine ⟨_,_,o,SqT.of eq,SqT.of (S3 _ _ el),ho,_,rfl,By (fun b=>?_) fun b=>go (fun i' k' t' a' h'=>((hen.un h').2 lk).mp ?_) H3 (s2.trans s3)⟩
   ·have nb:¬ Bad lk (.it i k t a):=fun h=>by
     have h:An _ lk=true:=h
     rw [lx,Z8,show oGe o=true from b] at h
     cases h
    refine ⟨Hb,D,E,n,i,dj,r,k,t,a,rfl,g.st.same S3,g.jr,hen.1,hen.2.1,s3 _ _ er,(g.srt nb).2,g.rg,g.n1,g.n2,fun H5 tp st'=>cat (tp _ _ (s3 _ _ er)) fun q2 H6 s6 eq2=>?_⟩
    exact z2 _ _ (yes H6 q2 _ ((S3.tp.trans tp).trans s6.tp) hen nb ⟨hen.1,hen.2.1⟩ (st'.same s6) eq2)
   ·show An _ lk=true
    rw [lx,Z8,show oGe o=false from b]
    rfl
  ·refine ⟨l,dg,wds z,rfl,s3 _ _ e1,hn,hm,(let ⟨a,b,e⟩:=tw2;⟨a,b,s3 _ _ e⟩),fun u H4 s4 hu=>?_⟩
   have S4:=(s1.trans s3).trans s4
   rcases hu with ⟨rfl,hu⟩|⟨r,i,k,b,en,c,m,lo,gr,rfl,hu,er⟩
   ·refine ⟨rfl,_,rfl,DJ (no H4 S4 fun e he=>?_)⟩
    cases e with
    | it i k t a=>exact hb i k t a he
    | pc=>exact absurd he (hu _ _ _ _ _ _ _ _)
   ·have cat:∀{H3:Hp} {R:VK},H3 r=some (.tup [.int i,.str k,.int b,.int en,.int c,.int m,.int lo,.int gr])→(∀q H4,AO H3 H4→H4 q=some (.tup ((Ent.pc i k b en l c m lo gr).rk.map kV))→R (.ref q) H4)→tOp (Sa K) (WK (Ls (tC (V.int 1)) Oq)) (tSl (We K) (IE 6) KR (Py (tC (V.int 3)))) [some (.str z),some (.ref dj),some (.ref dg),some (.ref la),some (.ref l),some v,some (.ref r)] H3 R:=fun {H3 R} er k=>by
     refine ⟨le1 rfl,fun q hq=>?_⟩
     refine AV (o:=.tup [.int 1]) hq fun H4 s4 eq=>?_
     refine ⟨_,rfl,r,_,rfl,SqT.of (s4 _ _ er),(fun h=>absurd (show (3:Nat)=8 from h.2) (by decide)),fun q1 hq1=>?_⟩
     refine AV (o:=.tup [.int i,.str _,.int b]) hq1 fun H5 s5 eq1=>?_
     exact ⟨q,q1,_,_,rfl,rfl,SqT.of (s5 _ _ eq),SqT.of eq1,(fun z=>nomatch z),le1 rfl,(fun z=>nomatch z),fun _ q2 hq2=>k q2 _ ((s4.trans s5).upd hq2) AG⟩
    refine ⟨rfl,_,rfl,Ek (cat er fun q H5 s5 eq=>?_)⟩
    have S5:=S4.trans s5
    obtain ⟨o,ho⟩:=Rr (.pc i k b en l c m lo gr) g.lo
    have lx:=(Iy ho).2.1
    have hen:∀q,II z (.pc i k b en q c m lo gr):=fun _=>hu
    have hrg:4≤i/\i<6:=by obtain ⟨_,_,_,_,_,_,_,_,_,_,_,_,_,_,_,_,h⟩:=hu;omega
    refine ⟨_,_,o,SqT.of eq,SqT.of (S5 _ _ el),ho,_,rfl,By (fun bb=>?_) fun bb=>no H5 S5 fun e he=>(((hen l).un he).2 lk).mp ?_⟩
    ·have nb:∀q,¬ Bad lk (.pc i k b en q c m lo gr):=fun q h=>by
      have h:An lk (Ent.pc i k b en l c m lo gr).rk=false:=h
      rw [lx,show oGt o=true from bb] at h
      cases h
     refine ⟨Hb,D,E,n,i,dg,r,k,b,en,c,m,lo,gr,rfl,g.st.same S5,g.gr,hrg.1,hrg.2,s5 _ _ er,g.n1,g.n2,fun H6 q' tp st'=>cat (tp _ _ (s5 _ _ er)) fun q2 H7 s7 eq2=>?_⟩
     exact yes H7 q2 _ ((S5.tp.trans tp).trans s7.tp) (hen q') (nb q') hrg (st'.same s7) eq2
    ·show An lk _=false
     rw [lx]
     exact bb
theorem MP (T:Tx K mg ad):Ao P w K mg base CX0 1 ad.Az ad.BB ["self", "place"] (RD K "place"):=by
 refine T.BG.ok Ja (fun vs H Q E h=>?_) (fun cdv A outer s H vs Q E hr h=>?_)
 ·obtain ⟨e,C,cF,fI,t,v,rfl,_⟩:=h
  rfl
 ·obtain ⟨e,C,cF,fI,t,v,rfl,he,XP,k⟩:=h
  refine ⟨_,AF (Wm (f := "place") (pvC 0) (pvC 1) rfl),?_⟩
  exact ⟨e,C,cF,fI,t,rfl,he,XP,fun dx hdx=>k dx hdx⟩
def Ip (i:Nat):Str:=Gp [.str "end", .int (i:Int)]
open Classical in
noncomputable def wr:Nat→List Key→List Str→Int
 | i,_,[]=>(i:Int)
 | i,lk,z::zs=>if z=Ip i then (if zs=[] then -1 else (i:Int)+1) else if h:∃e,II z e/\¬ Bad lk e then wr (i+1) (choose h).rk zs else (i:Int)
theorem Ol {i:Nat}{lk:List Key}{z:Str}{zs:List Str}(h:z=Ip i):wr i lk (z::zs)=if zs=[] then -1 else (i:Int)+1:=by
 rw [wr,if_pos h]
theorem SI {i:Nat}{lk:List Key}{z:Str}{zs:List Str}{e:Ent}(h:¬ z=Ip i) (he:II z e) (hb:¬ Bad lk e):wr i lk (z::zs)=wr (i+1) e.rk zs:=by
 have q:∃e,II z e/\¬ Bad lk e:=⟨e,he,hb⟩
 rw [wr,if_neg h,dif_pos q,((Classical.choose_spec q).1.un he).1]
theorem SH {i:Nat}{lk:List Key}{z:Str}{zs:List Str}(h:¬ z=Ip i) (hb:∀e,II z e→Bad lk e):wr i lk (z::zs)=(i:Int):=by
 rw [wr,if_neg h,dif_neg (fun ⟨e,h1,h2⟩=>h2 (hb e h1))]
theorem nv {x:Str}{n:Int}(h:Ae x=.int n):Ee n=x/\n.natAbs<10 ^ 60:=by
 rcases G9 x with e|⟨m,e,q⟩
 ·rw [e] at h;cases h
 ·rw [e] at h;cases h;exact q
theorem XT {z:Str}{e:Ent}(h:II z e) (hz:z.length≤60000):Gp e.ln=z/\(∀v∈e.ln,Wy v)/\e.ln.length≤9:=by
 cases e with
 | it i k t a =>
  obtain ⟨_,_,x,y,u,v,ew,h1,h2,_,h3,h4,_⟩:=h
  have k1:=nv h1
  have k2:=nv h2
  have k3:=nv h3
  have k4:=nv h4
  have lk:k.length≤60000:=Nat.le_trans (JG (by rw [ew];simp)) hz
  refine ⟨?_,?_,le1 rfl⟩
  ·show Txt.join " " [("item" : Str),Ee (2+i / 2),Ee (i % 2),k,Ee t,Ee a]=z
   rw [k1.1,k2.1,k3.1,k4.1,←ew]
   exact Mt z
  ·intro v hv
   have hv:v∈([.str "item", .int (2+i / 2),.int (i % 2),.str k,.int t,.int a]:List V):=hv
   simp only [List.mem_cons,List.not_mem_nil,or_false] at hv
   rcases hv with rfl|rfl|rfl|rfl|rfl|rfl
   ·exact .inr ⟨_,rfl,by decide⟩
   ·exact .inl ⟨_,rfl,k1.2⟩
   ·exact .inl ⟨_,rfl,k2.2⟩
   ·exact .inr ⟨_,rfl,lk⟩
   ·exact .inl ⟨_,rfl,k3.2⟩
   ·exact .inl ⟨_,rfl,k4.2⟩
 | pc i k s e q c m l g =>
  obtain ⟨x,y1,y2,y3,y4,y5,y6,ew,h0,_,h1,h2,h3,h4,h5,h6,_⟩:=h
  have k0:=nv h0
  have k1:=nv h1
  have k2:=nv h2
  have k3:=nv h3
  have k4:=nv h4
  have k5:=nv h5
  have k6:=nv h6
  have lk:k.length≤60000:=Nat.le_trans (JG (by rw [ew];simp)) hz
  refine ⟨?_,?_,le1 rfl⟩
  ·show Txt.join " " [("piece" : Str),Ee i,k,Ee s,Ee e,Ee c,Ee m,Ee l,Ee g]=z
   rw [k0.1,k1.1,k2.1,k3.1,k4.1,k5.1,k6.1,←ew]
   exact Mt z
  ·intro v hv
   have hv:v∈([.str "piece", .int i,.str k,.int s,.int e,.int c,.int m,.int l,.int g]:List V):=hv
   simp only [List.mem_cons,List.not_mem_nil,or_false] at hv
   rcases hv with rfl|rfl|rfl|rfl|rfl|rfl|rfl|rfl|rfl
   ·exact .inr ⟨_,rfl,by decide⟩
   ·exact .inl ⟨_,rfl,k0.2⟩
   ·exact .inr ⟨_,rfl,lk⟩
   ·exact .inl ⟨_,rfl,k1.2⟩
   ·exact .inl ⟨_,rfl,k2.2⟩
   ·exact .inl ⟨_,rfl,k3.2⟩
   ·exact .inl ⟨_,rfl,k4.2⟩
   ·exact .inl ⟨_,rfl,k5.2⟩
   ·exact .inl ⟨_,rfl,k6.2⟩
def Wr (E:List Ent):Prop:=∀e∈E,(∀v∈e.ln,Wy v)/\e.ln.length≤9
def RC (ad:Ad):Sp:=fun vs H Q X=>∃(Hb:Hp) (D:Int→Addr) (l dj dg:Addr) (z0:Str) (zs:List Str),vs=[.ref l,.ref dj,.ref dg]/\Hb l=some (.lst ((z0::zs).map V.str))/\zs.length≤50/\(∀z∈zs,z.length≤60000)/\Go ad Hb H D dj dg [] [.inl 0] 0 /\
 (∀H' E lk n,wr 1 [.inl 0] zs=-1→Go ad Hb H' D dj dg E lk n→Wr E→zs=E.map (fun e=>Gp e.ln)++[Ip (E.length+1)]→Q .non H') /\
 ∀H' dx,wr 1 [.inl 0] zs≠-1→(∀b o,Hb b=some o→o≠.dK []→H' b=some o)→H' dx=some (.xd [("place", .int (wr 1 [.inl 0] zs))])→X (.ref ad.AK) (some dx) H'
theorem PZ {α:Type}{xs:List α}{i:Nat}{x:α}(h:xs[i]?=some x):xs.drop i=x::xs.drop (i+1):=by
 obtain ⟨hi,e⟩:=List.getElem?_eq_some_iff.mp h
 rw [List.drop_eq_getElem_cons hi,e]
theorem PB (T:Tx K mg ad):Ao P w K mg base (CXF P w) 6 ad.C1 ad.EF ["lines", "joins", "groups"] (RC ad):=by
 have G_BadKeep___init__:=MP (P:=P) (w:=w) (base:=base) T
 have G_end_line:=A6.mk (MO (P:=P) (w:=w) (base:=base) T) T.NT T.DF.kp T.Nm
 have G_put_line:=A6.mk (QL (P:=P) (w:=w) (base:=base) T) T.Ri T.D6.kp T.Rz
 refine T.DA.okX Kb (fun vs H Q E h=>?_) (fun cdv A outer s H vs Q X hr h=>?_)
 ·obtain ⟨Hb,D,l,dj,dg,z0,zs,rfl,_⟩:=h
  rfl
 ·obtain ⟨Hb,D,l,dj,dg,z0,zs,rfl,el,lz,hz,g0,k1,k2⟩:=h
  have nd:=Kb.nd
  refine ⟨_,(AE (psl 3 nd (Av (AA AD AB)))
    (AE (Df PassesOwn.leaving rfl (Te (by rfl) T.Fz (AA AD (AA (AU (AW (K:=K)) (by rfl) T.BS PySem.boot_len (AA (pvC 0) AB)) AB))) (pgn 4 nd)
    (AE (A4 (AQ Cj (Bn K (pvC 0) (pvC 4)) (AJ G_end_line hr (AA (pvC 4) AB)) (AX _))
    (AE (A4 (AQ O7 (AN Bb (pvC 4) AD) (AU (AW (K:=K)) (by rfl) T.BS PySem.boot_len (AA (pvC 0) AB)) (AX _))
    (AF (JJ T.GJ G_BadKeep___init__ T.CH (hr.mono (by decide)) (Bg (v:=.ref ad.AK) (by rfl) T.GL rfl) (AN Bb (pvC 4) AD)))
    Ab)
    (AF Wo))
    Ab)
    (AE (psl 3 nd (AJ G_put_line hr (AA (Bn K (pvC 0) (pvC 4)) (AA (pvC 1) (AA (pvC 2) (AA (pvC 3) AB))))))
    (AF (A4 (AQ VF (pvC 3) Bx (AX _))
    (AF (JJ T.GJ G_BadKeep___init__ T.CH (hr.mono (by decide)) (Bg (v:=.ref ad.AK) (by rfl) T.GL rfl) (pvC 4)))
    Ab)))))
    (AF (JJ T.GJ G_BadKeep___init__ T.CH (hr.mono (by decide)) (Bg (v:=.ref ad.AK) (by rfl) T.GL rfl) (AU (AW (K:=K)) (by rfl) T.BS PySem.boot_len (AA (pvC 0) AB)))))),?_⟩
  have sz:sizeLine=16777216:=sizeLine_eq
  refine ⟨le1 rfl,fun la hla=>?_⟩
  refine AV (o:=.tup [.int 0]) hla fun H1 s1 e1=>?_
  have g1:=g0.same s1
  have lst:∀{H':Hp} {E:List Ent} {lk:List Key} {n:Nat},Go ad Hb H' D dj dg E lk n→H' l=some (.lst ((z0::zs).map V.str)):=fun g=>g.st.fix el (by intro z;cases z)
  have len:(((z0::zs).map V.str).length:Int)=(zs.length:Int)+1:=by rw [List.length_map,List.length_cons];omega
  refine ⟨_,.inl (SqL.of (lst g1)),1,_,rfl,⟨by decide,by decide,by omega,by omega⟩,?_⟩
  rw [show ((((z0::zs).map V.str).length:Int)-1).toNat=zs.length by omega]
  have out:∀{H':Hp} {E:List Ent} {lk:List Key} {n:Nat} {p:Int},Go ad Hb H' D dj dg E lk n→wr 1 [.inl 0] zs=p→p≠-1→∀dx,H' dx=none→X (.ref ad.AK) (some dx) (upd H' dx (.xd [("place", .int p)])):=fun {H' E lk n p} g e hp dx hdx=>by
   subst e
   refine k2 _ dx hp (fun b o q ho=>?_) AG
   have:=g.st.fix q ho
   rw [AM (Af this hdx)]
   exact this
  refine HI (fun k σ H'=>∃(o4:Option V) (E:List Ent) (la:Addr) (lk:List Key),σ=[some (.ref l),some (.ref dj),some (.ref dg),some (.ref la),o4]/\Go ad Hb H' D dj dg E lk k/\H' la=some (.tup (lk.map kV))/\E.length=k/\Wr E/\E.map (fun e=>Gp e.ln)=zs.take k/\wr (k+1) lk (zs.drop k)=wr 1 [.inl 0] zs)
   ⟨none,[],la,[.inl 0],rfl,g1,e1,rfl,fun e he=>(nomatch he),rfl,rfl⟩ ?_ ?_
  ·rintro k σ H2 hk ⟨o4,E,la,lk,rfl,g,ela,lE,wE,eE,ew⟩
   obtain ⟨z,ez⟩:∃z,zs[k]?=some z:=⟨_,List.getElem?_eq_getElem hk⟩
   have hzk:=hz z (List.mem_of_getElem? ez)
   have at':atI ((z0::zs).map V.str) (1+(k:Int))=some (.str z):=by
    rw [show (1+(k:Int))=((k+1:Nat):Int) by omega]
    exact AL (by rw [List.map_cons,List.getElem?_cons_succ,List.getElem?_map,ez];rfl)
   rw [PZ ez] at ew
   refine ⟨_,_,SqL.of (lst g),at',1+(k:Int),rfl,?_,fun H3 s3=>⟨rfl,_,rfl,K4 (fun q=>?_) fun q=>?_⟩⟩
   ·have:(1+(k:Int)).natAbs=k+1:=by omega
    rw [this]
    exact Nat.lt_of_le_of_lt (show k+1≤1000 by omega) (by decide)
   ·have g3:=g.same s3
    have eT:z=Ip (k+1):=by rw [q];unfold Ip;rw [show ((k+1:Nat):Int)=1+(k:Int) by omega]
    rw [Ol eT] at ew
    refine ⟨_,.inl (SqL.of (lst g3)),_,rfl,NY (fun hl=>?_) fun hl=>?_⟩
    ·rw [if_neg (fun h=>by have:=congrArg List.length h;rw [List.length_drop,List.length_nil] at this;omega)] at ew
     exact out g3 (by rw [←ew];omega) (by omega)
    ·have hd:zs.drop (k+1)=[]:=List.drop_eq_nil_of_le (by omega)
     rw [if_pos hd] at ew
     refine k1 H3 E lk k ew.symm g3 wE ?_
     rw [eE,lE,←eT]
     have h1:=(List.take_append_drop k zs).symm
     rw [PZ ez,hd] at h1
     exact h1
   ·have g3:=g.same s3
    have nT:¬ z=Ip (k+1):=fun h=>q (by rw [h];unfold Ip;rw [show ((k+1:Nat):Int)=1+(k:Int) by omega])
    refine ⟨_,_,SqL.of (lst g3),at',Hb,D,E,k,dj,dg,la,z,lk,rfl,hzk,g3,s3 _ _ ela,fun H4 s4 hb=>?_,fun H4 r e tp he hb hrg st' er=>?_⟩
    ·rw [SH nT hb] at ew
     exact ⟨rfl,_,rfl,Ek (out (g3.same s4) (by rw [←ew];omega) (by omega))⟩
    ·rw [SI nT he hb] at ew
     have ln:=XT he hzk
     refine ⟨rfl,_,rfl,DJ ⟨_,E++[e],r,e.rk,rfl,⟨st',g.jr,g.gr,(g3.srt hb).2,fun x hx=>?_,.e e,fun x hx=>?_,by omega,by rw [List.length_append];show _+1≤_;omega⟩,er,by rw [List.length_append,lE];rfl,fun x hx=>?_,?_,ew⟩⟩
     ·rcases List.mem_append.mp hx with hx|hx
      ·exact g.rg x hx
      ·rw [List.mem_singleton.mp hx];exact hrg
     ·rcases List.mem_append.mp hx with hx|hx
      ·exact (g3.srt hb).1 x hx
      ·rw [List.mem_singleton.mp hx];exact Kx _
     ·rcases List.mem_append.mp hx with hx|hx
      ·exact wE x hx
      ·rw [List.mem_singleton.mp hx];exact ln.2
     ·rw [List.map_append,eE,List.take_add_one,ez]
      show _++[Gp e.ln]=_
      rw [ln.1]
      rfl
  ·rintro σ H2 ⟨o4,E,la,lk,rfl,g,ela,lE,wE,eE,ew⟩
   rw [List.drop_eq_nil_of_le (Nat.le_refl _)] at ew
   refine ⟨_,.inl (SqL.of (lst g)),out g ?_ (by omega)⟩
   rw [←ew,len]
   show ((zs.length+1:Nat):Int)=_
   omega
open Classical in
noncomputable def ID:List Str→Int
 | []=>0
 | z::zs=>if ∃a b c,Nr (wds z) a b c then wr 1 [.inl 0] zs else 0
def msk (H:Hp) (x:Addr):Hp:=fun b=>if b=x then none else H b
theorem Ih {H:Hp}{x b:Addr}{o:HO}:msk H x b=some o↔b≠x/\H b=some o:=by
 unfold msk
 by_cases h:b=x
 ·rw [if_pos h];exact ⟨fun z=>(nomatch z),fun z=>absurd h z.1⟩
 ·rw [if_neg h];exact ⟨fun z=>⟨h,z⟩,fun z=>z.2⟩
theorem St.Ua {Hb H:Hp}{D:Int→Addr}{E:List Ent}{n:Nat}(st:St Hb H D E n) {x C dx:Addr}{fs:List (Str×V)}{o:HO}(e:H x=some (.ins C dx fs)):St (msk Hb x) (upd H x o) D E n:=by
 obtain ⟨ow,hd⟩:=st.dic
 have tp:Tp H (upd H x o):=(Tp.refl H).upd e fun xs=>by intro z;cases z
 have nD:∀i,0≤i→i<6→D i≠x:=fun i i0 i6 z=>by
  obtain ⟨_,q,_⟩:=hd i i0 i6
  rw [z,e] at q
  cases q
 refine ⟨fun b q h=>?_,⟨ow,fun i i0 i6=>?_⟩,fun i i0 i6=>Ih.mpr ⟨nD i i0 i6,st.d0 i i0 i6⟩,st.dj,fun y hy=>Ent.Hc (st.tl y hy) tp⟩
 ·obtain ⟨h1,h2⟩:=Ih.mp h
  obtain ⟨o',h3,h4⟩:=st.fr b q h2
  exact ⟨o',by rw [AM h1];exact h3,h4⟩
 ·obtain ⟨kvs,q,d⟩:=hd i i0 i6
  refine ⟨kvs,by rw [AM (nD i i0 i6)];exact q,d.nd,d.le,fun y hy=>?_,d.all⟩
  obtain ⟨z,r,xs,e1,e2,e3,e4,e5⟩:=d.row y hy
  refine ⟨z,r,xs,e1,?_,e3,by rw [AM fun z=>by rw [z,e] at e4;cases e4];exact e4,e5.keep tp⟩
  unfold msk
  split
  ·rfl
  ·exact e2
theorem St.based {H H':Hp}{D:Int→Addr}(st:St H H D [] 0) (s:AO H H'):St H' H' D [] 0:=by
 have em:∀i,0≤i→i<6→H' (D i)=some (.dK []):=fun i i0 i6=>s _ _ (st.d0 i i0 i6)
 exact ⟨fun b o e=>⟨o,e,fun _=>rfl⟩,⟨fun _=>(0, ""),fun i i0 i6=>⟨[],em i i0 i6,.nil,Nat.le_refl _,fun q hq=>(nomatch hq),fun e he=>(nomatch he)⟩⟩,em,st.dj,fun e he=>(nomatch he)⟩
def FrD (H H':Hp):Prop:=∀b o,H b=some o→o≠.dK []→H' b=some o
def CkV (z:Str) (H:Hp) (v:V):Prop:=(v=.non/\∀a b c,¬ Nr (wds z) a b c)\/∃r a b c,v=.ref r/\Nr (wds z) a b c/\H r=some (.tup [.int a,.int b,.int c])
def Zj:Sp:=fun vs H Q _=>∃z:Str,vs=[.str z]/\z.length≤60000/\∀v H',AO H H'→CkV z H' v→Q v H'
def Flw (ad:Ad) (H:Hp) (x:Addr) (z0:Str) (zs:List Str):Prop:=∃(Hb:Hp) (c dj dg:Addr) (D:Int→Addr) (E:List Ent) (lk:List Key) (n:Nat) (s a b d:Int),FlR ad H x c dj dg s a b d/\Nr (wds z0) a b d/\Go ad Hb H D dj dg E lk n/\Wr E/\zs=E.map (fun e=>Gp e.ln)++[Ip (E.length+1)]
def ZY (ad:Ad):Sp:=fun vs H Q X=>∃(lp l:Addr) (xs:List V) (s:Int) (zs:List Str),vs=[.ref lp,.int s,.ref l]/\IH H lp xs/\0≤s/\s≤1000000000/\H l=some (.lst (zs.map V.str))/\zs.length≤50/\(∀z∈zs,z.length≤60000) /\
 (∀H' x z0 zs',ID zs=-1→FrD H H'→zs=z0::zs'→Flw ad H' x z0 zs'→Q (.ref x) H')/\∀H' dx,ID zs≠-1→FrD H H'→H' dx=some (.xd [("place", .int (ID zs))])→X (.ref ad.AK) (some dx) H'
theorem QK (T:Tx K mg ad):Ao P w K mg base (CXF P w) 8 ad.Dk ad.E2 ["plan", "slack", "lines"] (ZY ad):=by
 have G_BadKeep___init__:=MP (P:=P) (w:=w) (base:=base) T
 have CS:=(A6.mk (QP (P:=P) (w:=w) (base:=base) T) T.Rm T.CS.kp T.R6).weak (sp':=Zj) fun vs H Q E ⟨z,h1,h2,h⟩=>⟨z,h1,h2,fun H' s n=>h _ _ s (.inl ⟨rfl,n⟩),fun H' r a b c s i e=>h _ _ s (.inr ⟨r,a,b,c,rfl,i,e⟩)⟩
 have G_Flow___init__:=VM (P:=P) (w:=w) (base:=base) T
 have G_put_lines:=PB (P:=P) (w:=w) (base:=base) T
 refine T.D2.okX Lv (fun vs H Q E h=>?_) (fun cdv A outer s H vs Q E hr h=>?_)
 ·obtain ⟨lp,l,xs,s,zs,rfl,_⟩:=h
  rfl
 ·obtain ⟨lp,l,xs,sl,zs,rfl,pl,s0,s1,el,lz,hz,k1,k2⟩:=h
  have nd:=Lv.nd
  refine ⟨_,(AE (psl 3 nd (Mm T.W6 G_Flow___init__ (hr.mono (by decide)) (by rfl) T.XE T.Mf .nil Ic (AA (pvC 0) (AA (pvC 1) AB))))
    (Ei (psl 4 nd (Ff (AQ RM (AU (AW (K:=K)) (by rfl) T.BS PySem.boot_len (AA (pvC 2) AB)) AD (AX _)) (AJ CS hr (AA (Bn K (pvC 2) AD) AB)) Bx))
    (AE (A4 (AQ VF (pvC 4) Bx (AX _))
    (AF (JJ T.GJ G_BadKeep___init__ T.CH (hr.mono (by decide)) (Bg (v:=.ref ad.AK) (by rfl) T.GL rfl) AD))
    Ab)
    (AE (DH (Sj G_put_lines (hr.mono (by decide)) (by rfl) T.Qc T.DA.kp T.Qz .nil (Z1 (E:=E) (fun _ _ _ z=>z)) (AA (pvC 2) (AA (Cr (pvC 3) rfl) (AA (Cr (pvC 3) rfl) AB)))))
    (AE (psl 5 nd (Cr (pvC 3) rfl))
    (AE (DV (pvC 5) (Ci K (pvC 4) AD) rfl)
    (AE (DV (pvC 5) (Ci K (pvC 4) AD) rfl)
    (AE (DV (pvC 3) (Ci K (pvC 4) AD) rfl)
    (AF (AS (pvC 3))))))))))),?_⟩
  have sz:sizeLine=16777216:=sizeLine_eq
  intro x dx hx hdx hxn
  have mkI:AO H (upd (upd H dx (.own x)) x (.ins ad.Ag dx [])):=(AO.Q7 hdx).upd (by rw [AM (Ne.symm hxn)];exact hx)
  refine ⟨x,dx,lp,xs,sl,rfl,pl.same mkI,s0,s1,AG,fun H1 c dj dg D m hc fl st jg=>⟨rfl,?_⟩⟩
  have t1:=mkS hx hdx m
  have hcH:=(mkN hxn hc).1
  have el1:=t1 _ _ el
  refine fun _ _ _ _ z1=>?_
  have rest:∀(v:V) (H2:Hp),AO H1 H2→((v=.non/\ID zs=0)\/∃z0 zs' r a b d,zs=z0::zs'/\v=.ref r/\Nr (wds z0) a b d/\H2 r=some (.tup [.int a,.int b,.int d]))→_:=fun v H2 s2 hv=>z1 [some (.ref lp),some (.int sl),some (.ref l),some (.ref x),some v,none] H2 ?_
  ·refine ⟨_,.inl (SqL.of el1),_,rfl,NY (fun h=>?_) fun h=>rest _ H1 (AO.refl _) (.inl ⟨rfl,?_⟩)⟩
   ·rw [List.length_map] at h
    obtain ⟨z0,zs',rfl⟩:=List.exists_cons_of_ne_nil (List.ne_nil_of_length_pos (show 0<zs.length by omega))
    refine ⟨_,_,SqL.of el1,AL (j:=0) rfl,z0,rfl,hz z0 (by simp),fun v H2 s2 hv=>rest v H2 s2 ?_⟩
    rcases hv with ⟨rfl,hv⟩|⟨r,a,b,d,rfl,hv,er⟩
    ·exact .inl ⟨rfl,if_neg fun ⟨a,b,c,q⟩=>hv a b c q⟩
    ·exact .inr ⟨z0,zs',r,a,b,d,rfl,rfl,hv,er⟩
   ·rw [List.length_map] at h
    obtain rfl:zs=[]:=List.eq_nil_of_length_eq_zero (by omega)
    rfl
  ·have t2:=t1.trans s2
   rcases hv with ⟨rfl,hw⟩|⟨z0,zs',r,a,b,d,rfl,rfl,ck,er⟩
   ·refine ⟨rfl,_,rfl,Ek fun q hq=>k2 _ q (by rw [hw];decide) (fun b o e _=>?_) (by rw [AG,hw])⟩
    have:=t2 _ _ e
    rw [AM (Af this hq)]
    exact this
   ·have hw:ID (z0::zs')=wr 1 [.inl 0] zs':=if_pos ⟨a,b,d,ck⟩
    obtain ⟨fdx,fdc,fp,fx,fc⟩:=fl
    obtain ⟨j2,g2⟩:=jg H2 fun b o _ _ q=>s2 _ _ q
    have fx2:=s2 _ _ fx
    refine ⟨rfl,_,rfl,DJ ⟨x,_,fdx,_,_,rfl,fx2,T.Cm,T.CD,rfl,x,_,fdx,_,_,rfl,fx2,T.Cm,T.Bq,rfl,?_⟩⟩
    rw [List.length_cons] at lz
    refine ⟨H2,D,l,dj,dg,z0,zs',rfl,s2 _ _ el1,by omega,fun z h=>hz z (List.mem_cons_of_mem _ h),⟨st.based s2,j2,g2,.nil,fun e he=>(nomatch he),.z 0,fun e he=>(nomatch he),Nat.zero_le _,Nat.zero_le _⟩,fun H5 En lk n ew g5 wE eE=>?_,fun H5 q ew fr eq=>?_⟩
    ·have ins:∀{b:Addr} {C dx:Addr} {fs:List (Str×V)},H2 b=some (.ins C dx fs)→H5 b=some (.ins C dx fs):=fun q=>g5.st.fix q (by intro z;cases z)
     have fx5:=ins fx2
     have fc5:=ins (s2 _ _ fc)
     have er5:=g5.st.fix er (by intro z;cases z)
     have ncx:c≠x:=fun z=>by rw [z] at hc;rw [AG] at hc;cases hc
     refine ⟨x,_,fdx,_,_,rfl,fx5,T.Cm,T.Bh,rfl,?_⟩
     refine ⟨_,_,SqT.of er5,AL (j:=0) rfl,c,_,fdc,_,rfl,fc5,T.GR,T.Ct,(by show 3<1000;decide),?_⟩
     have tpc:∀{H:Hp} {o:HO} {o':List (Str×V)},H c=some (.ins ad.Am fdc o')→Tp H (upd H c o):=fun q=>(Tp.refl _).upd q fun xs=>by intro z;cases z
     refine ⟨_,_,SqT.of (tpc fc5 _ _ er5),AL (j:=1) rfl,c,_,fdc,_,rfl,AG,T.GR,T.Br,(by show 3<1000;decide),?_⟩
     have nxc:x≠c:=ncx.symm
     refine ⟨_,_,SqT.of (tpc AG _ _ (tpc fc5 _ _ er5)),AL (j:=2) rfl,x,_,fdx,_,rfl,by rw [AM nxc,AM nxc];exact fx5,T.Cm,T.Bp,(by show 5<1000;decide),?_⟩
     have st8:=(((g5.st.Ua (o:=.ins ad.Am fdc (ckF sl a 0)) fc5).Ua (o:=.ins ad.Am fdc (ckF sl a b)) AG).Ua (o:=.ins ad.Ag fdx [("plan", fp),("clock", .ref c),("joins", .ref dj),("groups", .ref dg),("number", .int d)]) (by rw [AM nxc,AM nxc];exact fx5))
     obtain ⟨j8,g8⟩:=jg (msk (msk (msk H2 c) c) x) fun b o nx nc q=>Ih.mpr ⟨nx,Ih.mpr ⟨nc,Ih.mpr ⟨nc,s2 _ _ q⟩⟩⟩
     refine k1 _ x z0 zs' (by rw [hw];exact ew) (fun b' o e ho=>?_) rfl ⟨_,c,dj,dg,D,En,lk,n,sl,a,b,d,⟨fdx,fdc,fp,AG,by rw [AM ncx];exact AG⟩,ck,⟨st8,j8,g8,g5.so,g5.rg,g5.lo,g5.le,g5.n1,g5.n2⟩,wE,eE⟩
     rw [AM (Af e hx),AM (Af e hcH),AM (Af e hcH)]
     exact g5.st.fix (t2 _ _ e) ho
    ·refine k2 H5 q (by rw [hw];exact ew) (fun b o e ho=>fr b o (t2 _ _ e) ho) (by rw [hw];exact eq)
def Li (E:List Ent) (i:Int):List V:=(E.filter fun e=>decide (e.ix=i)).map fun e=>.str (Gp e.ln)
def Lis (E:List Ent):Nat→Nat→List V
 | _,0=>[]
 | a,k+1=>Lis E a k++Li E ((a+k:Nat):Int)
theorem Pq (E:List Ent) (i:Int):(Li E i).length≤E.length:=by
 unfold Li
 rw [List.length_map]
 exact List.length_filter_le _ _
theorem SN {p q:Int}{ks:List Key}(h:p<q) (pm:ks.Perm [.inl p,.inl q]) (so:ks.Pairwise fun a b=>kLt b a=false):ks=[.inl p,.inl q]:=by
 have l:=pm.length_eq
 match ks,l with
 | [a,b],_ =>
  have ha:a=.inl p\/a=.inl q:=by simpa using pm.mem_iff.mp (show a∈[a,b] by simp)
  have hb:b=.inl p\/b=.inl q:=by simpa using pm.mem_iff.mp (show b∈[a,b] by simp)
  have nd:([a,b]:List Key).Nodup:=pm.nodup_iff.mpr (by simp;omega)
  have ab:a≠b:=by simpa using nd
  have s:kLt b a=false:=by simpa using so
  rcases ha with rfl|rfl <;> rcases hb with rfl|rfl
  ·exact absurd rfl ab
  ·rfl
  ·exact absurd h (of_decide_eq_false s)
  ·exact absurd rfl ab
theorem Vg {E:List Ent}(so:Srt E) (rg:∀e∈E,e.rg) (i:Int):(E.filter fun e=>decide (e.ix=i)).Pairwise fun x y=>kLt (.inr y.ky) (.inr x.ky)=false:=by
 have q:(E.filter fun e=>decide (e.ix=i)).Pairwise fun x y=>An y.rk x.rk=false:=so.sublist List.filter_sublist
 refine q.imp_of_mem fun {x y} hx hy h=>?_
 obtain ⟨x1,x2⟩:=List.mem_filter.mp hx
 obtain ⟨y1,y2⟩:=List.mem_filter.mp hy
 have x2:=of_decide_eq_true x2
 have y2:=of_decide_eq_true y2
 have rx:=rg x x1
 have ry:=rg y y1
 have tail:∀{a b:Key} {u v:List Key},An (a::u) (b::v)=false→kLt a b=false:=fun {a b u v} h=>by
  rw [An] at h
  by_cases e:a=b
  ·subst e;exact K0 a
  ·rw [if_neg e] at h;exact h
 cases x with
 | it i1 k1 t1 a1 =>
  cases y with
  | it i2 k2 t2 a2 =>
   obtain rfl:i1=i:=x2
   obtain rfl:i2=i1:=y2
   unfold Ent.rk at h
   rw [An,if_pos rfl,An,if_pos rfl,An,if_pos rfl] at h
   exact tail h
  | pc i2=>exact absurd (x2.trans y2.symm) (fun z:i1=i2=>by have:=rx.2;have:=ry.1;omega)
 | pc i1 k1 =>
  cases y with
  | it i2=>exact absurd (x2.trans y2.symm) (fun z:i1=i2=>by have:=rx.1;have:=ry.2;omega)
  | pc i2 k2 =>
   obtain rfl:i1=i:=x2
   obtain rfl:i2=i1:=y2
   unfold Ent.rk at h
   rw [An,if_pos rfl,An,if_pos rfl] at h
   exact tail h
theorem JsR.join {ad:Ad}{G:Hp}{dj:Addr}{D:Int→Addr}(h:JsR ad G dj (D 0) (D 1) (D 2) (D 3)) {j:Nat}(hj:j<2):∃kvs J dx wi l S0 S1 x0 x1,G dj=some (.dK kvs)/\kvs≠[]/\Bc kvs (.inl (2+(j:Int)))=some (.ref J)/\G J=some (.ins ad.BA dx [("within", wi),("sides", .ref l)])/\G l=some (.lst [.ref S0,.ref S1])/\G S0=some (.ins ad.Ar x0 [("rows", .ref (D ((2 * j:Nat):Int)))])/\G S1=some (.ins ad.Ar x1 [("rows", .ref (D ((2 * j+1:Nat):Int)))]):=by
 obtain ⟨J2,J3,e,⟨_,_,dx,wi,l,S0,S1,x0,x1,a1,a2,a3,a4⟩,⟨_,_,dx',wi',l',S0',S1',x0',x1',b1,b2,b3,b4⟩⟩:=h
 match j,hj with
 | 0,_=>exact ⟨_,J2,dx,wi,l,S0,S1,x0,x1,e,(fun z=>nomatch z),rfl,a1,a2,a3,a4⟩
 | 1,_=>exact ⟨_,J3,dx',wi',l',S0',S1',x0',x1',e,(fun z=>nomatch z),rfl,b1,b2,b3,b4⟩
def Ze (ad:Ad):Sp:=fun vs H Q _=>∃(Hb:Hp) (D:Int→Addr) (dj dg:Addr) (E:List Ent) (lk:List Key) (n:Nat),vs=[.ref dj]/\Go ad Hb H D dj dg E lk n/\Wr E/\∀H' r,AO H H'→H r=none→H' r=some (.lst (Lis E 0 4))→Q (.ref r) H'
theorem Nw (T:Tx K mg ad):Ao P w K mg base CX0 4 ad.CJ ad.DL ["joins"] (Ze ad):=by
 have G_line_of:=A6.mk (Hh (P:=P) (w:=w) (base:=base) T) T.JN T.Cc.kp T.JW
 have G_Side_kept:=W0 (P:=P) (w:=w) (base:=base) T
 refine T.CO.ok Jd (fun vs H Q E h=>?_) (fun cdv A outer s H vs Q E hr h=>?_)
 ·obtain ⟨Hb,D,dj,dg,E,lk,n,rfl,_⟩:=h
  rfl
 ·obtain ⟨Hb,D,dj,dg,E,lk,n,rfl,g,wE,k⟩:=h
  have nd:=Jd.nd
  refine ⟨_,(AE (psl 1 nd (Ak AB))
    (AE (Df PassesOwn.never rfl (DW (K:=K) (AU (GS rfl) (by rfl) T.Ef PyProof.Rows.boot_sorted (AA (pvC 0) AB))) (pgn 2 nd)
    (AF (Df PassesOwn.never rfl (O4 (K:=K) (by rfl) T.Cq (Cr (JL hr.u1 (pvC 0) (pvC 2) (fun _ _=>rfl)) rfl)) (RK rfl (G7 (pgn 3 nd) (G7 (pgn 4 nd) O5)))
    (AF (DH (CA (K:=K) F.plainAttrs_list F.slot_list_extend F.type_list_extend LZ (pvC 1) (AA (pcm (AH F4) [("place", 2),("side", 3)] ⟨rfl,rfl,rfl,rfl,trivial⟩ (DW (K:=K) (QG (pvC 4) T.JV T.PL G_Side_kept (hr.mono (by decide)) T.Q4 .nil Ic)) (fun _ _ _ _=>Fb) (fun _ _ _ _=>(AJ G_line_of hr (AA (AN (Fg (K:=K)) (Av (AA AI (AA (pvC 1) (AA (pvC 2) AB)))) (pvC 0)) AB)))) AB)))))))
    (AF (AS (pvC 1))))),?_⟩
  have sz:sizeLine=16777216:=sizeLine_eq
  refine ⟨Nat.zero_le _,fun l hl=>?_⟩
  refine AV (o:=.lst []) hl fun H1 s1 el=>?_
  obtain ⟨J2,J3,ej,_⟩:=id g.jr
  have ej:=g.st.fix ej (MU fun z=>nomatch z)
  refine ⟨dj,_,rfl,s1 _ _ ej,.inl fun q hq=>?_,Nat.lt_of_le_of_lt (le1 rfl:_≤2) (by decide),fun ls ks hls pk ps=>?_⟩
  ·simp only [List.mem_cons,List.not_mem_nil,or_false] at hq
   rcases hq with rfl|rfl <;> exact ⟨_,rfl⟩
  cases SN (by decide) pk ps
  have nll:ls≠l:=fun z=>by rw [z,el] at hls;cases hls
  refine AV (o:=.lst [.int 2,.int 3]) hls fun H2 s2 els=>?_
  have fx:∀{b:Addr} {o:HO},Hb b=some o→o≠.dK []→H b=some o:=fun q ho=>g.st.fix q ho
  refine ⟨ls,rfl,⟨_,SqL.of els⟩,HJ (xs:=[.int 2,.int 3]) (fun j σ H'=>∃o2 o3 o4,σ=[some (.ref dj),some (.ref l),o2,o3,o4]/\AO H H'/\H' l=some (.lst (Lis E 0 (2 * j)))/\H' ls=some (.lst [.int 2,.int 3])/\(Lis E 0 (2 * j)).length≤2000 * j)
   ⟨none,none,none,rfl,s1.trans s2,s2 _ _ el,els,Nat.zero_le _⟩ (fun i σ H' _ ⟨_,_,_,_,_,_,e,_⟩=>SqL.of e) ?_ ?_⟩
  ·rintro j x σ H3 hx ⟨o2,o3,o4,rfl,s3,el3,els3,la⟩
   have hj:j<2:=(List.getElem?_eq_some_iff.mp hx).1
   obtain rfl:x=.int (2+(j:Int)):=by
    match j,hx with
    | 0,hx=>cases hx;rfl
    | 1,hx=>cases hx;rfl
   obtain ⟨kvs,J,dx,wi,sl,S0,S1,x0,x1,e1,n1,e2,e3,e4,e5,e6⟩:=g.jr.join hj
   have e1:=s3 _ _ (fx e1 (MU n1))
   have e3:=s3 _ _ (fx e3 (by intro z;cases z))
   have e4:=fx e4 (by intro z;cases z)
   refine ⟨dj,_,rfl,by have:=IJ.k (k:=Sum.inl (2+(j:Int))) e1;rw [e2] at this;exact this,J,_,dx,_,_,rfl,e3,T.Mr,T.CB,rfl,sl,rfl,⟨_,SqL.of (s3 _ _ e4)⟩,?_⟩
   refine Qp (K:=K) (xs:=[.ref S0,.ref S1]) (fun m σ H'=>∃o3 o4,σ=[some (.ref dj),some (.ref l),some (.int (2+(j:Int))),o3,o4]/\AO H H'/\H' l=some (.lst (Lis E 0 (2 * j+m)))/\H' ls=some (.lst [.int 2,.int 3])/\(Lis E 0 (2 * j+m)).length≤2000 * j+1000 * m)
    ⟨o3,o4,rfl,s3,el3,els3,la⟩ (fun m σ H' _ ⟨_,_,_,s',_⟩=>SqL.of (s' _ _ e4)) ?_ ?_
   ·rintro m x σ H4' pt hx ⟨o3,o4,rfl,s4',el4',els4',la4⟩ hpt
    have hm:m<2:=(List.getElem?_eq_some_iff.mp hx).1
    obtain ⟨S,xS,rfl,eS⟩:∃S xS,x=.ref S/\H S=some (.ins ad.Ar xS [("rows", .ref (D ((0+(2 * j+m):Nat):Int)))]):=by
     match m,hx with
     | 0,hx=>cases hx;exact ⟨S0,x0,rfl,by rw [show 0+(2 * j+0)=2 * j by omega];exact fx e5 (by intro z;cases z)⟩
     | 1,hx=>cases hx;exact ⟨S1,x1,rfl,by rw [show 0+(2 * j+1)=2 * j+1 by omega];exact fx e6 (by intro z;cases z)⟩
    refine AV (o:=.tup [.int (m:Int),.ref S]) hpt fun H4 s44 ept=>?_
    have s4:=s4'.trans s44
    have el4:=s44 _ _ el4'
    have els4:=s44 _ _ els4'
    generalize hi:((0+(2 * j+m):Nat):Int)=i at eS
    have i0:0≤i:=by omega
    have i4:i<4:=by omega
    have i1:2+i / 2=2+(j:Int):=by omega
    have i2:i % 2=(m:Int):=by omega
    have tri:Lis E 0 (2 * j+(m+1))=Lis E 0 (2 * j+m)++Li E i:=by rw [←hi];rfl
    refine ⟨pt,_,rfl,SqT.of ept,rfl,_,_,rfl,_,_,rfl,rfl,.inl ⟨rfl,_,SqL.of el4⟩,S,xS,_,rfl,s4 _ _ eS,rfl,?_⟩
    refine ⟨Hb,D,E,n,i,S,xS,.non,rfl,s4 _ _ eS,g.st.same s4,i0,by omega,Vg g.so g.rg i,g.n2,g.n1,fun H5 r xs s5 _ er tr=>⟨r,rfl,⟨_,SqL.of er⟩,?_⟩⟩
    have hxl:=tr.len
    have lL:=Pq E i
    unfold Li at lL
    rw [List.length_map] at hxl lL
    have hE:=g.n2
    refine KJ (K:=K) (xs:=xs) (fun q τ acc' H'=>(∃o,τ=[o,some (.int (2+(j:Int))),some (.int (m:Int))])/\AO H5 H'/\acc'=(Li E i).take q) (by omega) ⟨⟨none,rfl⟩,AO.refl _,rfl⟩ (fun q τ acc' H' ⟨_,s',_⟩=>SqL.of (s' _ _ er)) ?_ ?_
    ·rintro q y τ acc' H6 R1 hy _ ⟨⟨o,rfl⟩,s6,rfl⟩ k1
     obtain ⟨a,vs,rfl,ek,ea⟩:=tr.at hy
     rw [List.getElem?_map] at ek
     obtain ⟨e,ee,rfl⟩:=Option.map_eq_some_iff.mp ek
     obtain ⟨m1,m2⟩:=List.mem_filter.mp (List.mem_of_getElem? ee)
     have m2:=of_decide_eq_true m2
     obtain ⟨t,am,q1⟩:=OT (g.rg e m1) (by rw [m2];exact i4)
     rw [m2] at q1
     have w:=wE e m1
     have eln:e.ln=[.str "item", .int (2+(j:Int)),.int (m:Int)]++tol e:=by rw [q1];show [V.str "item", .int (2+i / 2),.int (i % 2),_,_,_]=_;rw [i1,i2];rfl
     refine ⟨le1 rfl,fun p hp=>?_⟩
     refine AV (o:=.tup [.str "item", .int (2+(j:Int)),.int (m:Int)]) hp fun H7 s7 ep=>?_
     refine ⟨p,a,_,_,rfl,rfl,SqT.of ep,SqT.of (s7 _ _ (s6 _ _ ea)),(fun z=>nomatch z),by have:=w.2;rw [eln,List.length_append] at this;omega,(fun z=>nomatch z),fun _ p2 hp2=>⟨p2,e.ln,rfl,.inr (by rw [AG,eln]),w.2,w.1,fun H8 s8=>k1 _ _ _ ⟨⟨_,rfl⟩,((s6.trans s7).upd hp2).trans s8,?_⟩⟩⟩
     unfold Li
     rw [List.take_add_one,List.getElem?_map,ee]
     rfl
    ·rintro τ acc' H6 la6 ⟨_,s6,rfl⟩ C hC
     rw [List.take_of_length_le (show (Li E i).length≤xs.length by unfold Li;rw [List.length_map];omega)]
     refine AV (o:=.lst (Li E i)) hC fun H7 s7 eC=>?_
     have s47:=(s5.trans s6).trans s7
     have lL2:=Pq E i
     refine ⟨l,C,_,_,rfl,rfl,s47 _ _ el4,eC,by omega,_,_,rfl,(s4.trans s47).Ma hl,by rw [AG,tri],by rw [AM nll];exact s47 _ _ els4,by rw [tri,List.length_append];omega⟩
   ·rintro σ H4 ⟨o3,o4,rfl,s4,el4,els4,la4⟩
    exact ⟨_,_,_,rfl,s4,el4,els4,by have:Lis E 0 (2 * (j+1))=Lis E 0 (2 * j+2):=rfl;rw [this];have:(Lis E 0 (2 * j+2)).length≤2000 * j+1000 * 2:=la4;omega⟩
  ·rintro σ H3 ⟨o2,o3,o4,rfl,s3,el3,els3,la⟩
   exact k H3 l s3 hl el3
theorem Z0 {e:Ent}(h:e.rg) (h4:4≤e.ix):∃s en q c m l g,e=.pc e.ix e.ky s en q c m l g:=by
 cases e with
 | pc i k s en q c m l g=>exact ⟨s,en,q,c,m,l,g,rfl⟩
 | it i=>exact absurd h4 (Int.not_le.mpr h.2)
def Zb (ad:Ad):Sp:=fun vs H Q _=>∃(Hb:Hp) (D:Int→Addr) (dj dg:Addr) (E:List Ent) (lk:List Key) (n:Nat),vs=[.ref dg]/\Go ad Hb H D dj dg E lk n/\Wr E/\∀H' r,AO H H'→H r=none→H' r=some (.lst (Lis E 4 2))→Q (.ref r) H'
theorem NH (T:Tx K mg ad):Ao P w K mg base CX0 4 ad.Bs ad.CV ["groups"] (Zb ad):=by
 have G_line_of:=A6.mk (Hh (P:=P) (w:=w) (base:=base) T) T.JN T.Cc.kp T.JW
 have G_Group_pieces:=Th (P:=P) (w:=w) (base:=base) T
 refine T.Bu.ok IM (fun vs H Q E h=>?_) (fun cdv A outer s H vs Q E hr h=>?_)
 ·obtain ⟨Hb,D,dj,dg,E,lk,n,rfl,_⟩:=h
  rfl
 ·obtain ⟨Hb,D,dj,dg,E,lk,n,rfl,g,wE,k⟩:=h
  have nd:=IM.nd
  refine ⟨_,(AE (psl 1 nd (Ak AB))
    (AE (Df PassesOwn.never rfl (DW (K:=K) (AU (GS rfl) (by rfl) T.Ef PyProof.Rows.boot_sorted (AA (pvC 0) AB))) (pgn 2 nd)
    (AF (DH (CA (K:=K) F.plainAttrs_list F.slot_list_extend F.type_list_extend LZ (pvC 1) (AA (pcm (AH FY) [("place", 2)] ⟨rfl,rfl,trivial⟩ (DW (K:=K) (QG (JL hr.u1 (pvC 0) (pvC 2) (fun _ _=>rfl)) T.Iz T.Mb G_Group_pieces (hr.mono (by decide)) T.Nn .nil Ic)) (fun _ _ _ _=>Fb) (fun _ _ _ _=>(AJ G_line_of hr (AA (AN (Fg (K:=K)) (AN (Fg (K:=K)) (Av (AA AI (AA (pvC 1) AB))) (AY (KW (K:=K)) (pvC 0) Aj (AZ AD))) (Ci K (pvC 0) AD)) AB)))) AB)))))
    (AF (AS (pvC 1))))),?_⟩
  have sz:sizeLine=16777216:=sizeLine_eq
  refine ⟨Nat.zero_le _,fun l hl=>?_⟩
  refine AV (o:=.lst []) hl fun H1 s1 el=>?_
  obtain ⟨J2,J3,ej,_⟩:=id g.gr
  have ej:=g.st.fix ej (MU fun z=>nomatch z)
  refine ⟨dg,_,rfl,s1 _ _ ej,.inl fun q hq=>?_,Nat.lt_of_le_of_lt (le1 rfl:_≤2) (by decide),fun ls ks hls pk ps=>?_⟩
  ·simp only [List.mem_cons,List.not_mem_nil,or_false] at hq
   rcases hq with rfl|rfl <;> exact ⟨_,rfl⟩
  cases SN (by decide) pk ps
  have nll:ls≠l:=fun z=>by rw [z,el] at hls;cases hls
  refine AV (o:=.lst [.int 4,.int 5]) hls fun H2 s2 els=>?_
  have fx:∀{b:Addr} {o:HO},Hb b=some o→o≠.dK []→H b=some o:=fun q ho=>g.st.fix q ho
  refine ⟨ls,rfl,⟨_,SqL.of els⟩,HJ (xs:=[.int 4,.int 5]) (fun j σ H'=>∃o2,σ=[some (.ref dg),some (.ref l),o2]/\AO H H'/\H' l=some (.lst (Lis E 4 j))/\H' ls=some (.lst [.int 4,.int 5])/\(Lis E 4 j).length≤1000 * j)
   ⟨none,rfl,s1.trans s2,s2 _ _ el,els,Nat.zero_le _⟩ (fun i σ H' _ ⟨_,_,_,_,e,_⟩=>SqL.of e) ?_ ?_⟩
  ·rintro j x σ H4 hx ⟨o2,rfl,s4,el4,els4,la⟩
   have hj:j<2:=(List.getElem?_eq_some_iff.mp hx).1
   obtain rfl:x=.int ((4+j:Nat):Int):=by
    match j,hx with
    | 0,hx=>cases hx;rfl
    | 1,hx=>cases hx;rfl
   have tri:Lis E 4 (j+1)=Lis E 4 j++Li E ((4+j:Nat):Int):=rfl
   generalize hi:((4+j:Nat):Int)=i at tri
   have i4:4≤i:=by omega
   have i6:i<6:=by omega
   obtain ⟨kvs,S,xS,v,e1,n1,e2,eS⟩:=g.gr.at i4 i6
   have e1:=s4 _ _ (fx e1 (MU n1))
   have eS:=s4 _ _ (fx eS (by intro z;cases z))
   refine ⟨.inl ⟨rfl,_,SqL.of el4⟩,dg,_,rfl,by have:=IJ.k (k:=Sum.inl i) e1;rw [e2] at this;exact this,S,xS,_,rfl,eS,rfl,?_⟩
   refine ⟨Hb,D,E,n,i,S,xS,v,rfl,eS,g.st.same s4,by omega,i6,Vg g.so g.rg i,g.n2,g.n1,fun H5 r xs s5 _ er tr=>⟨r,rfl,⟨_,SqL.of er⟩,?_⟩⟩
   have hxl:=tr.len
   have lL:=Pq E i
   unfold Li at lL
   rw [List.length_map] at hxl lL
   have hE:=g.n2
   refine KJ (K:=K) (xs:=xs) (fun q τ acc' H'=>(∃o,τ=[o,some (.int i)])/\AO H5 H'/\acc'=(Li E i).take q) (by omega) ⟨⟨none,rfl⟩,AO.refl _,rfl⟩ (fun q τ acc' H' ⟨_,s',_⟩=>SqL.of (s' _ _ er)) ?_ ?_
   ·rintro q y τ acc' H6 R1 hy _ ⟨⟨o,rfl⟩,s6,rfl⟩ k1
    obtain ⟨a,vs,rfl,ek,ea⟩:=tr.at hy
    rw [List.getElem?_map] at ek
    obtain ⟨e,ee,rfl⟩:=Option.map_eq_some_iff.mp ek
    obtain ⟨m1,m2⟩:=List.mem_filter.mp (List.mem_of_getElem? ee)
    have m2:=of_decide_eq_true m2
    obtain ⟨b,en,q',c,m,lo,gr,q1⟩:=Z0 (g.rg e m1) (by rw [m2];exact i4)
    rw [m2] at q1
    have w:=wE e m1
    have etl:=g.st.tl e m1
    generalize e.ky=z at q1
    subst q1
    have ea6:H6 a=some (.tup [.str z,.int b,.int en,.ref q']):=s6 _ _ ea
    have eq6:H6 q'=some (.tup [.int c,.int m,.int lo,.int gr]):=s6 _ _ (s5 _ _ (s4 _ _ etl))
    refine ⟨le1 rfl,fun p hp=>?_⟩
    refine AV (o:=.tup [.str "piece", .int i]) hp fun H7 s7 ep=>?_
    refine ⟨_,rfl,a,_,rfl,SqT.of (s7 _ _ ea6),(fun h=>absurd (show (3:Nat)=4 from h.2) (by decide)),fun p1 hp1=>?_⟩
    refine AV (o:=.tup [.str z,.int b,.int en]) hp1 fun H8 s8 ep1=>?_
    refine ⟨p,p1,_,_,rfl,rfl,SqT.of (s8 _ _ ep),SqT.of ep1,(fun z=>nomatch z),le1 rfl,(fun z=>nomatch z),fun _ p2 hp2=>?_⟩
    refine AV (o:=.tup [.str "piece", .int i,.str z,.int b,.int en]) hp2 fun H9 s9 ep2=>?_
    have s69:=(s7.trans s8).trans s9
    refine ⟨_,_,SqT.of (s69 _ _ ea6),AL (j:=3) rfl,p2,q',_,_,rfl,rfl,SqT.of ep2,SqT.of (s69 _ _ eq6),(fun z=>nomatch z),le1 rfl,(fun z=>nomatch z),fun _ p3 hp3=>⟨p3,_,rfl,.inr AG,w.2,w.1,fun HA sA=>k1 _ _ _ ⟨⟨_,rfl⟩,(s6.trans (s69.upd hp3)).trans sA,?_⟩⟩⟩
    unfold Li
    rw [List.take_add_one,List.getElem?_map,ee]
    rfl
   ·rintro τ acc' H6 la6 ⟨_,s6,rfl⟩ C hC
    rw [List.take_of_length_le (show (Li E i).length≤xs.length by unfold Li;rw [List.length_map];omega)]
    refine AV (o:=.lst (Li E i)) hC fun H7 s7 eC=>?_
    have s47:=(s5.trans s6).trans s7
    have lL2:=Pq E i
    refine ⟨l,C,_,_,rfl,rfl,s47 _ _ el4,eC,by omega,_,rfl,(s4.trans s47).Ma hl,by rw [AG,tri],by rw [AM nll];exact s47 _ _ els4,by rw [tri,List.length_append];omega⟩
  ·rintro σ H3 ⟨o2,rfl,s3,el3,els3,la⟩
   exact k H3 l s3 hl el3
theorem aK {E:List Ent}(so:Srt E) (rg:∀e∈E,e.rg):E.Pairwise fun x y=>kLt (.inl y.ix) (.inl x.ix)=false:=by
 refine List.Pairwise.imp_of_mem (fun {x y} hx hy h=>decide_eq_false fun lt=>?_) so
 have lt:y.ix<x.ix:=lt
 have rx:=rg x hx
 have ry:=rg y hy
 have ff:∀{a b:Int} {u v:List Key},a<b→An (.inl a::u) (.inl b::v)=false→False:=fun {a b u v} n h=>by
  rw [An,if_neg (fun z=>by have:=Sum.inl.inj z;omega)] at h
  exact absurd n (of_decide_eq_false h)
 cases x with
 | it i1 k1 t1 a1 =>
  cases y with
  | it i2 k2 t2 a2 =>
   have lt:i2<i1:=lt
   have r1:0≤i1/\i1<4:=rx
   have r2:0≤i2/\i2<4:=ry
   unfold Ent.rk at h
   rw [An,if_pos rfl] at h
   by_cases e:2+i2 / 2=2+i1 / 2
   ·rw [e,An,if_pos rfl] at h
    exact ff (show i2 % 2<i1 % 2 by omega) h
   ·exact ff (show 2+i2 / 2<2+i1 / 2 by omega) h
  | pc i2=>exact absurd lt (by have r1:0≤i1/\i1<4:=rx;have r2:4≤i2/\i2<6:=ry;show ¬ i2<i1;omega)
 | pc i1 k1 =>
  cases y with
  | it i2=>exact ff (show (0:Int)<1 by decide) h
  | pc i2 k2 =>
   have lt:i2<i1:=lt
   unfold Ent.rk at h
   rw [An,if_pos rfl] at h
   exact ff lt h
theorem Xd {E:List Ent}(so:Srt E) (rg:∀e∈E,e.rg):Lis E 0 4++Lis E 4 2=E.map fun e=>V.str (Gp e.ln):=by
 have q:=grp (fun e:Ent=>(Sum.inl e.ix:Key)) (ks:=[.inl 0,.inl 1,.inl 2,.inl 3,.inl 4,.inl 5]) (L:=E) (by simp [kLt]) (by simp) (aK so rg) fun e he=>by
  have h:=rg e he
  have:0≤e.ix/\e.ix<6:=by
   cases e with
   | it i=>have h:0≤i/\i<4:=h;show 0≤i/\i<6;omega
   | pc i=>have h:4≤i/\i<6:=h;show 0≤i/\i<6;omega
  rcases six this.1 this.2 with z|z|z|z|z|z <;> rw [z] <;> simp
 have f:∀i:Int,(E.filter fun e=>decide ((Sum.inl e.ix:Key)=.inl i))=E.filter fun e=>decide (e.ix=i):=fun i=>List.filter_congr fun e _=>by
  by_cases h:e.ix=i
  ·simp [h]
  ·rw [decide_eq_false h,decide_eq_false (fun z=>h (Sum.inl.inj z))]
 simp only [List.flatMap_cons,List.flatMap_nil,List.append_nil,f] at q
 rw [←q]
 simp only [List.map_append]
 rw [q]
 show ([]++Li E 0++Li E 1++Li E 2++Li E 3)++([]++Li E 4++Li E 5)=_
 unfold Li
 simp
def Uj (ad:Ad):Sp:=fun vs H Q _=>∃(Hb:Hp) (D:Int→Addr) (dj dg:Addr) (E:List Ent) (lk:List Key) (n:Nat) (z:Str),vs=[.str z,.ref dj,.ref dg]/\Go ad Hb H D dj dg E lk n/\Wr E/\∀H' r,AO H H'→H' r=some (.lst ((z::(E.map (fun e=>Gp e.ln)++[Ip (E.length+1)])).map V.str))→Q (.ref r) H'
theorem RR (T:Tx K mg ad):Ao P w K mg base CX0 5 ad.FP ad.GC ["first", "joins", "groups"] (Uj ad):=by
 have G_item_lines:=A6.mk (Nw (P:=P) (w:=w) (base:=base) T) T.PN T.CO.kp T.Pk
 have G_piece_lines:=A6.mk (NH (P:=P) (w:=w) (base:=base) T) T.Nx T.Bu.kp T.N7
 have G_end_line:=A6.mk (MO (P:=P) (w:=w) (base:=base) T) T.NT T.DF.kp T.Nm
 refine T.FW.ok M3 (fun vs H Q E h=>?_) (fun cdv A outer s H vs Q E hr h=>?_)
 ·obtain ⟨Hb,D,dj,dg,E,lk,n,z,rfl,_⟩:=h
  rfl
 ·obtain ⟨Hb,D,dj,dg,E,lk,n,z,rfl,g,wE,k⟩:=h
  have nd:=M3.nd
  refine ⟨_,(AE (psl 3 nd (AN A1 (AN A1 (Ak (AA (pvC 0) AB)) (AJ G_item_lines hr (AA (pvC 1) AB))) (AJ G_piece_lines hr (AA (pvC 2) AB))))
    (AF (AS (AN A1 (pvC 3) (Ak (AA (AJ G_end_line hr (AA (AU (AW (K:=K)) (by rfl) T.BS PySem.boot_len (AA (pvC 3) AB)) AB)) AB)))))),?_⟩
  have sz:sizeLine=16777216:=sizeLine_eq
  have al:=Xd g.so g.rg
  have ll:(Lis E 0 4).length+(Lis E 4 2).length=E.length:=by rw [←List.length_append,al,List.length_map]
  have hE:=g.n2
  refine ⟨le1 rfl,fun l1 h1=>?_⟩
  refine AV (o:=.lst [.str z]) h1 fun H1 s1 e1=>?_
  refine ⟨Hb,D,dj,dg,E,lk,n,rfl,g.same s1,wE,fun H2 l2 s2 _ e2=>?_⟩
  refine ⟨l1,l2,_,_,rfl,rfl,s2 _ _ e1,e2,by rw [List.length_singleton];omega,fun l3 h3=>?_⟩
  refine AV h3 fun H3 s3 e3=>?_
  have s13:=(s1.trans s2).trans s3
  refine ⟨Hb,D,dj,dg,E,lk,n,rfl,g.same s13,wE,fun H4 l4 s4 _ e4=>?_⟩
  refine ⟨l3,l4,_,_,rfl,rfl,s4 _ _ e3,e4,by rw [List.length_append,List.length_singleton];omega,fun l5 h5=>?_⟩
  rw [List.append_assoc,al]
  refine AV h5 fun H5 s5 e5=>?_
  have len:([V.str z]++E.map fun e=>V.str (Gp e.ln)).length=E.length+1:=by rw [List.length_append,List.length_map,List.length_singleton];omega
  refine ⟨_,.inl (SqL.of e5),_,rfl,?_,fun H6 s6=>⟨le1 rfl,fun l7 h7=>?_⟩⟩
  ·rw [len]
   exact Nat.lt_of_le_of_lt (show E.length+1≤1001 by omega) (by decide)
  rw [len]
  refine AV (o:=.lst [.str (Ip (E.length+1))]) h7 fun H7 s7 e7=>?_
  refine ⟨l5,l7,_,_,rfl,rfl,s7 _ _ (s6 _ _ e5),e7,by rw [len,List.length_singleton];omega,fun r hr=>k _ r ((((s13.trans s4).trans s5).trans (s6.trans s7)).upd hr) ?_⟩
  rw [AG,List.map_cons,List.map_append,List.map_map]
  rfl
def Ug (ad:Ad):Sp:=fun vs H Q _=>∃(x:Addr) (z0:Str) (zs:List Str),vs=[.ref x]/\Flw ad H x z0 zs/\∀H' r,AO H H'→H' r=some (.lst ((z0::zs).map V.str))→Q (.ref r) H'
theorem Ti (T:Tx K mg ad):Ao P w K mg base CX0 6 ad.GX ad.HP ["flow"] (Ug ad):=by
 have G_line_of:=A6.mk (Hh (P:=P) (w:=w) (base:=base) T) T.JN T.Cc.kp T.JW
 have G_keep_of:=A6.mk (RR (P:=P) (w:=w) (base:=base) T) T.T3 T.FW.kp T.UL
 refine T.Ge.ok OH (fun vs H Q E h=>?_) (fun cdv A outer s H vs Q E hr h=>?_)
 ·obtain ⟨x,z0,zs,rfl,_⟩:=h
  rfl
 ·obtain ⟨x,z0,zs,rfl,⟨Hb,c,dj,dg,D,E,lk,n,sl,a,b,d,⟨dx,dc,p,fx,fc⟩,⟨u,v,y,ew,h1,h2,h3,_⟩,g,wE,rfl⟩,k⟩:=h
  have nd:=OH.nd
  refine ⟨_,(AE (psl 1 nd (AJ G_line_of hr (AA (Ak (AA AI (AA (Cr (Cr (pvC 0) rfl) rfl) (AA (Cr (Cr (pvC 0) rfl) rfl) (AA (Cr (pvC 0) rfl) AB))))) AB)))
    (AF (AS (AJ G_keep_of hr (AA (pvC 1) (AA (Cr (pvC 0) rfl) (AA (Cr (pvC 0) rfl) AB))))))),?_⟩
  have k1:=nv h1
  have k2:=nv h2
  have k3:=nv h3
  refine ⟨x,_,dx,_,_,rfl,fx,T.Cm,T.Bh,rfl,c,_,dc,_,_,rfl,fc,T.GR,T.Ct,rfl,x,_,dx,_,_,rfl,fx,T.Cm,T.Bh,rfl,c,_,dc,_,_,rfl,fc,T.GR,T.Br,rfl,x,_,dx,_,_,rfl,fx,T.Cm,T.Bp,rfl,le1 rfl,fun l hl=>?_⟩
  refine AV (o:=.lst [.str "clock", .int a,.int b,.int d]) hl fun H1 s1 e1=>?_
  refine ⟨l,_,rfl,.inl e1,le1 rfl,fun w hw=>?_,fun H2 s2=>?_⟩
  ·simp only [List.mem_cons,List.not_mem_nil,or_false] at hw
   rcases hw with rfl|rfl|rfl|rfl
   ·exact .inr ⟨_,rfl,by decide⟩
   ·exact .inl ⟨_,rfl,k1.2⟩
   ·exact .inl ⟨_,rfl,k2.2⟩
   ·exact .inl ⟨_,rfl,k3.2⟩
  have ez:Gp [.str "clock", .int a,.int b,.int d]=z0:=by
   show Txt.join " " [("clock" : Str),Ee a,Ee b,Ee d]=z0
   rw [k1.1,k2.1,k3.1,←ew]
   exact Mt z0
  rw [ez]
  have s12:=s1.trans s2
  have fx2:=s12 _ _ fx
  exact ⟨x,_,dx,_,_,rfl,fx2,T.Cm,T.CD,rfl,x,_,dx,_,_,rfl,fx2,T.Cm,T.Bq,rfl,Hb,D,dj,dg,E,lk,n,z0,rfl,g.same s12,wE,fun H3 r s3 er=>k H3 r (s12.trans s3) er⟩
theorem Sy {z:Str}{g:TG}{tb:TS}{D:Ends}{σ:L2.St}{H:Hp}(Pv:Nat→L2.St→Hp→Prop) (h0:Pv 0 σ H)
  (hs:∀(i:Nat) c σ H,z.cps.toList[i]?=some c→Pv i σ H→g (.str ⟨#[c]⟩) σ H fun σ2 H2=>tb { D with nx:=Pv (i+1),ct:=Pv (i+1),bk:=D.nx } σ2 H2) (hd:∀σ H,Pv z.cps.size σ H→D.nx σ H) :
  ∃W:Nat→Nat→L2.St→Hp→Prop,(∃m,W 0 m σ H)/\∀i m σ H,W i m σ H →
   ((Its z).stop i H/\D.nx σ H)\/((Its z).go i H/\∃N:L2.St→Hp→Prop,(∀σ' H',N σ' H'→∃m',m'<m/\W (i+1) m' σ' H')/\∀x H',(Its z).yld i H x H'→g x σ H' fun σ2 H2=>tb { D with nx:=N,ct:=N,bk:=D.nx } σ2 H2):=by
 refine ⟨fun i m σ H=>m=z.cps.size-i/\i≤z.cps.size/\Pv i σ H,⟨z.cps.size,rfl,Nat.zero_le _,h0⟩,?_⟩
 rintro i m σ H ⟨rfl,hi,p⟩
 by_cases hlt:i<z.cps.size
 ·refine .inr ⟨hlt,Pv (i+1),fun σ' H' p'=>⟨z.cps.size-(i+1),by omega,rfl,hlt,p'⟩,fun x H' y=>?_⟩
  obtain ⟨e,c,ec,ex⟩:=y
  subst e ex
  exact hs i c σ _ (by rw [Array.getElem?_toList];exact ec) p
 ·have e:i=z.cps.size:=by omega
  subst e
  exact .inl ⟨Nat.le_refl _,hd σ H p⟩
section
open PySem.Spec PyProof.Rows
open PySem.SeqAt
open PySem.AutoSeq1 (wpAny_loadPart')
open PySem.MeetsSeq PySem.MeetsSeq2 PySem.MeetsSeq3
def oEq:Ordering→Bool|.eq=>true|_=>false
theorem ZN (l b:Addr) (items items2:Array Value) (n n2:Nat) (dd dd2:Option Addr) (sl sl2:Array (Option Value)) (r:Ordering) (hx:Lx items.toList items2.toList items.size items2.size r) :
  Meets (Builtin.«tuple.__eq__» ⟨[.ref l,.ref b],[]⟩)
   (fun _ R s=>s.heap.get? l=some { cls:=.type "tuple", dict:=dd,data:=.seq items n,slots:=sl }/\s.heap.get? b=some { cls:=.type "tuple", dict:=dd2,data:=.seq items2 n2,slots:=sl2 } /\
    R (.ok (.ret (.bool (oEq r)))) s) :=
 .of_wp fun prog w A R s h=>by
  obtain ⟨hp,g,d,tk,os⟩:=s;obtain ⟨hl,hb,h⟩:=h
  have f2:=AutoSeq1.sub_tuple_tuple
  wp_walk using wpAny_loadPart' hl,wpAny_loadPart' hb,wpAny_forIn_list _ (fun rest b s'=>b.1=none/\s'=⟨hp,g,d,tk,os⟩/\∃(vs ws:List Value),rest=vs.zip ws/\Lx vs ws items.size items2.size r) _
  case turn =>
   rintro ⟨y,x⟩ rest b s' ⟨hb',rfl,vs,ws,hz,hx'⟩
   cases ws with
   | nil=>rw [List.zip_nil_right] at hz;cases hz
   | cons c ws =>
    cases vs with
    | nil=>cases hz
    | cons a us =>
     rw [List.zip_cons_cons] at hz
     injection hz with hyx hrest
     injection hyx with hy hx
     subst hy hx
     have fa:=hx'.f1 y List.mem_cons_self
     have fc:=hx'.f2 x List.mem_cons_self
     rcases hx'.step with ⟨e,h5⟩|⟨e,ks,h5⟩
     ·refine wpAny_bind (Fj A.in1 ⟨hp,g,d,tk,os⟩ fa fc (by rw [e]) prog w _ _ ?_)
      rw [decide_eq_true e]
      wp_walk
      exact ⟨rfl,rfl,us,ws,hrest,h5⟩
     ·refine wpAny_bind (Fj A.in1 ⟨hp,g,d,tk,os⟩ fa fc ks prog w _ _ ?_)
      rw [decide_eq_false e]
      have h6:oEq r=false:=by rw [h5];split <;> rfl
      rw [h6] at h
      wp_walk
      exact ⟨_,rfl,h⟩
  case fin =>
   rintro ⟨b1,b2⟩ s' ⟨hb',rfl,vs,ws,hz,hx'⟩
   simp only at hb'
   subst hb'
   have hv:=hx'.fin hz.symm
   have hv:oEq r=(items.size==items2.size):=by
    rw [hv]
    by_cases h1:items.size<items2.size
    ·rw [if_pos h1,beq_eq_false_iff_ne.mpr (by omega)];rfl
    ·rw [if_neg h1]
     by_cases h2:items2.size<items.size
     ·rw [if_pos h2,beq_eq_false_iff_ne.mpr (by omega)];rfl
     ·rw [if_neg h2,beq_iff_eq.mpr (by omega)];rfl
   rw [hv] at h
   wp_walk
   exact ⟨_,rfl,by simpa [Builtin.Tuple.tupleCompareSizes] using h⟩
  case h =>
   exact ⟨rfl,rfl,items.toList,items2.toList,rfl,hx⟩
variable {X:Cx}{K:W.Frag}
unseal OpR in
theorem Xs (hu:X.A.units<cLine) (hK:X.K=K:=by rfl):OpR X (compareOp .Eq) (Wg K oEq):=by
 subst hK
 intro pins s σ H x y v u Q I rx ry h
 obtain ⟨a,rfl,h1⟩:=Dh h
 obtain ⟨b,rfl,ks,ms,r,ha,hb,hc,q⟩:=Dh h1
 cases rx
 cases ry
 obtain ⟨_,_,n,n2,dd,dd2,sl,sl2,ho,ho2,lx⟩:=Pg I ha hb hc
 exact richCompare_meets_room (op:=.Eq) ⟨_,ho,rfl⟩ ⟨_,ho2,rfl⟩ F.slot_tuple_eq F.entry_tuple_eq (by rfl) (ZN a b _ _ n n2 dd dd2 sl sl2 _ lx)
  ⟨ho,ho2,show Value.bool (oEq r)≠Value.notImplemented/\EP X pins σ Q (.bool (oEq r)) s from ⟨(fun e=>nomatch e),⟨.bl _,H,I,rfl,q⟩⟩⟩ hu
end
theorem take_one (z:Str):(Txt.slice z none (some 1)).cps.toList=z.cps.toList.take 1:=by
 by_cases h:1≤z.length
 ·have e:Txt.slice z none (some 1)=StrLaws.sliceText z none (some 1):=rfl
  rw [e,StrLaws.sliceText_to ⟨by decide,by rw [F6] at h;omega⟩]
  rfl
 ·have a:=F6 z
  have b:=F6 (Txt.slice z none (some 1))
  have c:(Txt.slice z none (some 1)).length≤z.length:=Txt.slice_le _ _ _
  have hz:z.cps.toList=[]:=List.length_eq_zero_iff.mp (by omega)
  rw [hz,List.take_nil]
  exact List.length_eq_zero_iff.mp (by omega)
theorem VS (z:Str):decide (V.str (Txt.slice z none (some 1))=V.str "-")=Txt.startswith z "-" := by
 have e:Txt.startswith z "-" = decide (z.cps.toList[0]?=some 45):=sub_one z 45
 rw [e]
 have t:=take_one z
 refine decide_eq_decide.mpr ⟨fun z'=>?_,fun h=>congrArg V.str (Hm ?_)⟩
 ·rw [V.str.inj z'] at t
  cases q:z.cps.toList with
  | nil=>rw [q] at t;exact absurd t (by decide)
  | cons a r =>
   rw [q] at t
   have t':([45]:List Nat)=[a]:=t
   injection t' with t1 _
   rw [←t1]
   rfl
 ·rw [t]
  cases q:z.cps.toList with
  | nil=>rw [q] at h;cases h
  | cons a r =>
   rw [q] at h
   rw [show a=45 from Option.some.inj h]
   rfl
def Uh:Sp:=fun vs H Q _=>∃z:Str,vs=[.str z]/\z.length≤60000/\Q (Ae z) H
theorem NJ (T:Tx K mg ad):Ao P w K mg base CX0 1 ad.FI ad.F9 ["_law_word"] Uh:=by
 refine T.EV.ok Mz (fun vs H Q E h=>?_) (fun cdv A outer s H vs Q E hr h=>?_)
 ·obtain ⟨z,rfl,_⟩:=h
  rfl
 ·obtain ⟨z,rfl,hz,k⟩:=h
  have nd:=Mz.nd
  refine ⟨_,(AE (psl 1 nd (Ff (AQ Cj (AY RE (pvC 0) Aj (AZ AD)) AI (AX _)) (AY RE (pvC 0) (AZ AD) Aj) (pvC 0)))
    (Ib (A4 (PW.pt (G3 (AQ Cj (pvC 1) AI (AX _)) (G3 (AQ RM (AU F8 (by rfl) T.BS PySem.boot_len (AA (pvC 0) AB)) AD (AX _)) (Ia (PW.pt (Eh (AQ Cj (U3 Y0 (pvC 1) AD (fun _ _=>rfl)) AI (AX _)) (FZ (AQ Jk (pvC 0) AI (AX _)))))))))
    (AF (AS Bx))
    Ab)
    (AE (Df PassesOwn.never rfl (RI (pvC 1)) (pgn 2 nd)
    (AF (A4 (AQ Ku (pvC 2) AI (by with_unfolding_all rfl))
    (AF (AS Bx))
    Ab)))
    (AF (AS (Aa LA (by rfl) T.Lr PyProof.Rows.boot_int (AA (pvC 0) AB))))))),?_⟩
  have sz:sizeLine=16777216:=sizeLine_eq
  have hb:=Nj z
  have no:acc z=false→Q .non H:=fun e=>by rw [PJ e] at k;exact k
  have key:∀R:VK,R (.str (A8 z)) H→if decide (V.str (Txt.slice z none (some 1))=V.str "-")=true then tSl Ya (IE 0) (Py (tC (.int 1))) KR [some (.str z),none,none] H R else IE 0 [some (.str z),none,none] H R:=fun R q=>by
   rw [VS]
   unfold A8 at q
   refine By (fun e=>?_) fun e=>?_
   ·rw [if_pos e] at q
    exact ⟨_,rfl,z,rfl,by omega,q⟩
   ·rw [if_neg (by rw [e];exact Bool.false_ne_true)] at q
    exact q
  refine ⟨_,rfl,z,rfl,by omega,rfl,_,rfl,key _ ?_⟩
  refine fun nx rt bk ct z1 z2=>⟨rfl,_,rfl,By (fun e2=>?_) fun e2=>?_⟩
  ·exact Ek (z2 _ _ (no (by unfold acc;rw [e2];simp)))
  refine ⟨z,rfl,by omega,_,rfl,By (fun e1=>?_) fun e1=>?_⟩
  ·exact Ek (z2 _ _ (no (by unfold acc;rw [e1];rfl)))
  have go:(Txt.startswith (A8 z) "0" && !decide (V.str z=V.str "0"))=false→nx [some (.str z),some (.str (A8 z)),none] H:=fun e3=>z1 _ _ ?_
  ·cases hc:(A8 z).cps.toList with
   | nil=>exact absurd (congrArg V.str (Hm (b := "") hc)) (of_decide_eq_false e2)
   | cons c r =>
    have es:Txt.startswith (A8 z) "0" = decide ((A8 z).cps.toList[0]?=some 48):=sub_one _ 48
    have e48:∀b:Bool,decide (V.str ⟨#[c]⟩=V.str "0")=b→Txt.startswith (A8 z) "0" = b:=fun b q=>by
     rw [es,hc,←q]
     refine decide_eq_decide.mpr ⟨fun h=>?_,fun h=>?_⟩
     ·rw [show c=48 from Option.some.inj h];rfl
     ·have:=congrArg (fun z:Str=>z.cps.toList) (V.str.inj h)
      have t':([c]:List Nat)=[48]:=this
      injection t' with t1 _
      rw [t1]
      rfl
    refine ⟨A8 z,0,c,rfl,rfl,by omega,AL (j:=0) (by rw [hc];rfl),rfl,_,rfl,By (fun e3=>?_) fun e3=>?_⟩
    ·refine ⟨rfl,_,rfl,By (fun e4=>?_) fun e4=>?_⟩
     ·exact z2 _ _ (no (by unfold acc;rw [e48 _ e3,e4];simp))
     ·exact go (by rw [e4];simp)
    ·exact DJ (go (by rw [e48 _ e3];rfl))
  ·refine ⟨A8 z,rfl,Sy (fun i σ H'=>(∃o2,σ=[some (.str z),some (.str (A8 z)),o2])/\H'=H/\∀c∈(A8 z).cps.toList.take i,pS FIG (.str ⟨#[c]⟩)=true) ⟨⟨none,rfl⟩,rfl,fun c hc=>(nomatch hc)⟩ ?_ ?_⟩
   ·rintro i c σ H' hc ⟨⟨o2,rfl⟩,rfl,al⟩
    refine ⟨_,_,rfl,rfl,_,rfl,By (fun q=>?_) fun q=>⟨⟨_,rfl⟩,rfl,fun d hd=>?_⟩⟩
    ·refine no ?_
     have:(B9 (A8 z)).all (pS FIG)=false:=by
      rw [List.all_eq_false]
      exact ⟨.str ⟨#[c]⟩,List.mem_map.mpr ⟨c,List.mem_of_getElem? hc,rfl⟩,by have q:(!pS FIG (.str ⟨#[c]⟩))=true:=q;rw [Bool.not_eq_true'] at q;rw [q];exact Bool.false_ne_true⟩
     unfold acc
     rw [this]
     simp
    ·rw [List.take_add_one,hc] at hd
     rcases List.mem_append.mp hd with hd|hd
     ·exact al d hd
     ·have:d=c:=by simpa using hd
      rw [this]
      show (!_)=true
      simpa using q
   ·rintro σ H' ⟨⟨o2,rfl⟩,rfl,al⟩
    have ha:acc z=true:=by
     have:(B9 (A8 z)).all (pS FIG)=true:=by
      rw [List.all_eq_true]
      intro x hx
      obtain ⟨c,hc,rfl⟩:=List.mem_map.mp hx
      exact al c (by rw [List.take_of_length_le (by simp)];exact hc)
     unfold acc
     rw [e1,e2,this,e3]
     rfl
    obtain ⟨n,e4,e5,_⟩:=NM z ha
    rw [e5] at k
    have:¬ (60:Int)<z.length:=of_decide_eq_false e1
    exact ⟨z,n,rfl,e4,by omega,k⟩
def WU:Sp:=fun vs H Q _=>∃z,vs=[.str z]/\z.length≤60000/\Q (.bl (Jm z)) H
theorem VJ (T:Tx K mg ad):Ao P w K mg base CX0 1 ad.Dm ad.E4 ["_law_word"] WU:=by
 refine T.D4.ok Ly (fun vs H Q E h=>?_) (fun cdv A outer s H vs Q E hr h=>?_)
 ·obtain ⟨z,rfl,_⟩:=h
  rfl
 ·obtain ⟨z,rfl,hz,k⟩:=h
  have nd:=Ly.nd
  refine ⟨_,(AE (Df PassesOwn.never rfl (RI (pvC 0)) (pgn 1 nd)
    (AF (A4 (AQ Ku (pvC 1) AI (by with_unfolding_all rfl))
    (AF (AS VD))
    Ab)))
    (AF (AS (Ks Gx Gx AD (AU F8 (by rfl) T.BS PySem.boot_len (AA (pvC 0) AB)) AD)))),?_⟩
  have sz:sizeLine=16777216:=sizeLine_eq
  refine ⟨z,rfl,Sy (fun i σ H'=>(∃o2,σ=[some (.str z),o2])/\H'=H/\∀c∈z.cps.toList.take i,pS LET (.str ⟨#[c]⟩)=true) ⟨⟨none,rfl⟩,rfl,fun c hc=>(nomatch hc)⟩ ?_ ?_⟩
  ·rintro i c σ H' hc ⟨⟨o2,rfl⟩,rfl,al⟩
   refine ⟨_,_,rfl,rfl,_,rfl,By (fun q=>?_) fun q=>⟨⟨_,rfl⟩,rfl,fun d hd=>?_⟩⟩
   ·have:(B9 z).all (pS LET)=false:=by
     rw [List.all_eq_false]
     exact ⟨.str ⟨#[c]⟩,List.mem_map.mpr ⟨c,List.mem_of_getElem? hc,rfl⟩,by have q:(!pS LET (.str ⟨#[c]⟩))=true:=q;rw [Bool.not_eq_true'] at q;rw [q];exact Bool.false_ne_true⟩
    unfold Jm at k
    rw [this,Bool.and_false] at k
    exact k
   ·rw [List.take_add_one,hc] at hd
    rcases List.mem_append.mp hd with hd|hd
    ·exact al d hd
    ·have:d=c:=by simpa using hd
     rw [this]
     show (!_)=true
     simpa using q
  ·rintro σ H' ⟨⟨o2,rfl⟩,rfl,al⟩
   have:(B9 z).all (pS LET)=true:=by
    rw [List.all_eq_true]
    intro x hx
    obtain ⟨c,hc,rfl⟩:=List.mem_map.mp hx
    exact al c (by rw [List.take_of_length_le (by simp)];exact hc)
   unfold Jm at k
   rw [this,Bool.and_true] at k
   refine ⟨z,rfl,by omega,_,rfl,By (fun e=>?_) fun e=>?_⟩
   ·rw [e,Bool.true_and] at k
    exact k
   ·rw [e,Bool.false_and] at k
    exact k
theorem WI {K:W.Frag}{H:Hp}{a:Addr}{xs:List V}(q:H a=some (.lst xs)):Wk (Itl K a) xs H:=⟨fun i H1 s hi=>⟨xs,xs[i],SqL.of (s _ _ q),by simp [hi]⟩,fun H1 s=>⟨xs,SqL.of (s _ _ q),Nat.le_refl _⟩,fun i x H1 H' s _ y=>⟨y.1,y.2 xs (SqL.of (s _ _ q))⟩⟩
theorem US {K:W.Frag}{H:Hp}{a:Addr}{xs:List V}(q:H a=some (.tup xs)):Wk (Itt K a) xs H:=⟨fun i H1 s hi=>⟨xs,xs[i],SqT.of (s _ _ q),by simp [hi]⟩,fun H1 s=>⟨xs,SqT.of (s _ _ q),Nat.le_refl _⟩,fun i x H1 H' s _ y=>⟨y.1,y.2 xs (SqT.of (s _ _ q))⟩⟩
theorem inN (ws:List Str):inV .non (ws.map Ae)=!(ws.map Ae).all Cg:=by
 induction ws with
 | nil=>rfl
 | cons z r ih =>
  rw [List.map_cons,List.all_cons,Bool.not_and]
  show (eqV (Ae z) .non||inV .non (r.map Ae))=_
  rw [ih]
  rcases G9 z with e|⟨n,e,_⟩ <;> rw [e] <;> rfl
theorem Vo (ws:List Str):(ws.map Ae).all Jo=true:=by
 rw [List.all_eq_true]
 intro x hx
 obtain ⟨z,_,rfl⟩:=List.mem_map.mp hx
 exact (Fd z).flat
theorem NZ (i p q:Int):inV (.int i) [.int p,.int q]=decide (i=p\/i=q):=by
 show ((p==i)||((q==i)||false))=_
 by_cases h1:i=p
 ·subst h1;simp
 ·by_cases h2:i=q
  ·subst h2;simp
  ·simp [h1,h2,show ¬ p=i from fun z=>h1 z.symm,show ¬ q=i from fun z=>h2 z.symm]
theorem XU (w0:Str) (r:List Str):Jb ((w0::r).map V.str) (some 1) none=r.map V.str:=by
 rw [show (1:Int)=((1:Nat):Int) from rfl]
 unfold Jb
 rw [HT.Kl,HT.Mj,List.length_map]
 have:min 1 (w0::r).length=1:=by rw [List.length_cons];omega
 rw [this]
 exact List.take_of_length_le (by simp)
def Zi:Sp:=fun vs H Q _=>∃z:Str,vs=[.str z]/\z.length≤60000/\∀H' b,AO H H'→(b=true↔∃x y u,Nr (wds z) x y u)→Q (.bl b) H'
theorem Tn (T:Tx K mg ad):Ao P w K mg base CX0 2 ad.Cz ad.ED ["_law_line"] Zi:=by
 have G_unumber:=A6.mk (NJ (P:=P) (w:=w) (base:=base) T) T.OM T.EV.kp T.Og
 refine T.C8.ok KZ (fun vs H Q E h=>?_) (fun cdv A outer s H vs Q E hr h=>?_)
 ·obtain ⟨z,rfl,_⟩:=h
  rfl
 ·obtain ⟨z,rfl,hz,k⟩:=h
  have nd:=KZ.nd
  refine ⟨_,(AE (psl 1 nd (CA (K:=K) F.plainAttrs_str F.slot_str_split F.type_str_split Ig (pvC 0) (AA AI AB)))
    (AE (O3 (i:=2) (osc:=AH Gk) [] nd rfl (Or.inl rfl) rfl (DW (K:=K) (AY (Ah (K:=K)) (pvC 1) (AZ AD) Aj)) rfl rfl (by decide +kernel) (by decide +kernel) (by decide +kernel) trivial rfl (by decide +kernel) (fun _ _ _ _=>Fb) (fun _ _ _ _=>(AJ G_unumber hr (AA (pvC 0) AB))))
    (AE (A4 (PW.pt (G3 (AQ Jk (Bn K (pvC 1) AD) AI (AX _)) (G3 (AQ Jk (AU (AW (K:=K)) (by rfl) T.BS PySem.boot_len (AA (pvC 1) AB)) AD (AX _)) (Ia (AQ (Ex (K:=K)) Bx (pvC 2) (by with_unfolding_all rfl))))))
    (AF (AS VD))
    Ab)
    (AF (AS (Cs (Ks Gx Gx AD (Bn K (pvC 2) AD) (AN NG AD AD)) (Cs (Fc Sn (Bn K (pvC 2) AD) AD (AX _)) (Gw (Fc Sn (Bn K (pvC 2) AD) AD (AX _)))))))))),?_⟩
  have sz:sizeLine=16777216:=sizeLine_eq
  refine ⟨rfl,z, " ", rfl,rfl,by decide,by omega,fun l hl=>?_⟩
  have hw:=SK z
  have hm:=fun x (h:x∈wds z)=>Nat.le_trans (JG h) hz
  obtain ⟨w0,r,ew⟩:=Om z
  rw [ew] at k hw hm
  rw [show Txt.split z " " = w0::r from ew]
  rw [List.length_cons] at hw
  refine AV (o:=.lst ((w0::r).map V.str)) hl fun H1 s1 e1=>?_
  refine ⟨_,rfl,l,_,rfl,SqL.of e1,fun l2 hl2=>?_⟩
  rw [XU]
  refine AV (o:=.lst (r.map V.str)) hl2 fun H2 s2 e2=>?_
  refine ⟨l2,rfl,⟨_,SqL.of e2⟩,JU (fun x=>Ae (Oo x)) (WI e2) (by rw [List.length_map];omega) (fun x H3 R hx s3 q=>?_) fun H3 C s3 nC eC=>?_⟩
  ·obtain ⟨y,hy,rfl⟩:=List.mem_map.mp hx
   exact ⟨y,rfl,hm y (List.mem_cons_of_mem _ hy),q H3 (AO.refl _)⟩
  have eC:H3 C=some (.lst (r.map Ae)):=by rw [eC,List.map_map];rfl
  have S:=(s1.trans s2).trans s3
  have no:(∀x y u,¬ Nr (w0::r) x y u)→Q (.bl false) H3:=fun h=>k H3 false S ⟨fun q=>(nomatch q),fun ⟨x,y,u,q⟩=>absurd q (h x y u)⟩
  refine ⟨_,_,SqL.of ((s2.trans s3) _ _ e1),AL (j:=0) rfl,rfl,_,rfl,Qn (K4 (fun q1=>?_) fun q1=>Ek (no fun a b c ⟨_,_,_,e,_⟩=>q1 (List.cons.inj e).1))⟩
  subst q1
  refine ⟨_,.inl (SqL.of ((s2.trans s3) _ _ e1)),rfl,_,rfl,Qn (Fx (fun q2=>?_) fun q2=>Ek (no fun a b c ⟨_,_,_,e,_⟩=>q2 (by rw [e];rfl)))⟩
  have q2:r.length=3:=by rw [List.length_map,List.length_cons] at q2;omega
  obtain ⟨x,y,u,rfl⟩:∃x y u,r=[x,y,u]:=by
   match r,q2 with
   | [x,y,u],_=>exact ⟨x,y,u,rfl⟩
  refine ⟨C,_,rfl,.inl (SqL.of eC),rfl,Vo _,_,rfl,By (fun q3=>?_) fun q3=>?_⟩
  ·have q3:inV .non ([x,y,u].map Ae)=true:=q3
   rw [inN] at q3
   refine no fun a b c ⟨_,_,_,e,e1,e2,e3,_⟩=>?_
   injection e with _ e
   injection e with h1 e
   injection e with h2 e
   injection e with h3 e
   subst h1 h2 h3
   rw [List.map_cons,List.map_cons,List.map_cons,e1,e2,e3] at q3
   cases q3
  have q3:inV .non ([x,y,u].map Ae)=false:=q3
  rw [inN] at q3
  have q3:(Cg (Ae x)&&(Cg (Ae y)&&(Cg (Ae u)&&true)))=true:=by simpa using q3
  simp only [Bool.and_eq_true,and_true] at q3
  obtain ⟨a,ea⟩:=A3 q3.1
  obtain ⟨b,eb⟩:=A3 q3.2.1
  obtain ⟨c,ec⟩:=A3 q3.2.2
  rw [List.map_cons,List.map_cons,List.map_cons,ea,eb,ec] at eC
  have iff:(0≤a/\a≤1000000000/\0≤b/\0≤c)↔∃a b c,Nr [("clock" : Str),x,y,u] a b c:=by
   constructor
   ·exact fun h=>⟨a,b,c,x,y,u,rfl,ea,eb,ec,h⟩
   ·rintro ⟨a',b',c',_,_,_,e,e1,e2,e3,h⟩
    injection e with _ e
    injection e with h1 e
    injection e with h2 e
    injection e with h3 e
    subst h1 h2 h3
    rw [ea] at e1
    rw [eb] at e2
    rw [ec] at e3
    cases e1
    cases e2
    cases e3
    exact h
  have fin:∀bb:Bool,(bb=true↔0≤a/\a≤1000000000/\0≤b/\0≤c)→Q (.bl bb) H3:=fun bb h=>k H3 bb S (h.trans iff)
  have e9:(10:Int) ^ Int.toNat 9=1000000000:=by decide
  refine ⟨_,_,SqL.of eC,AL (j:=0) rfl,_,rfl,NY (fun h0=>?_) fun h0=>⟨_,rfl,DJ (fin false ⟨fun q=>(nomatch q),fun q=>absurd q.1 h0⟩)⟩⟩
  refine ⟨_,_,rfl,rfl,⟨by decide,by decide,by decide⟩,_,rfl,NY (fun h1=>?_) fun h1=>fin false ⟨fun q=>(nomatch q),fun q=>absurd (by rw [e9];exact q.2.1) h1⟩⟩
  rw [e9] at h1
  refine ⟨_,_,SqL.of eC,AL (j:=1) rfl,_,_,rfl,rfl,_,rfl,NY (fun h2=>?_) fun h2=>fin false ⟨fun q=>(nomatch q),fun q=>absurd q.2.2.1 h2⟩⟩
  exact ⟨_,_,SqL.of eC,AL (j:=2) rfl,_,_,rfl,rfl,fin _ (decide_eq_true_iff.trans ⟨fun h=>⟨h0,h1,h2,h⟩,fun h=>h.2.2.2⟩)⟩
theorem Xu {n:Nat}(h:n.ble 100=true:=by rfl):n≤sizeLine:=Nat.le_trans (le1 h) (by decide)
def YL:Sp:=fun vs H Q _=>∃z:Str,vs=[.str z]/\z.length≤60000/\∀H' r ks,AO H H'→H' r=some (.tup (ks.map kV))→((ks=[]/\∀e,¬ II z e)\/∃e,II z e/\ks=e.rk)→Q (.ref r) H'
def Se (ws:List Str):V→V
 | .int i=>Ae ((ws[i.toNat]?).getD "")|_=>.non
theorem VI (T:Tx K mg ad):Ao P w K mg base CX0 2 ad.Ht ad.JQ ["_law_line"] YL:=by
 have G_unumber:=A6.mk (NJ (P:=P) (w:=w) (base:=base) T) T.OM T.EV.kp T.Og
 have G_uis_name:=A6.mk (VJ (P:=P) (w:=w) (base:=base) T) T.Rg T.D4.kp T.Rx
 refine T.Hz.ok P1 (fun vs H Q E h=>?_) (fun cdv A outer s H vs Q E hr h=>?_)
 ·obtain ⟨z,rfl,_⟩:=h
  rfl
 ·obtain ⟨z,rfl,hz,k⟩:=h
  have nd:=P1.nd
  refine ⟨_,(AE (psl 1 nd (CA (K:=K) F.plainAttrs_str F.slot_str_split F.type_str_split Ig (pvC 0) (AA AI AB)))
    (Ib (A4 (PW.pt (Eh (AQ Cj (Bn K (pvC 1) AD) AI (AX _)) (Eh (AQ Cj (AU (AW (K:=K)) (by rfl) T.BS PySem.boot_len (AA (pvC 1) AB)) AD (AX _)) (FZ (DU (AJ G_uis_name hr (AA (Bn K (pvC 1) AD) AB)))))))
    (AE (O3 (i:=2) (osc:=AH Ki) [("_law_words", 1)] nd rfl (Or.inl rfl) rfl (Sf (K:=K) (Av (AA AD (AA AD (AA AD (AA AD AB)))))) rfl rfl (by decide +kernel) (by decide +kernel) (by decide +kernel) ⟨rfl,rfl,trivial⟩ rfl (by decide +kernel) (fun _ _ _ _=>Fb) (fun _ _ _ _=>(AJ G_unumber hr (AA (Bn K (pvC 1) (pvC 0)) AB))))
    (AF (A4 (PW.pt (Eh (AQ (Jj (K:=K)) Bx (pvC 2) (by with_unfolding_all rfl)) (Eh (AQ (Ex (K:=K)) (Bn K (pvC 2) AD) (Av (AA AD (AA AD AB))) (by with_unfolding_all rfl)) (Eh (AQ (Ex (K:=K)) (Bn K (pvC 2) AD) (Av (AA AD (AA AD AB))) (by with_unfolding_all rfl)) (FZ (Uv Gx Gx AD (Bn K (pvC 2) AD) (AN NG AD AD)))))))
    (AF (AS (Av (AA AD (AA (Bn K (pvC 2) AD) (AA (Bn K (pvC 2) AD) (AA (Bn K (pvC 1) AD) (AA (Bn K (pvC 2) AD) (AA (Bn K (pvC 2) AD) AB)))))))))
    Ab)))
    Ab)
    (Ib (A4 (PW.pt (Eh (AQ Cj (Bn K (pvC 1) AD) AI (AX _)) (Eh (AQ Cj (AU (AW (K:=K)) (by rfl) T.BS PySem.boot_len (AA (pvC 1) AB)) AD (AX _)) (FZ (DU (AJ G_uis_name hr (AA (Bn K (pvC 1) AD) AB)))))))
    (AE (O3 (i:=2) (osc:=AH Ki) [("_law_words", 1)] nd rfl (Or.inl rfl) rfl (Sf (K:=K) (Av (AA AD (AA AD (AA AD (AA AD (AA AD (AA AD (AA AD AB))))))))) rfl rfl (by decide +kernel) (by decide +kernel) (by decide +kernel) ⟨rfl,rfl,trivial⟩ rfl (by decide +kernel) (fun _ _ _ _=>Fb) (fun _ _ _ _=>(AJ G_unumber hr (AA (Bn K (pvC 1) (pvC 0)) AB))))
    (AF (A4 (PW.pt (Eh (AQ (Jj (K:=K)) Bx (pvC 2) (by with_unfolding_all rfl)) (FZ (AQ (Ex (K:=K)) (Bn K (pvC 2) AD) (Av (AA AD (AA AD AB))) (by with_unfolding_all rfl)))))
    (AF (AS (Av (AA AD (AA (Bn K (pvC 2) AD) (AA (Bn K (pvC 1) AD) (AA (Bn K (pvC 2) AD) AB)))))))
    Ab)))
    Ab)
    (AF (AS (Av AB)))))),?_⟩
  have sz:sizeLine=16777216:=sizeLine_eq
  refine ⟨rfl,z, " ", rfl,rfl,by decide,by omega,fun l hl=>?_⟩
  have hm:=fun x (h:x∈wds z)=>Nat.le_trans (JG h) hz
  obtain ⟨w0,r,ew⟩:=Om z
  rw [ew] at hm
  rw [show Txt.split z " " = w0::r from ew]
  refine AV (o:=.lst ((w0::r).map V.str)) hl fun H1 s1 e1=>?_
  have e9:(10:Int) ^ Int.toNat 9=1000000000:=by decide
  have at':∀{ws:List Str} {j:Nat} {y:Str} {H3:Hp} {R:VK},H3 l=some (.lst (ws.map V.str))→ws[j]?=some y→(∀x∈ws,x.length≤60000)→R (Se ws (.int (j:Int))) H3→Pz Uh [] E0 (Ls (tOp (Xo K) (IE 1) (IE 0)) Oq) [some (.int (j:Int)),some (.ref l)] H3 R:=fun {ws j y H3 R} e hj hm q=>by
   refine ⟨_,_,SqL.of e,AL (j:=j) (by rw [List.getElem?_map,hj];rfl),y,rfl,hm y (List.mem_of_getElem? hj),?_⟩
   have:Se ws (.int (j:Int))=Ae y:=by
    show Ae ((ws[(j:Int).toNat]?).getD "")=_
    rw [Int.toNat_natCast,hj]
    rfl
   rwa [this] at q
  refine fun nx rt bk ct z1 z2=>?_
  have go:(∀p s k t a,¬ Mg (w0::r) p s k t a)→∀o H2,AO H1 H2→nx [some (.str z),some (.ref l),o] H2:=fun hno o H2 s2=>z1 _ _ fun nx rt bk ct z1 z2=>?go
  case go =>
   have go:(∀p k s e c m l g,¬ Nq (w0::r) p k s e c m l g)→∀o H2,AO H1 H2→nx [some (.str z),some (.ref l),o] H2:=fun hno2 o H2 s2=>z1 _ _ ⟨Nat.zero_le _,fun p hp=>k _ p [] ((s1.trans s2).upd hp) AG (.inl ⟨rfl,fun e he=>?_⟩)⟩
   ·refine ⟨_,_,SqL.of (s2 _ _ e1),AL (j:=0) rfl,rfl,_,rfl,K4 (fun q1=>?_) fun q1=>DJ (go (fun p k s e c m l g ⟨_,_,_,_,_,_,_,e,_⟩=>q1 (List.cons.inj e).1) o H2 s2)⟩
    subst q1
    refine ⟨_,.inl (SqL.of (s2 _ _ e1)),rfl,_,rfl,Fx (fun q2=>?_) fun q2=>DJ (go (fun p k s e c m l g ⟨_,_,_,_,_,_,_,e,_⟩=>q2 (by rw [e];rfl)) o H2 s2)⟩
    have q2:r.length=8:=by rw [List.length_map,List.length_cons] at q2;omega
    obtain ⟨x,ky,y1,y2,y3,y4,y5,y6,rfl⟩:∃x k y1 y2 y3 y4 y5 y6,r=[x,k,y1,y2,y3,y4,y5,y6]:=by
     match r,q2 with
     | [x,k,y1,y2,y3,y4,y5,y6],_=>exact ⟨x,k,y1,y2,y3,y4,y5,y6,rfl⟩
    have inj:∀{p k s e c m l g},Nq [("piece" : Str),x,ky,y1,y2,y3,y4,y5,y6] p k s e c m l g→pcG x ky y1 y2 y3 y4 y5 y6=true:=fun {p k s e c m l g} h=>by
     have h':=h
     obtain ⟨_,_,_,_,_,_,_,e,f1,_,f3,f4,f5,f6,f7,f8,_⟩:=h
     injection e with _ e
     injection e with i1 e
     injection e with i2 e
     injection e with i3 e
     injection e with i4 e
     injection e with i5 e
     injection e with i6 e
     injection e with i7 e
     injection e with i8 e
     subst i1 i2 i3 i4 i5 i6 i7 i8
     exact Mn.mpr ⟨p,s,_,c,m,l,g,h',f1,by rw [List.map_cons,f3,List.map_cons,f4,List.map_cons,f5,List.map_cons,f6,List.map_cons,f7,List.map_cons,f8];rfl⟩
    have nog:pcG x ky y1 y2 y3 y4 y5 y6=false→∀p k s e c m l g,¬ Nq [("piece" : Str),x,ky,y1,y2,y3,y4,y5,y6] p k s e c m l g:=fun q p k s e c m l g h=>by rw [inj h] at q;cases q
    refine ⟨_,_,SqL.of (s2 _ _ e1),AL (j:=2) rfl,ky,rfl,hm ky (by simp),_,rfl,By (fun q3=>?_) fun q3=>go (nog (by unfold pcG;rw [q3];simp)) o H2 s2⟩
    refine ⟨le1 rfl,fun tp htp=>?_⟩
    refine AV (o:=.tup [.int 1,.int 3,.int 4,.int 5,.int 6,.int 7,.int 8]) htp fun H3 s3 etp=>?_
    have s13:=s2.trans s3
    refine ⟨tp,rfl,⟨_,SqT.of etp⟩,JU (Se [("piece" : Str),x,ky,y1,y2,y3,y4,y5,y6]) (US etp) Xu (fun v H4 R hv s4 q=>?_) fun H4 C s4 _ eC=>?_⟩
    ·have e4:=(s13.trans s4) _ _ e1
     have q:=q H4 (AO.refl _)
     simp only [List.mem_cons,List.not_mem_nil,or_false] at hv
     rcases hv with rfl|rfl|rfl|rfl|rfl|rfl|rfl
     ·exact at' (j:=1) e4 rfl hm q
     ·exact at' (j:=3) e4 rfl hm q
     ·exact at' (j:=4) e4 rfl hm q
     ·exact at' (j:=5) e4 rfl hm q
     ·exact at' (j:=6) e4 rfl hm q
     ·exact at' (j:=7) e4 rfl hm q
     ·exact at' (j:=8) e4 rfl hm q
    have s14:=s13.trans s4
    have eC:H4 C=some (.lst ([x,y1,y2,y3,y4,y5,y6].map Ae)):=eC
    refine ⟨C,_,rfl,.inl (SqL.of eC),rfl,Vo _,_,rfl,By (fun q4=>?_) fun q4=>DJ (go (nog ?_) _ H4 s14)⟩
    ·have q4:(!inV .non ([x,y1,y2,y3,y4,y5,y6].map Ae))=true:=q4
     rw [inN,Bool.not_not] at q4
     obtain ⟨q5,q6⟩:Cg (Ae x)=true/\([y1,y2,y3,y4,y5,y6].map Ae).all Cg=true:=by simpa only [List.map_cons,List.all_cons,Bool.and_eq_true] using q4
     obtain ⟨i,ei⟩:=A3 q5
     obtain ⟨b,eb⟩:∃b,Ae y1=.int b:=A3 (by simp only [List.map_cons,List.all_cons,Bool.and_eq_true] at q6;exact q6.1)
     have eC':=eC
     rw [List.map_cons,ei,List.map_cons,eb] at eC'
     refine ⟨_,_,SqL.of eC',AL (j:=0) rfl,le1 rfl,fun q hq=>?_⟩
     refine AV (o:=.tup [.int 4,.int 5]) hq fun H5 s5 eq=>?_
     have s15:=s14.trans s5
     have tw:inV (.int i) [.int 4,.int 5]=Nb 4 5 (Ae x):=by rw [NZ,ei];rfl
     refine ⟨q,_,rfl,.inr (SqT.of eq),rfl,rfl,_,rfl,By (fun q7=>?_) fun q7=>go (nog ?_) _ H5 s15⟩
     ·have q7:inV (.int i) [.int 4,.int 5]=true:=q7
      rw [tw] at q7
      obtain ⟨p,sb,en,c,m,lo,gr,hpc,hp,hb⟩:=Mn.mp (show pcG x ky y1 y2 y3 y4 y5 y6=true by unfold pcG;rw [q7,q3,q6];rfl)
      have hpi:p=i:=by rw [ei] at hp;exact (V.int.inj hp).symm
      have hbb:sb=b:=by have:=(List.cons.inj hb).1;rw [eb] at this;exact (V.int.inj this).symm
      have eC5:=s5 _ _ eC'
      refine ⟨_,_,SqL.of eC5,AL (j:=0) rfl,_,_,SqL.of (s15 _ _ e1),AL (j:=2) rfl,_,_,SqL.of eC5,AL (j:=1) rfl,le1 rfl,fun p' hp'=>z2 _ _ (k _ p' (Ent.pc i ky b en l c m lo gr).rk ((s1.trans s15).upd hp') AG (.inr ⟨.pc i ky b en l c m lo gr,?_,rfl⟩))⟩
      show Nq (wds z) i ky b en c m lo gr
      rw [ew,←hpi,←hbb]
      exact hpc
     ·unfold pcG
      rw [←tw,show inV (.int i) [.int 4,.int 5]=false from q7]
      rfl
    ·have q4:(!inV .non ([x,y1,y2,y3,y4,y5,y6].map Ae))=false:=q4
     rw [inN,Bool.not_not] at q4
     unfold pcG
     cases q5:Cg (Ae x) with
     | false =>
      have:Nb 4 5 (Ae x)=false:=by
       rcases G9 x with e|⟨n,e,_⟩
       ·rw [e];rfl
       ·rw [e] at q5;cases q5
      rw [this]
      rfl
     | true =>
      rw [List.map_cons,List.all_cons,q5,Bool.true_and] at q4
      rw [q4]
      simp
   ·cases e with
    | it i k t a=>exact hno _ _ _ _ _ (by rw [←ew];exact he.2.2)
    | pc i k s e q c m l g=>exact hno2 _ _ _ _ _ _ _ _ (by rw [←ew];exact he)
  refine ⟨_,_,SqL.of e1,AL (j:=0) rfl,rfl,_,rfl,K4 (fun q1=>?_) fun q1=>DJ (go (fun p s k t a ⟨_,_,_,_,e,_⟩=>q1 (List.cons.inj e).1) _ H1 (AO.refl _))⟩
  subst q1
  refine ⟨_,.inl (SqL.of e1),rfl,_,rfl,Fx (fun q2=>?_) fun q2=>DJ (go (fun p s k t a ⟨_,_,_,_,e,_⟩=>q2 (by rw [e];rfl)) _ H1 (AO.refl _))⟩
  have q2:r.length=5:=by rw [List.length_map,List.length_cons] at q2;omega
  obtain ⟨x,y,ky,u,v,rfl⟩:∃x y k u v,r=[x,y,k,u,v]:=by
   match r,q2 with
   | [x,y,k,u,v],_=>exact ⟨x,y,k,u,v,rfl⟩
  have nog:itG x y ky u v=false→∀p s k t a,¬ Mg [("item" : Str),x,y,ky,u,v] p s k t a:=fun q p s k t a h=>by
   have h':=h
   obtain ⟨_,_,_,_,e,e1,e2,e3,e4,e5,_⟩:=h
   injection e with _ e
   injection e with i1 e
   injection e with i2 e
   injection e with i3 e
   injection e with i4 e
   injection e with i5 e
   subst i1 i2 i3 i4 i5
   rw [K5.mpr ⟨p,s,t,a,h',e1,e2,e4,e5⟩] at q
   cases q
  refine ⟨_,_,SqL.of e1,AL (j:=3) rfl,ky,rfl,hm ky (by simp),_,rfl,By (fun q3=>?_) fun q3=>go (nog (by unfold itG;rw [q3];simp)) _ H1 (AO.refl _)⟩
  refine ⟨le1 rfl,fun tp htp=>?_⟩
  refine AV (o:=.tup [.int 1,.int 2,.int 4,.int 5]) htp fun H3 s3 etp=>?_
  refine ⟨tp,rfl,⟨_,SqT.of etp⟩,JU (Se [("item" : Str),x,y,ky,u,v]) (US etp) Xu (fun v H4 R hv s4 q=>?_) fun H4 C s4 _ eC=>?_⟩
  ·have e4:=(s3.trans s4) _ _ e1
   have q:=q H4 (AO.refl _)
   simp only [List.mem_cons,List.not_mem_nil,or_false] at hv
   rcases hv with rfl|rfl|rfl|rfl
   ·exact at' (j:=1) e4 rfl hm q
   ·exact at' (j:=2) e4 rfl hm q
   ·exact at' (j:=4) e4 rfl hm q
   ·exact at' (j:=5) e4 rfl hm q
  have s14:=s3.trans s4
  have eC:H4 C=some (.lst ([x,y,u,v].map Ae)):=eC
  refine ⟨C,_,rfl,.inl (SqL.of eC),rfl,Vo _,_,rfl,By (fun q4=>?_) fun q4=>DJ (go (nog ?_) _ H4 s14)⟩
  ·have q4:(!inV .non ([x,y,u,v].map Ae))=true:=q4
   rw [inN,Bool.not_not] at q4
   simp only [List.map_cons,List.map_nil,List.all_cons,List.all_nil,Bool.and_eq_true,and_true] at q4
   obtain ⟨i,ei⟩:=A3 q4.1
   obtain ⟨j,ej⟩:=A3 q4.2.1
   obtain ⟨t,et⟩:=A3 q4.2.2.1
   obtain ⟨a,ea⟩:=A3 q4.2.2.2
   have g0:itG x y ky u v=(decide (i=2\/i=3)&&(decide (j=0\/j=1)&&(decide (0≤t)&&decide (t≤1000000000)))):=by
    unfold itG
    rw [aN (Fd y),ei,ej,et,ea,q3]
    show (decide _&&(decide _&&(true&&((decide _&&decide _)&&true))))=_
    rw [Bool.true_and,Bool.and_true]
   rw [List.map_cons,ei,List.map_cons,ej,List.map_cons,et,List.map_cons,ea] at eC
   refine ⟨_,_,SqL.of eC,AL (j:=0) rfl,le1 rfl,fun q hq=>?_⟩
   refine AV (o:=.tup [.int 2,.int 3]) hq fun H5 s5 eq=>?_
   have s15:=s14.trans s5
   refine ⟨q,_,rfl,.inr (SqT.of eq),rfl,rfl,_,rfl,By (fun q7=>?_) fun q7=>DJ (go (nog ?_) _ H5 s15)⟩
   ·have q7:inV (.int i) [.int 2,.int 3]=true:=q7
    rw [NZ] at q7
    have eC5:=s5 _ _ eC
    refine ⟨_,_,SqL.of eC5,AL (j:=1) rfl,le1 rfl,fun q' hq'=>?_⟩
    refine AV (o:=.tup [.int 0,.int 1]) hq' fun H6 s6 eq'=>?_
    have s16:=s15.trans s6
    refine ⟨q',_,rfl,.inr (SqT.of eq'),rfl,rfl,_,rfl,By (fun q8=>?_) fun q8=>DJ (go (nog ?_) _ H6 s16)⟩
    ·have q8:inV (.int j) [.int 0,.int 1]=true:=q8
     rw [NZ] at q8
     have eC6:=s6 _ _ eC5
     refine ⟨_,_,SqL.of eC6,AL (j:=2) rfl,_,rfl,NY (fun t0=>?_) fun t0=>?_⟩
     ·refine ⟨_,_,rfl,rfl,⟨by decide,by decide,by decide⟩,_,rfl,NY (fun t1=>?_) fun t1=>go (nog ?_) _ H6 s16⟩
      ·rw [e9] at t1
       obtain ⟨p,sd,t',a',hit,hp,hs,ht,ha⟩:=K5.mp (show itG x y ky u v=true by rw [g0,q7,q8,decide_eq_true t0,decide_eq_true t1];rfl)
       have hen:=Mg.en (z:=z) (by rw [ew];exact hit)
       rw [ei] at hp
       rw [ej] at hs
       rw [et] at ht
       rw [ea] at ha
       cases hp
       cases hs
       cases ht
       cases ha
       refine ⟨_,_,SqL.of eC6,AL (j:=0) rfl,_,_,SqL.of eC6,AL (j:=1) rfl,_,_,SqL.of (s16 _ _ e1),AL (j:=3) rfl,_,_,SqL.of eC6,AL (j:=2) rfl,_,_,SqL.of eC6,AL (j:=3) rfl,le1 rfl,fun p' hp'=>z2 _ _ (k _ p' [.inl 0,.inl i,.inl j,.inr ky,.inl t,.inl a] ((s1.trans s16).upd hp') AG (.inr ⟨_,hen.1,?_⟩))⟩
       show _=[Sum.inl 0,Sum.inl (2+(2 * (i-2)+j) / 2),Sum.inl ((2 * (i-2)+j) % 2),_,_,_]
       rw [hen.2.1,hen.2.2]
      ·rw [e9] at t1
       rw [g0,decide_eq_false t1]
       simp
     ·exact ⟨_,rfl,DJ (go (nog (by rw [g0,decide_eq_false t0];simp)) _ H6 s16)⟩
    ·have q8:inV (.int j) [.int 0,.int 1]=false:=q8
     rw [NZ] at q8
     rw [g0,q8]
     simp
   ·have q7:inV (.int i) [.int 2,.int 3]=false:=q7
    rw [NZ] at q7
    rw [g0,q7]
    rfl
  ·have q4:(!inV .non ([x,y,u,v].map Ae))=false:=q4
   rw [inN,Bool.not_not] at q4
   cases g:itG x y ky u v with
   | false=>rfl
   | true =>
    obtain ⟨p,s,t,a,_,h1,h2,h3,h4⟩:=K5.mp g
    rw [List.map_cons,h1,List.map_cons,h2,List.map_cons,h3,List.map_cons,h4] at q4
    cases q4
theorem QR (e:Ent) (i:Int) (h:i≤0):¬ Bad [.inl i] e:=fun b=>by
 cases e with
 | it =>
  have b:An _ _=true:=b
  unfold Ent.rk at b
  rw [An] at b
  split at b
  ·cases b
  ·have:(0:Int)<i:=of_decide_eq_true b
   omega
 | pc =>
  have b:An _ _=false:=b
  unfold Ent.rk at b
  rw [An] at b
  split at b
  ·rename_i q
   have:=Sum.inl.inj q
   omega
  ·have:¬ i<1:=of_decide_eq_false b
   omega
theorem UQ {i:Int}(h:i≤0) (zs:List Str):wr 1 [.inl i] zs=wr 1 [.inl 0] zs:=by
 cases zs with
 | nil=>rfl
 | cons z zs =>
  by_cases hz:z=Ip 1
  ·rw [Ol hz,Ol hz]
  ·by_cases he:∃e,II z e
   ·obtain ⟨e,he⟩:=he
    rw [SI hz he (QR e i h),SI hz he (QR e 0 (Int.le_refl _))]
   ·rw [SH hz fun e q=>absurd ⟨e,q⟩ he,SH hz fun e q=>absurd ⟨e,q⟩ he]
theorem Sz (k:Nat):("end " : Str)++tx (k:Int)=Ip k:=by
 refine Hm ?_
 rw [Pd]
 unfold Ip Gp
 rw [show Txt.join " " ([V.str "end", .int (k:Int)].map Oo)=Str.join " " [("end" : Str),Ee k] from eq_of_beq (PyProof.Rows.join_plain_closes _ _),UY]
 have:=XO 32 ("end" : Str) (Ee (k:Int)) []
 rw [show (" " : Str)=⟨#[32]⟩ by decide +kernel,this]
 have j1:Str.join ⟨#[32]⟩ [Ee (k:Int)]=Ee (k:Int):=rfl
 rw [j1,show ("end " : Str).cps.toList=("end" : Str).cps.toList++[32] by decide +kernel,List.append_assoc]
 rfl
def WQ:Sp:=fun vs H Q _=>∃(l:Addr) (zs:List Str),vs=[.ref l]/\H l=some (.lst (zs.map V.str))/\zs.length≤900/\(∀z∈zs,z.length≤60000)/\∀H',AO H H'→Q (.int (ID zs)) H'
theorem Tj (T:Tx K mg ad):Ao P w K mg base CX0 3 ad.GV ad.HK ["_law_lines"] WQ:=by
 have G_uis_clock:=A6.mk (Tn (P:=P) (w:=w) (base:=base) T) T.Qa T.C8.kp T.Qx
 have G_urank:=A6.mk (VI (P:=P) (w:=w) (base:=base) T) T.XF T.Hz.kp T.XX
 refine T.GZ.ok OF (fun vs H Q E h=>?_) (fun cdv A outer s H vs Q E hr h=>?_)
 ·obtain ⟨l,zs,rfl,_⟩:=h
  rfl
 ·obtain ⟨l,zs,rfl,el,lz,hz,kk⟩:=h
  have nd:=OF.nd
  refine ⟨_,(AE (psl 1 nd (Av (AA (Sh Mh AD) AB)))
    (AE (Df PassesOwn.never rfl (JK (by rfl) T.Fz (AA (AU (AW (K:=K)) (by rfl) T.BS PySem.boot_len (AA (pvC 0) AB)) AB)) (pgn 2 nd)
    (AF (A4 (AQ Cj (pvC 2) AD (AX _))
    (AF (A4 (LX (DU (AJ G_uis_clock hr (AA (Bn K (pvC 0) AD) AB))))
    (AF (AS AD))
    Ab))
    (AF (A4 (AQ Cj (Bn K (pvC 0) (pvC 2)) (AN Hf AI (Aa Ac (by rfl) T.Cp PyProof.Rows.boot_str (AA (pvC 2) AB))) (AX _))
    (AF (AS (Ff (AQ Cj (AN Bb (pvC 2) AD) (AU (AW (K:=K)) (by rfl) T.BS PySem.boot_len (AA (pvC 0) AB)) (AX _)) (Sh Mh AD) (AN Bb (pvC 2) AD))))
    (AE (psl 3 nd (AJ G_urank hr (AA (Bn K (pvC 0) (pvC 2)) AB)))
    (Ib (A4 (PW.pt (G3 (AQ (Xs (K:=K) hr.Gu) (pvC 3) (Av AB) (AX _)) (G3 (AQ (Xr (K:=K) hr.Gu) (pvC 3) (pvC 1) (AX _)) (Ia (PW.pt (Eh (AQ (Xs (K:=K) hr.Gu) (pvC 3) (pvC 1) (AX _)) (FZ (AQ Cj (Ci K (pvC 3) AD) AD (AX _)))))))))
    (AF (AS (pvC 2)))
    Ab)
    (AF (psl 1 nd (pvC 3))))))))))
    (AF (AS (AU (AW (K:=K)) (by rfl) T.BS PySem.boot_len (AA (pvC 0) AB)))))),?_⟩
  have sz:sizeLine=16777216:=sizeLine_eq
  refine ⟨le1 rfl,fun la hla=>?_⟩
  refine AV (o:=.tup [.int (-1)]) hla fun H1 s1 e1=>?_
  have len:((zs.map V.str).length:Int)=zs.length:=by rw [List.length_map]
  refine ⟨_,.inl (SqL.of (s1 _ _ el)),_,rfl,by omega,by omega,?_⟩
  rw [len,Int.toNat_natCast]
  refine HI (fun k σ H'=>∃(o2 o3:Option V) (la:Addr) (lk:List Key),σ=[some (.ref l),some (.ref la),o2,o3]/\AO H H'/\H' la=some (.tup (lk.map kV))/\Lk lk/\((k=0/\lk=[.inl (-1)])\/∃z0 zs',zs=z0::zs'/\1≤k/\wr k lk (zs'.drop (k-1))=ID zs))
   ⟨none,none,la,[.inl (-1)],rfl,s1,e1,.z _,.inl ⟨rfl,rfl⟩⟩ ?_ ?_
  ·rintro k σ H2 hk ⟨o2,o3,la,lk,rfl,s2,ela,lo,hh⟩
   rw [Int.zero_add]
   have el2:=s2 _ _ el
   refine ⟨rfl,_,rfl,Fx (fun q0=>?_) fun q0=>?_⟩
   ·have q0:k=0:=by omega
    subst q0
    rcases hh with ⟨_,rfl⟩|⟨_,_,_,h1,_⟩
    ·obtain ⟨z0,zs',rfl⟩:=List.exists_cons_of_ne_nil (List.ne_nil_of_length_pos hk)
     refine ⟨_,_,SqL.of el2,AL (j:=0) rfl,z0,rfl,hz z0 (by simp),fun H3 b s3 hb=>⟨_,rfl,?_⟩⟩
     cases b with
     | false =>
      have:ID (z0::zs')=0:=if_neg fun h=>by have:=hb.mpr h;cases this
      have k0:=kk H3 (s2.trans s3)
      rw [this] at k0
      exact Ek k0
     | true =>
      have:ID (z0::zs')=wr 1 [.inl 0] zs':=if_pos (hb.mp rfl)
      exact DJ ⟨_,_,la,_,rfl,s2.trans s3,s3 _ _ ela,.z _,.inr ⟨z0,zs',rfl,Nat.le_refl _,by rw [this];exact UQ (by decide) _⟩⟩
    ·omega
   ·rcases hh with ⟨h1,_⟩|⟨z0,zs',rfl,h1,ew⟩
    ·exact absurd (by rw [h1];rfl) q0
    obtain ⟨j,rfl⟩:∃j,k=j+1:=⟨k-1,by omega⟩
    rw [List.length_cons] at hk
    obtain ⟨z,ez⟩:∃z,zs'[j]?=some z:=⟨_,List.getElem?_eq_getElem (by omega)⟩
    have at':atI ((z0::zs').map V.str) ((j+1:Nat):Int)=some (.str z):=AL (by rw [List.map_cons,List.getElem?_cons_succ,List.getElem?_map,ez];rfl)
    rw [Nat.add_sub_cancel,PZ ez] at ew
    refine ⟨_,_,SqL.of el2,at',((j+1:Nat):Int),rfl,Lc ?_,_,_,rfl,rfl,?_,rfl,_,rfl,K4 (fun q=>?_) fun q=>?_⟩
    ·exact Nat.lt_of_le_of_lt (show j+1≤1000 by rw [List.length_cons] at lz;omega) (by decide)
    ·have:=Q8 (n:=((j+1:Nat):Int)) (by omega) (Int.lt_of_le_of_lt (show _≤(1000:Int) by rw [List.length_cons] at lz;omega) (by decide))
     have e4:("end " : Str).length=4:=by decide +kernel
     have:(Str.ofString (toString ((j+1:Nat):Int))).length≤60:=this
     omega
    ·rw [show ("end " : Str)++Str.ofString (toString ((j+1:Nat):Int))=Ip (j+1) from Sz (j+1)] at q
     rw [Ol q] at ew
     have k2:=kk H2 s2
     rw [←ew] at k2
     refine ⟨_,.inl (SqL.of el2),rfl,_,rfl,Fx (fun q'=>?_) fun q'=>?_⟩
     ·rw [if_pos (List.drop_eq_nil_of_le (by rw [len,List.length_cons] at q';omega))] at k2
      exact k2
     ·rw [if_neg fun h=>q' (by have:=congrArg List.length h;rw [List.length_drop,List.length_nil] at this;rw [len,List.length_cons];omega)] at k2
      exact k2
    ·rw [show ("end " : Str)++Str.ofString (toString ((j+1:Nat):Int))=Ip (j+1) from Sz (j+1)] at q
     have stop:∀H',AO H H'→(∀e,II z e→Bad lk e)→Q (.int ((j+1:Nat):Int)) H':=fun H' s' hb=>by
      have k2:=kk H' s'
      rw [←ew,SH q hb] at k2
      exact k2
     refine ⟨_,_,SqL.of el2,at',z,rfl,hz z (List.mem_cons_of_mem _ (List.mem_of_getElem? ez)),fun H3 r ks s3 er hks=>?_⟩
     refine fun nx rt bk ct z1 z2=>?_
     refine ⟨le1 rfl,fun p hp=>?_⟩
     refine AV (o:=.tup []) hp fun H4 s4 ep=>?_
     have s24:=s2.trans (s3.trans s4)
     rcases hks with ⟨rfl,hno⟩|⟨e,he,rfl⟩
     ·exact ⟨[],[],.eq,SqT.of (s4 _ _ er),SqT.of ep,rfl,_,rfl,Ek (Ek (z2 _ _ (stop H4 s24 fun e h=>absurd h (hno e))))⟩
     have er4:=s4 _ _ er
     have ela4:=(s3.trans s4) _ _ ela
     obtain ⟨o,ho⟩:=Rr e lo
     obtain ⟨lx1,lx2,lx3⟩:=Iy ho
     refine ⟨e.rk,[],.gt,SqT.of er4,SqT.of ep,by cases e <;> rfl,_,rfl,DJ ⟨_,_,o,SqT.of er4,SqT.of ela4,ho,_,rfl,?_⟩⟩
     have go:¬ Bad lk e→nx [some (.ref l),some (.ref la),some (.int ((j+1:Nat):Int)),some (.ref r)] H4:=fun hb=>z1 _ _ ⟨_,_,r,e.rk,rfl,s24,er4,.e e,.inr ⟨z0,zs',rfl,Nat.le_add_left _ _,by rw [←ew,SI q he hb];rfl⟩⟩
     have bad:Bad lk e→rt (.int ((j+1:Nat):Int)) H4:=fun hb=>z2 _ _ (stop H4 s24 fun e' h=>((he.un h).2 lk).mp hb)
     cases o with
     | lt =>
      refine Ek (Ek (bad ?_))
      cases e with
      | it=>exact lx1
      | pc=>exact lx2
     | gt =>
      refine DJ ⟨_,_,.gt,SqT.of er4,SqT.of ela4,ho,_,rfl,DJ (DJ (go fun hb=>?_))⟩
      cases e with
      | it=>rw [show An _ _=true from hb] at lx1;cases lx1
      | pc=>rw [show An _ _=false from hb] at lx2;cases lx2
     | eq =>
      refine DJ ⟨_,_,.eq,SqT.of er4,SqT.of ela4,ho,_,rfl,Ek ?_⟩
      cases e with
      | it=>exact ⟨_,_,SqT.of er4,AL (j:=0) rfl,rfl,_,rfl,DJ (go fun hb=>by rw [show An _ _=true from hb] at lx1;cases lx1)⟩
      | pc=>exact ⟨_,_,SqT.of er4,AL (j:=0) rfl,rfl,_,rfl,Ek (bad lx2)⟩
  ·rintro σ H2 ⟨o2,o3,la,lk,rfl,s2,ela,lo,hh⟩
   refine ⟨_,.inl (SqL.of (s2 _ _ el)),?_⟩
   have:ID zs=((zs.map V.str).length:Int):=by
    rcases hh with ⟨h1,_⟩|⟨z0,zs',rfl,h1,ew⟩
    ·rw [len,h1,List.eq_nil_of_length_eq_zero h1];rfl
    ·rw [←ew,List.length_cons,Nat.add_sub_cancel,List.drop_eq_nil_of_le (Nat.le_refl _),len]
     rfl
   rw [←this]
   exact kk H2 s2
def bT (K:W.Frag):Sp:=fun vs H Q _=>∃(a:Addr) (ns:List Int) (k:Int),vs=[.ref a,.int k]/\SqL K H a (ns.map V.int)/\0≤k/\∀r:Int,Q (.int r) H
theorem Xt (T:Tx K mg ad):Ao P w K mg base CX0 1 ad.Dq ad.E6 ["_law_script", "_law_k"] (bT K):=by
 refine T.C9.ok L5 (fun vs H Q E h=>?_) (fun cdv A outer s H vs Q E hr h=>?_)
 ·obtain ⟨a,ns,k,rfl,_⟩:=h
  rfl
 ·obtain ⟨a,ns,i,rfl,hS,h0,k⟩:=h
  have nd:=L5.nd
  refine ⟨_,(AE (A4 (AQ O7 (pvC 1) (AU (AW (K:=K)) (by rfl) T.BS PySem.boot_len (AA (pvC 0) AB)) (AX _))
    (AF (AS (Bn K (pvC 0) (pvC 1))))
    Ab)
    (AF (AS AD))),?_⟩
  refine ⟨_,.inl hS,_,rfl,NY (fun e=>?_) fun e=>k 0⟩
  rw [List.length_map] at e
  have hlt:i.toNat<ns.length:=by omega
  refine ⟨_,.int ns[i.toNat],hS,?_,k _⟩
  have q:=AL (xs:=ns.map V.int) (j:=i.toNat) (v:=.int ns[i.toNat]) (by rw [List.getElem?_map,List.getElem?_eq_getElem hlt];rfl)
  rw [Int.toNat_of_nonneg h0] at q
  exact q
def YM:Sp:=fun vs H Q _=>vs=[]/\∀H' r xs,AO H H'→IH H' r xs→Q (.ref r) H'
theorem Wz (T:Tx K mg ad):Ao P w K mg base CX0 1 ad.Hu ad.JR [] YM:=by
 refine T.IA.ok P2 (fun vs H Q E h=>?_) (fun cdv A outer s H vs Q E hr h=>?_)
 ·obtain ⟨rfl,_⟩:=h
  rfl
 ·obtain ⟨rfl,k⟩:=h
  have nd:=P2.nd
  refine ⟨_,(AE (psl 0 nd (Ak (AA (Av (AA AI (AA AI (AA AI AB)))) (AA (Av (AA AI (AA AI (AA AI AB)))) (AA (Av (AA AI (AA AI (AA AI (AA AI (AA AD AB)))))) AB)))))
    (AE (DH (pap K (pvC 0) (AA (Av (AA AI (AA AI (AA AI (AA AI (AA AD AB)))))) AB)))
    (AF (AS (AN A1 (pvC 0) (Ak (AA (Av (AA AI (AA AI (AA AI (AA AI (AA AD (AA AD AB))))))) (AA (Av (AA AI (AA AI (AA AI (AA AI (AA AD AB)))))) AB)))))))),?_⟩
  refine ⟨le1 rfl,fun a0 h0=>?_⟩
  refine AV (o:=.tup [.str "take", .str "ab", .str "buy"]) h0 fun H1 s1 e0=>?_
  refine ⟨le1 rfl,fun a1 h1=>?_⟩
  refine AV (o:=.tup [.str "take", .str "ac", .str "sell"]) h1 fun H2 s2 e1=>?_
  refine ⟨le1 rfl,fun a2 h2=>?_⟩
  refine AV (o:=.tup [.str "join", .str "ad", .str "ab", .str "ac", .int 9]) h2 fun H3 s3 e2=>?_
  refine ⟨le1 rfl,fun l hl=>?_⟩
  have hlH:=((s1.trans s2).trans s3).free hl
  refine AV (o:=.lst [.ref a0,.ref a1,.ref a2]) hl fun H4 s4 el=>?_
  refine ⟨.inl ⟨rfl,_,SqL.of el⟩,le1 rfl,fun a3 h3=>?_⟩
  refine AV (o:=.tup [.str "join", .str "ag", .str "ab", .str "ab", .int 3]) h3 fun H5 s5 e3=>?_
  have el5:=s5 _ _ el
  refine ⟨l,_,_,rfl,rfl,el5,le1 rfl,?_⟩
  have tr0:FU H5 [.ref a0,.ref a1,.ref a2,.ref a3] (Uy.take 4):=.cons ⟨a0,rfl,(((s2.trans s3).trans s4).trans s5) _ _ e0⟩ (.cons ⟨a1,rfl,((s3.trans s4).trans s5) _ _ e1⟩ (.cons ⟨a2,rfl,(s4.trans s5) _ _ e2⟩ (.cons ⟨a3,rfl,e3⟩ .nil)))
  have tp:Tp H5 (upd H5 l (.lst ([.ref a0,.ref a1,.ref a2]++[.ref a3]))):=(Tp.refl H5).upd el5 fun xs=>by intro z;cases z
  have tr1:=tr0.keep tp
  have t6:AO H (upd H5 l (.lst ([.ref a0,.ref a1,.ref a2]++[.ref a3]))):=(((s1.trans s2).trans s3).trans (s4.trans s5)).Ma hlH
  have el6:(upd H5 l (.lst ([.ref a0,.ref a1,.ref a2]++[.ref a3]))) l=some (.lst [.ref a0,.ref a1,.ref a2,.ref a3]):=AG
  generalize upd H5 l (.lst ([.ref a0,.ref a1,.ref a2]++[.ref a3]))=H6 at tr1 t6 el6 ⊢
  refine ⟨le1 rfl,fun a4 h4=>?_⟩
  refine AV (o:=.tup [.str "each", .str "ae", .str "ad", .str "sum", .int 6,.int 3]) h4 fun H7 s7 e4=>?_
  refine ⟨le1 rfl,fun a5 h5=>?_⟩
  refine AV (o:=.tup [.str "gap", .str "af", .str "ag", .str "least", .int 4]) h5 fun H8 s8 e5=>?_
  refine ⟨le1 rfl,fun l2 hl2=>?_⟩
  refine AV (o:=.lst [.ref a4,.ref a5]) hl2 fun H9 s9 el2=>?_
  have s69:=(s7.trans s8).trans s9
  refine ⟨l,l2,_,_,rfl,rfl,s69 _ _ el6,el2,le1 rfl,fun r hr=>k _ r [.ref a0,.ref a1,.ref a2,.ref a3,.ref a4,.ref a5] ((t6.trans s69).upd hr) ⟨AG,?_⟩⟩
  exact FU.keep (Dg (tr1.keep s69.tp) (.cons ⟨a4,rfl,(s8.trans s9) _ _ e4⟩ (.cons ⟨a5,rfl,s9 _ _ e5⟩ .nil))) (AO.Q7 hr).tp
def WY (ad:Ad):Sp:=fun vs H Q _=>∃(e:Addr) (dd:Option Addr),vs=[.ref e]/\H e=some (SE e (.ref ad.AK) dd)/\∀H',AO H H'→Q (.bl true) H'
def Zl:Sp:=fun vs H Q _=>∃c:Int,vs=[.int c]/\∀H' (z:Str),AO H H'→z.length≤60→Q (.str z) H'
theorem RO (T:Tx K mg ad):Ao P w K mg base CX0 1 ad.Dj ad.Ez ["_law_cell"] Zl:=by
 refine T.D1.ok Lu (fun vs H Q E h=>?_) (fun cdv A outer s H vs Q E hr h=>?_)
 ·obtain ⟨c,rfl,_⟩:=h
  rfl
 ·obtain ⟨c,rfl,k⟩:=h
  have nd:=Lu.nd
  refine ⟨_,(AE (psl 1 nd (Ak (AA AI (AA AI (AA AI (AA AI (AA AI (AA AI (AA AI (AA AI (AA AI (AA AI (AA AI (AA AI (AA AI (AA AI (AA AI (AA AI AB))))))))))))))))))
    (AF (AS (Bn K (AN A1 (pvC 1) (Ak (AA AI (AA AI (AA AI (AA AI (AA AI (AA AI AB)))))))) (AN Ap (pvC 0) AD))))),?_⟩
  refine ⟨le1 rfl,fun a0 h0=>?_⟩
  refine AV h0 fun H1 s1 e1=>?_
  refine ⟨le1 rfl,fun a1 h1=>?_⟩
  refine AV h1 fun H2 s2 e2=>?_
  refine ⟨a0,a1,_,_,rfl,rfl,s2 _ _ e1,e2,le1 rfl,fun a2 h2=>?_⟩
  refine AV h2 fun H3 s3 e3=>?_
  obtain ⟨v,hv,hm⟩:=Pm (([("" : Str), "0", "5", "2", "3", "4", "-1", "-0", "007", "+5", "1000000001", "1_0", "k", "key", "kez", "Key", "abcdefghijklm", "item", "piece", "clock", "end", "5.0"]:List Str).map V.str) 22 rfl (by decide) c
  obtain ⟨z,hz,rfl⟩:=List.mem_map.mp hm
  have all:∀z∈([("" : Str), "0", "5", "2", "3", "4", "-1", "-0", "007", "+5", "1000000001", "1_0", "k", "key", "kez", "Key", "abcdefghijklm", "item", "piece", "clock", "end", "5.0"]:List Str),z.length≤60:=by decide +kernel
  exact ⟨(by decide:(0:Int)<22),_,_,SqL.of e3,hv,k _ z ((s1.trans s2).trans s3) (all z hz)⟩
theorem RQ (T:Tx K mg ad):Ao P w K mg base CX0 1 ad.Dl ad.E3 ["_law_cell"] Zl:=by
 refine T.D3.ok Lw (fun vs H Q E h=>?_) (fun cdv A outer s H vs Q E hr h=>?_)
 ·obtain ⟨c,rfl,_⟩:=h
  rfl
 ·obtain ⟨c,rfl,k⟩:=h
  have nd:=Lw.nd
  refine ⟨_,(AE (psl 1 nd (Ak (AA AI (AA AI (AA AI (AA AI (AA AI (AA AI (AA AI AB)))))))))
    (AE (psl 1 nd (AN A1 (pvC 1) (Ak (AA AI (AA AI (AA AI AB))))))
    (AF (AS (Bn K (AN A1 (pvC 1) (Ak (AA AI AB))) (AN Ap (pvC 0) AD)))))),?_⟩
  refine ⟨le1 rfl,fun a0 h0=>?_⟩
  refine AV h0 fun H1 s1 e1=>?_
  refine ⟨le1 rfl,fun a1 h1=>?_⟩
  refine AV h1 fun H2 s2 e2=>?_
  refine ⟨a0,a1,_,_,rfl,rfl,s2 _ _ e1,e2,le1 rfl,fun a2 h2=>?_⟩
  refine AV h2 fun H3 s3 e3=>?_
  refine ⟨le1 rfl,fun a3 h3=>?_⟩
  refine AV h3 fun H4 s4 e4=>?_
  refine ⟨a2,a3,_,_,rfl,rfl,s4 _ _ e3,e4,le1 rfl,fun a5 h5=>?_⟩
  refine AV h5 fun H5 s5 e5=>?_
  obtain ⟨v,hv,hm⟩:=Pm (([("" : Str), "end", "end 1", "clock 1 1 1", "item 2 0 k 5 1", "item 3 0 k 5 1", "item 2 2 k 5 1", "piece 3 k 1 7 1 1 1 1", "piece 4 k 1 7 1 1 1 1", "piece 5 kez 900 907 1 1 1 1", "itemm 2 0 k 5 1"]:List Str).map V.str) 11 rfl (by decide) c
  obtain ⟨z,hz,rfl⟩:=List.mem_map.mp hm
  have all:∀z∈([("" : Str), "end", "end 1", "clock 1 1 1", "item 2 0 k 5 1", "item 3 0 k 5 1", "item 2 2 k 5 1", "piece 3 k 1 7 1 1 1 1", "piece 4 k 1 7 1 1 1 1", "piece 5 kez 900 907 1 1 1 1", "itemm 2 0 k 5 1"]:List Str),z.length≤60:=by decide +kernel
  exact ⟨(by decide:(0:Int)<11),_,_,SqL.of e5,hv,k _ z ((((s1.trans s2).trans s3).trans s4).trans s5) (all z hz)⟩
section
open PySem.Spec PyProof.Rows
variable {X:Cx}{K:W.Frag}
unseal DT in
theorem Rt (hc:X.calm=true):DT X (.type "list") (fun xs H Q=>∃(d:Addr) (kvs:List (List Key×V)),xs=[.ref d]/\H d=some (.dT kvs)/\∀l ys,H l=none→Rws H ys (kvs.map (·.1))→Q (.ref l) (upd H l (.lst ys))):=by
 intro pins s σ H xs us Q I r h
 obtain ⟨d,kvs,rfl,e,q⟩:=h
 obtain ⟨u,rfl,ru⟩:=vals1 r
 cases ru
 obtain ⟨z,lo,qs0,rel,dd⟩:=Xz I.hok e
 obtain ⟨o,es,ep,ho,hx,hd,he,_,_⟩:=dd
 have hlen:kvs.length=qs0.length:=Paired.length rel
 have hsz:es.size=qs0.length:=size_of_entries he
 have ry:Rws H (qs0.map fun q=>V.ref q.2.1) (kvs.map (·.1)):=by
  refine Bo (by rw [List.length_map,List.length_map];omega) fun i x ks e1 e2=>?_
  rw [List.getElem?_map] at e1 e2
  obtain ⟨q1,e3,rfl⟩:=Option.map_eq_some_iff.mp e1
  obtain ⟨p1,e4,rfl⟩:=Option.map_eq_some_iff.mp e2
  exact ⟨_,rfl,(Kt rel e4 e3).2.1⟩
 refine W.kdl_call (Dkr.src (es:=es) (ep:=ep) lo) (I.ok.hd hc) ⟨o,ho,hx,hd⟩ (by omega) fun h' tk acc c' kp e' it=>?_
 have rv:Vals (qs0.map fun q=>V.ref q.2.1) acc.toList:=by
  refine Bo (by have h3:=it.1;have h4:acc.toList.length=acc.size:=Array.length_toList;rw [List.length_map];omega) fun i x v e1 e2=>?_
  rw [List.getElem?_map] at e1
  obtain ⟨q1,e3,rfl⟩:=Option.map_eq_some_iff.mp e1
  obtain ⟨hi,ev⟩:=it.2 i v (by rw [←Array.getElem?_toList];exact e2)
  have e4:es[i]?=some (entryOfKey (tupleKind (A5 X.prog X.w)) q1):=by rw [entry_at he i,e3];rfl
  rw [Array.getElem?_eq_getElem hi] at e4
  rw [ev,Option.some.inj e4]
  rfl
 exact ⟨.ref s.heap.objs.size,_,I.laid (t':=tk) kp (Nat.le_refl _) (show BJ X.prog X.w _ h' _ (.lst (qs0.map fun q=>V.ref q.2.1)) from ⟨by rw [List.length_map];omega,acc.toList,c',rv,by simpa using e'⟩),rfl,q _ _ (I.hok.fresh (Nat.le_refl _)) ry⟩
def bW (K:W.Frag):R2:=fun x y H Q=>onR x fun a=>onR y fun b=>∃zs:List Str,SqL K H a (zs.map V.str)/\SqL K H b (zs.map V.str)/\Q (.bl true) H
unseal OpR in
theorem RN (hu:X.A.units<cLine) (hK:X.K=K:=by rfl):OpR X (compareOp .Eq) (bW K):=by
 subst hK
 intro pins s σ H x y v u Q I rx ry h
 obtain ⟨a,rfl,h1⟩:=Dh h
 obtain ⟨b,rfl,zs,ha,hb,q⟩:=Dh h1
 cases rx
 cases ry
 obtain ⟨its,rv,pl,hz⟩:=I.list ha
 obtain ⟨its2,rv2,pl2,hz2⟩:=I.list hb
 have l1:=rv.length
 have l2:=rv2.length
 rw [List.length_map] at l1 l2
 refine SeqAt.eq_listAt (e:=fun _=>true) pl.isList pl2.isList (by simp;omega) hu (fun j h1 h2=>?_) ⟨.bl true,H,I,?_,q⟩
 ·have hj:j<zs.length:=by simp at h1;omega
  obtain ⟨_,t1,e1⟩:=SS rv hj
  obtain ⟨_,t2,e2⟩:=SS rv2 hj
  simp only [List.getElem_toArray,e1,e2]
  have:=SeqAt.EqAt.str_str (A:=X.A.in1) (s:=s) zs[j] t1 zs[j] t2
  rw [beq_self_eq_true] at this
  exact this
 ·show Value.bool _=_
  simp
end
theorem jl {B:Nat}{zs:List Str}(h:∀z∈zs,z.length≤B):(zs.map (·.length)).sum+zs.length * (" " : Str).length≤zs.length * (B+1)/\(Txt.join " " zs).length≤zs.length * (B+1):=by
 have q:=StrLaws.join_length_le " " zs
 have e:Txt.join " " zs=Str.join " " zs:=eq_of_beq (PyProof.Rows.join_plain_closes _ _)
 have s:=Mi h
 have e1:(" " : Str).length=1:=rfl
 rw [e1] at q ⊢
 have m:zs.length * (B+1)=zs.length * B+zs.length:=Nat.mul_succ _ _
 rw [e,m]
 omega
theorem jw {zs:List Str}{z:Str}:(zs.map (·.length)).sum+zs.length * (" " : Str).length≤z.length+200→(Txt.join " " zs).length≤z.length+200:=fun h=>by
 have q:=StrLaws.join_length_le " " zs
 have e:Txt.join " " zs=Str.join " " zs:=eq_of_beq (PyProof.Rows.join_plain_closes _ _)
 have e1:(" " : Str).length=1:=rfl
 rw [e1] at q h
 rw [e]
 omega
theorem Gs (zs:List Str) {i:Int}(h0:0≤i) (h1:i≤zs.length):Jb (zs.map V.str) none (some i)=(zs.take i.toNat).map V.str:=by
 have:=TJ (zs.map V.str) i.toNat (by rw [List.length_map];omega)
 rw [Int.toNat_of_nonneg h0] at this
 rw [this,List.map_take]
theorem EL (zs:List Str) {i:Int}(h0:0≤i) (h1:i≤zs.length):Jb (zs.map V.str) (some i) none=(zs.drop i.toNat).map V.str:=by
 have:=OZ (zs.map V.str) i.toNat (by rw [List.length_map];omega)
 rw [Int.toNat_of_nonneg h0] at this
 rw [this,List.map_drop]
theorem Ot (a b:List Str):((a++b).map (·.length)).sum=(a.map (·.length)).sum+(b.map (·.length)).sum:=by
 rw [List.map_append,List.sum_append]
theorem SR (zs:List Str) (i:Nat):((zs.take i).map (·.length)).sum+((zs.drop i).map (·.length)).sum=(zs.map (·.length)).sum:=by
 rw [←Ot,List.take_append_drop]
theorem Ue (zs:List Str) (i j:Nat) (h:i≤j):((zs.drop j).map (·.length)).sum≤((zs.drop i).map (·.length)).sum:=by
 have:=SR (zs.drop i) (j-i)
 rw [List.drop_drop,show i+(j-i)=j by omega] at this
 omega
def bS:Sp:=fun vs H Q _=>∃(z:Str) (c:Int),vs=[.str z,.int c]/\z.length≤50000/\∀H' (y:Str),AO H H'→y.length≤z.length+200→Q (.str y) H'
theorem LY (T:Tx K mg ad):Ao P w K mg base CX0 2 ad.BC ad.BP ["_law_line", "_law_cell"] bS:=by
 have G_uword_by:=A6.mk (RO (P:=P) (w:=w) (base:=base) T) T.Rb T.D1.kp T.Ru
 refine T.BD.ok Gg (fun vs H Q E h=>?_) (fun cdv A outer s H vs Q E hr h=>?_)
 ·obtain ⟨z,c,rfl,_⟩:=h
  rfl
 ·obtain ⟨z,c,rfl,hz,k⟩:=h
  have nd:=Gg.nd
  refine ⟨_,(AE (psl 2 nd (CA (K:=K) F.plainAttrs_str F.slot_str_split F.type_str_split Ig (pvC 0) (AA AI AB)))
    (AE (psl 3 nd (AN Ap (pvC 1) (AU (AW (K:=K)) (by rfl) T.BS PySem.boot_len (AA (pvC 2) AB))))
    (AE (psl 4 nd (AN Ap (AN BU (pvC 1) (AU (AW (K:=K)) (by rfl) T.BS PySem.boot_len (AA (pvC 2) AB))) AD))
    (AE (psl 5 nd (AJ G_uword_by hr (AA (AN BU (AN BU (pvC 1) (AU (AW (K:=K)) (by rfl) T.BS PySem.boot_len (AA (pvC 2) AB))) AD) AB)))
    (AE (A4 (AQ Cj (pvC 4) AD (AX _))
    (AF (AS (CA (K:=K) F.plainAttrs_str F.slot_str_join F.type_str_join (Hi (K:=K)) AI (AA (AN A1 (AY (Ah (K:=K)) (pvC 2) Aj (AZ (pvC 3))) (AY (Ah (K:=K)) (pvC 2) (AZ (AN Bb (pvC 3) AD)) Aj)) AB))))
    Ab)
    (AE (A4 (AQ Cj (pvC 4) AD (AX _))
    (AF (AS (CA (K:=K) F.plainAttrs_str F.slot_str_join F.type_str_join (Hi (K:=K)) AI (AA (AN A1 (AN A1 (AY (Ah (K:=K)) (pvC 2) Aj (AZ (pvC 3))) (Ak (AA (pvC 5) AB))) (AY (Ah (K:=K)) (pvC 2) (AZ (pvC 3)) Aj)) AB))))
    Ab)
    (AE (A4 (AQ Cj (pvC 4) AD (AX _))
    (AF (AS (AN Hf (pvC 0) AI)))
    Ab)
    (AF (AS (CA (K:=K) F.plainAttrs_str F.slot_str_join F.type_str_join (Hi (K:=K)) AI (AA (AN A1 (AN A1 (AY (Ah (K:=K)) (pvC 2) Aj (AZ (pvC 3))) (Ak (AA (pvC 5) AB))) (AY (Ah (K:=K)) (pvC 2) (AZ (AN Bb (pvC 3) AD)) Aj)) AB))))))))))),?_⟩
  have sz:sizeLine=16777216:=sizeLine_eq
  refine ⟨rfl,z, " ", rfl,rfl,by decide,by omega,fun l hl=>?_⟩
  refine AV (o:=.lst ((wds z).map V.str)) hl fun H1 s1 e1=>?_
  have ww:=UU z
  have wp:0<(wds z).length:=by obtain ⟨a,r,e⟩:=Om z;rw [e];exact Nat.succ_pos _
  have len:(((wds z).map V.str).length:Int)=(wds z).length:=by rw [List.length_map]
  have sp1:(" " : Str).length=1:=rfl
  have ha:=Int.emod_nonneg c (show ((wds z).length:Int)≠0 by omega)
  have hb:=Int.emod_lt_of_pos c (show (0:Int)<(wds z).length by omega)
  refine ⟨_,.inl (SqL.of e1),by rw [len];show (0:Int)<_;omega,_,.inl (SqL.of e1),⟨by rw [len];omega,by rw [len];omega⟩,(by decide:(0:Int)<4),_,.inl (SqL.of e1),⟨by rw [len];omega,by rw [len];omega⟩,⟨by decide,by decide⟩,_,rfl,fun H2 y s2 hy=>?_⟩
  rw [len]
  obtain ⟨a,ea⟩:∃a:Int,a=c % ((wds z).length:Int):=⟨_,rfl⟩
  rw [←ea] at ha hb
  have e2:=s2 _ _ e1
  have S2:=s1.trans s2
  have cut:=SR (wds z) a.toNat
  have XU:=Ue (wds z) a.toNat (a+1).toNat (by omega)
  have way:∀(mid:List Str) (j:Int),0≤j→j≤(wds z).length→((wds z).drop j.toNat |>.map (·.length)).sum≤((wds z).drop a.toNat |>.map (·.length)).sum→mid.length≤1→(∀x∈mid,x.length≤60)→((wds z).take a.toNat++mid++(wds z).drop j.toNat).length≤(wds z).length+1 →
    ((((wds z).take a.toNat++mid++(wds z).drop j.toNat)).map (·.length)).sum+((wds z).take a.toNat++mid++(wds z).drop j.toNat).length * (" " : Str).length≤z.length+200:=fun mid j j0 j1 hj hm hx hl=>by
   have:=Mi (B:=60) hx
   have:mid.length * 60≤1 * 60:=Nat.mul_le_mul_right _ hm
   rw [Ot,Ot,sp1]
   omega
  have a1:a≤(wds z).length:=by omega
  have lt:=List.length_take (i:=a.toNat) (l:=wds z)
  have ld:=List.length_drop (i:=a.toNat) (l:=wds z)
  have ld1:=List.length_drop (i:=(a+1).toNat) (l:=wds z)
  refine ⟨rfl,_,rfl,Fx (fun _=>?_) fun _=>?_⟩
  ·refine ⟨rfl,_,rfl,l,_,rfl,SqL.of e2,fun p1 h1=>?_⟩
   rw [←ea,Gs _ ha a1]
   refine AV h1 fun H3 s3 e3=>?_
   refine ⟨_,rfl,l,_,rfl,SqL.of (s3 _ _ e2),fun p2 h2=>?_⟩
   rw [←ea,EL _ (show (0:Int)≤a+1 by omega) (by omega)]
   refine AV h2 fun H4 s4 e4=>?_
   refine ⟨p1,p2,_,_,rfl,rfl,s4 _ _ e3,e4,by rw [List.length_map,List.length_map];omega,fun p3 h3=>?_⟩
   have b:=way [] (a+1) (by omega) (by omega) XU (Nat.zero_le _) (fun x hx=>(nomatch hx)) (by rw [List.append_nil,List.length_append];omega)
   rw [List.append_nil] at b
   refine ⟨" ", p3,_,rfl,rfl,SqL.of (by rw [AG,←List.map_append]),by omega,k _ _ (((S2.trans s3).trans s4).upd h3) (jw b)⟩
  refine ⟨rfl,_,rfl,Fx (fun _=>?_) fun _=>?_⟩
  ·refine ⟨rfl,_,rfl,l,_,rfl,SqL.of e2,fun p1 h1=>?_⟩
   rw [←ea,Gs _ ha a1]
   refine AV h1 fun H3 s3 e3=>?_
   refine ⟨le1 rfl,fun p0 h0=>?_⟩
   refine AV (o:=.lst [.str y]) h0 fun H30 s30 e30=>?_
   refine ⟨p1,p0,_,_,rfl,rfl,s30 _ _ e3,e30,by rw [List.length_map,List.length_singleton];omega,fun p2 h2=>?_⟩
   refine AV h2 fun H4 s4 e4=>?_
   have s34:=(s3.trans s30).trans s4
   refine ⟨_,rfl,l,_,rfl,SqL.of (s34 _ _ e2),fun p5 h5=>?_⟩
   rw [←ea,EL _ ha a1]
   refine AV h5 fun H5 s5 e5=>?_
   refine ⟨p2,p5,_,_,rfl,rfl,s5 _ _ e4,e5,by rw [List.length_append,List.length_map,List.length_map,List.length_singleton];omega,fun p3 h3=>?_⟩
   have b:=way [y] a ha a1 (Nat.le_refl _) (Nat.le_refl _) (fun x hx=>by rw [List.mem_singleton.mp hx];exact hy) (by rw [List.length_append,List.length_append,List.length_singleton];omega)
   refine ⟨" ", p3,(wds z).take a.toNat++[y]++(wds z).drop a.toNat,rfl,rfl,SqL.of (by rw [AG,List.map_append,List.map_append];rfl),by omega,k _ _ (((S2.trans s34).trans s5).upd h3) (jw b)⟩
  refine ⟨rfl,_,rfl,Fx (fun _=>?_) fun _=>?_⟩
  ·refine ⟨_,_,rfl,rfl,by rw [sp1];omega,k _ _ S2 ?_⟩
   rw [PySem.Str.length_append,sp1]
   omega
  ·refine ⟨rfl,_,rfl,l,_,rfl,SqL.of e2,fun p1 h1=>?_⟩
   rw [←ea,Gs _ ha a1]
   refine AV h1 fun H3 s3 e3=>?_
   refine ⟨le1 rfl,fun p0 h0=>?_⟩
   refine AV (o:=.lst [.str y]) h0 fun H30 s30 e30=>?_
   refine ⟨p1,p0,_,_,rfl,rfl,s30 _ _ e3,e30,by rw [List.length_map,List.length_singleton];omega,fun p2 h2=>?_⟩
   refine AV h2 fun H4 s4 e4=>?_
   have s34:=(s3.trans s30).trans s4
   refine ⟨_,rfl,l,_,rfl,SqL.of (s34 _ _ e2),fun p5 h5=>?_⟩
   rw [←ea,EL _ (show (0:Int)≤a+1 by omega) (by omega)]
   refine AV h5 fun H5 s5 e5=>?_
   refine ⟨p2,p5,_,_,rfl,rfl,s5 _ _ e4,e5,by rw [List.length_append,List.length_map,List.length_map,List.length_singleton];omega,fun p3 h3=>?_⟩
   have b:=way [y] (a+1) (by omega) (by omega) XU (Nat.le_refl _) (fun x hx=>by rw [List.mem_singleton.mp hx];exact hy) (by rw [List.length_append,List.length_append,List.length_singleton];omega)
   refine ⟨" ", p3,(wds z).take a.toNat++[y]++(wds z).drop (a+1).toNat,rfl,rfl,SqL.of (by rw [AG,List.map_append,List.map_append];rfl),by omega,k _ _ (((S2.trans s34).trans s5).upd h3) (jw b)⟩
def Tl (B n:Nat) (zs:List Str):Prop:=zs.length≤n/\∀z∈zs,z.length≤B
theorem Tl.take {B n:Nat}{zs:List Str}(h:Tl B n zs) (i:Nat):∀z∈zs.take i,z.length≤B:=fun z hz=>h.2 z (List.mem_of_mem_take hz)
theorem Tl.drop {B n:Nat}{zs:List Str}(h:Tl B n zs) (i:Nat):∀z∈zs.drop i,z.length≤B:=fun z hz=>h.2 z (List.mem_of_mem_drop hz)
def Zk:Sp:=fun vs H Q _=>∃(l:Addr) (zs:List Str) (c:Int) (B n:Nat),vs=[.ref l,.int c]/\H l=some (.lst (zs.map V.str))/\Tl B n zs/\60≤B/\B≤50000/\1≤n/\n≤800/\∀H' r ys,AO H H'→H' r=some (.lst (ys.map V.str))→Tl (B+200) (n+1) ys→Q (.ref r) H'
theorem RU (T:Tx K mg ad):Ao P w K mg base CX0 3 ad.Dp ad.E5 ["_law_lines", "_law_cell"] Zk:=by
 have G_uline_by:=A6.mk (RQ (P:=P) (w:=w) (base:=base) T) T.Rf T.D3.kp T.Rw
 have G_uwords_changed:=A6.mk (LY (P:=P) (w:=w) (base:=base) T) T.Lb T.BD.kp T.Lo
 refine T.D5.ok Lz (fun vs H Q E h=>?_) (fun cdv A outer s H vs Q E hr h=>?_)
 ·obtain ⟨l,zs,c,B,n,rfl,_⟩:=h
  rfl
 ·obtain ⟨l,zs,c,B,n,rfl,el,tl,b0,b1,n0,n1,k⟩:=h
  have nd:=Lz.nd
  refine ⟨_,(AE (A4 (AQ (VG (K:=K) hr.Gu) (pvC 0) (Ak AB) (AX _))
    (AF (AS (Ak (AA AI AB))))
    Ab)
    (AE (psl 2 nd (AN Ap (AN BU (pvC 1) AD) (AU (AW (K:=K)) (by rfl) T.BS PySem.boot_len (AA (pvC 0) AB))))
    (AE (psl 3 nd (AN BU (AN BU (pvC 1) AD) (AU (AW (K:=K)) (by rfl) T.BS PySem.boot_len (AA (pvC 0) AB))))
    (AE (psl 4 nd (AN A1 (AY (Ah (K:=K)) (pvC 0) Aj (AZ (pvC 2))) (AY (Ah (K:=K)) (pvC 0) (AZ (AN Bb (pvC 2) AD)) Aj)))
    (AE (psl 5 nd (AN Ap (pvC 3) (AU (AW (K:=K)) (by rfl) T.BS PySem.boot_len (AA (pvC 0) AB))))
    (AE (psl 6 nd (AN Ap (pvC 1) AD))
    (AE (A4 (AQ Cj (pvC 6) AD (AX _))
    (AF (AS (AN A1 (pvC 0) (Ak (AA (AJ G_uline_by hr (AA (pvC 3) AB)) AB)))))
    Ab)
    (AE (A4 (AQ Cj (pvC 6) AD (AX _))
    (AF (AS (pvC 4)))
    Ab)
    (AE (A4 (AQ Cj (pvC 6) AD (AX _))
    (AF (AS (AN A1 (AN A1 (AY (Ah (K:=K)) (pvC 0) Aj (AZ (pvC 2))) (Ak (AA (Bn K (pvC 0) (pvC 2)) AB))) (AY (Ah (K:=K)) (pvC 0) (AZ (pvC 2)) Aj))))
    Ab)
    (AE (A4 (AQ Cj (pvC 6) AD (AX _))
    (AF (AS (AN A1 (AN A1 (AY (Ah (K:=K)) (pvC 4) Aj (AZ (pvC 5))) (Ak (AA (Bn K (pvC 0) (pvC 2)) AB))) (AY (Ah (K:=K)) (pvC 4) (AZ (pvC 5)) Aj))))
    Ab)
    (AE (A4 (AQ Cj (pvC 6) AD (AX _))
    (AF (AS (AN A1 (AN A1 (AY (Ah (K:=K)) (pvC 0) Aj (AZ (pvC 2))) (Ak (AA (AJ G_uline_by hr (AA (pvC 3) AB)) AB))) (AY (Ah (K:=K)) (pvC 0) (AZ (pvC 2)) Aj))))
    Ab)
    (AF (AS (AN A1 (AN A1 (AY (Ah (K:=K)) (pvC 0) Aj (AZ (pvC 2))) (Ak (AA (AJ G_uwords_changed hr (AA (Bn K (pvC 0) (pvC 2)) (AA (pvC 3) AB))) AB))) (AY (Ah (K:=K)) (pvC 0) (AZ (AN Bb (pvC 2) AD)) Aj))))))))))))))),?_⟩
  have sz:sizeLine=16777216:=sizeLine_eq
  refine ⟨Nat.zero_le _,fun nl hnl=>?_⟩
  refine AV (o:=.lst []) hnl fun H1 s1 e1=>?_
  refine ⟨l,nl,_,rfl,rfl,SqL.of (s1 _ _ el),SqL.of e1,_,rfl,By (fun q=>?_) fun q=>?_⟩
  ·refine ⟨le1 rfl,fun r hr=>k _ r ["end 0"] (s1.upd hr) AG ⟨by show 1≤n+1;omega,fun z hz=>?_⟩⟩
   rw [List.mem_singleton.mp hz]
   exact Nat.le_trans (show ("end 0" : Str).length≤60 by decide) (by omega)
  have wp:0<zs.length:=by
   cases zs with
   | nil=>cases q
   | cons=>exact Nat.succ_pos _
  have lz:=tl.1
  have len:((zs.map V.str).length:Int)=zs.length:=by rw [List.length_map]
  have el1:=s1 _ _ el
  have p9:(0:Int)<9:=by decide
  have d9:Xi c 9:=⟨by decide,by decide⟩
  have pz:(0:Int)<((zs.map V.str).length:Int):=by omega
  have dz:Xi (c / 9) ((zs.map V.str).length:Int):=⟨by omega,by omega⟩
  refine ⟨d9,_,.inl (SqL.of el1),pz,d9,_,.inl (SqL.of el1),dz,?_⟩
  rw [len]
  have ha:=Int.emod_nonneg (c / 9) (show (zs.length:Int)≠0 by omega)
  have hb:=Int.emod_lt_of_pos (c / 9) (show (0:Int)<zs.length by omega)
  obtain ⟨a,ea⟩:∃a:Int,a=c / 9 % (zs.length:Int):=⟨_,rfl⟩
  rw [←ea] at ha hb
  have lt:=List.length_take (i:=a.toNat) (l:=zs)
  have ld:=List.length_drop (i:=a.toNat) (l:=zs)
  have ld1:=List.length_drop (i:=(a+1).toNat) (l:=zs)
  refine ⟨_,rfl,l,_,rfl,SqL.of el1,fun p1 h1=>?_⟩
  rw [←ea,Gs _ ha (by omega)]
  refine AV h1 fun H2 s2 e2=>?_
  refine ⟨_,rfl,l,_,rfl,SqL.of (s2 _ _ el1),fun p2 h2=>?_⟩
  rw [←ea,EL _ (show (0:Int)≤a+1 by omega) (by omega)]
  refine AV h2 fun H3 s3 e3=>?_
  refine ⟨p1,p2,_,_,rfl,rfl,s3 _ _ e2,e3,by rw [List.length_map,List.length_map];omega,fun p3 h3=>?_⟩
  rw [←List.map_append]
  refine AV h3 fun H4 s4 e4=>?_
  have s14:=(s2.trans s3).trans s4
  have S4:=s1.trans s14
  have el4:=s14 _ _ el1
  have tr:∀y∈zs.take a.toNat++zs.drop (a+1).toNat,y.length≤B:=fun y hy=>(List.mem_append.mp hy).elim (tl.take _ y) (tl.drop _ y)
  have lr:(zs.take a.toNat++zs.drop (a+1).toNat).length=zs.length-1:=by rw [List.length_append];omega
  refine ⟨_,.inl (SqL.of el4),pz,p9,?_⟩
  rw [len]
  have hd:=Int.emod_nonneg (c / 9 / (zs.length:Int)) (show (zs.length:Int)≠0 by omega)
  have he:=Int.emod_lt_of_pos (c / 9 / (zs.length:Int)) (show (0:Int)<zs.length by omega)
  obtain ⟨t,et⟩:∃t:Int,t=c / 9 / (zs.length:Int) % (zs.length:Int):=⟨_,rfl⟩
  rw [←et] at hd he
  obtain ⟨z,ez⟩:∃z,zs[a.toNat]?=some z:=⟨_,List.getElem?_eq_getElem (by omega)⟩
  have at':atI (zs.map V.str) a=some (.str z):=by
   have:=AL (xs:=zs.map V.str) (j:=a.toNat) (v:=.str z) (by rw [List.getElem?_map,ez];rfl)
   rwa [Int.toNat_of_nonneg ha] at this
  have zb:=tl.2 z (List.mem_of_getElem? ez)
  have three:∀{H5:Hp} {us vs:List Str} {y:Str} {i j:Nat},y.length≤B+200→(∀x∈us,x.length≤B)→(us.take i).length+(us.drop j).length≤n→Tl (B+200) (n+1) (us.take i++[y]++us.drop j):=fun {H5 us vs y i j} hy hu hl=>⟨by rw [List.length_append,List.length_append,List.length_singleton];omega,fun x hx=>by
   rcases List.mem_append.mp hx with hx|hx
   ·rcases List.mem_append.mp hx with hx|hx
    ·have:=hu x (List.mem_of_mem_take hx);omega
    ·rw [List.mem_singleton.mp hx];exact hy
   ·have:=hu x (List.mem_of_mem_drop hx);omega⟩
  refine ⟨rfl,_,rfl,Fx (fun _=>?_) fun _=>?_⟩
  ·refine ⟨_,rfl,fun H5 y s5 hy=>⟨le1 rfl,fun p5 h5=>?_⟩⟩
   refine AV (o:=.lst [.str y]) h5 fun H6 s6 e6=>?_
   refine ⟨l,p5,_,_,rfl,rfl,(s5.trans s6) _ _ el4,e6,by rw [List.length_singleton];omega,fun r hr=>k _ r (zs++[y]) ((S4.trans (s5.trans s6)).upd hr) (by rw [AG,List.map_append];rfl) ⟨by rw [List.length_append];show _+1≤_;omega,fun x hx=>?_⟩⟩
   rcases List.mem_append.mp hx with hx|hx
   ·have:=tl.2 x hx;omega
   ·rw [List.mem_singleton.mp hx];omega
  refine ⟨rfl,_,rfl,Fx (fun _=>?_) fun _=>?_⟩
  ·exact k _ _ _ S4 e4 ⟨by omega,fun x hx=>by have:=tr x hx;omega⟩
  refine ⟨rfl,_,rfl,Fx (fun _=>?_) fun _=>?_⟩
  ·refine ⟨_,rfl,l,_,rfl,SqL.of el4,fun p1 h1=>?_⟩
   rw [←ea,Gs _ ha (by omega)]
   refine AV h1 fun H5 s5 e5=>?_
   refine ⟨_,_,SqL.of (s5 _ _ el4),by rw [←ea];exact at',le1 rfl,fun p6 h6=>?_⟩
   refine AV (o:=.lst [.str z]) h6 fun H6 s6 e6=>?_
   refine ⟨p1,p6,_,_,rfl,rfl,s6 _ _ e5,e6,by rw [List.length_map,List.length_singleton];omega,fun p7 h7=>?_⟩
   refine AV h7 fun H7 s7 e7=>?_
   have s47:=(s5.trans s6).trans s7
   refine ⟨_,rfl,l,_,rfl,SqL.of (s47 _ _ el4),fun p8 h8=>?_⟩
   rw [←ea,EL _ ha (by omega)]
   refine AV h8 fun H8 s8 e8=>?_
   exact ⟨p7,p8,_,_,rfl,rfl,s8 _ _ e7,e8,by rw [List.length_append,List.length_map,List.length_map,List.length_singleton];omega,fun r hr=>k _ r (zs.take a.toNat++[z]++zs.drop a.toNat) ((S4.trans (s47.trans s8)).upd hr) (by rw [AG,List.map_append,List.map_append];rfl) (three (H5:=H) (vs:=[]) (by omega) tl.2 (by omega))⟩
  refine ⟨rfl,_,rfl,Fx (fun _=>?_) fun _=>?_⟩
  ·refine ⟨_,rfl,p3,_,rfl,SqL.of e4,fun p1 h1=>?_⟩
   rw [←et,Gs _ hd (by rw [lr];omega)]
   refine AV h1 fun H5 s5 e5=>?_
   refine ⟨_,_,SqL.of (s5 _ _ el4),by rw [←ea];exact at',le1 rfl,fun p6 h6=>?_⟩
   refine AV (o:=.lst [.str z]) h6 fun H6 s6 e6=>?_
   refine ⟨p1,p6,_,_,rfl,rfl,s6 _ _ e5,e6,by rw [List.length_map,List.length_take,List.length_singleton];omega,fun p7 h7=>?_⟩
   refine AV h7 fun H7 s7 e7=>?_
   have s47:=(s5.trans s6).trans s7
   refine ⟨_,rfl,p3,_,rfl,SqL.of (s47 _ _ e4),fun p8 h8=>?_⟩
   rw [←et,EL _ hd (by rw [lr];omega)]
   refine AV h8 fun H8 s8 e8=>?_
   exact ⟨p7,p8,_,_,rfl,rfl,s8 _ _ e7,e8,by rw [List.length_append,List.length_map,List.length_map,List.length_singleton,List.length_take,List.length_drop];omega,fun r hr=>k _ r ((zs.take a.toNat++zs.drop (a+1).toNat).take t.toNat++[z]++(zs.take a.toNat++zs.drop (a+1).toNat).drop t.toNat) ((S4.trans (s47.trans s8)).upd hr) (by rw [AG,List.map_append,List.map_append];rfl) (three (H5:=H) (vs:=[]) (by omega) tr (by rw [List.length_take,List.length_drop];omega))⟩
  refine ⟨rfl,_,rfl,Fx (fun _=>?_) fun _=>?_⟩
  ·refine ⟨_,rfl,l,_,rfl,SqL.of el4,fun p1 h1=>?_⟩
   rw [←ea,Gs _ ha (by omega)]
   refine AV h1 fun H5 s5 e5=>?_
   refine ⟨_,rfl,fun H5' y s5' hy=>⟨le1 rfl,fun p6 h6=>?_⟩⟩
   refine AV (o:=.lst [.str y]) h6 fun H6 s6 e6=>?_
   refine ⟨p1,p6,_,_,rfl,rfl,(s5'.trans s6) _ _ e5,e6,by rw [List.length_map,List.length_singleton];omega,fun p7 h7=>?_⟩
   refine AV h7 fun H7 s7 e7=>?_
   have s47:=(s5.trans (s5'.trans s6)).trans s7
   refine ⟨_,rfl,l,_,rfl,SqL.of (s47 _ _ el4),fun p8 h8=>?_⟩
   rw [←ea,EL _ ha (by omega)]
   refine AV h8 fun H8 s8 e8=>?_
   exact ⟨p7,p8,_,_,rfl,rfl,s8 _ _ e7,e8,by rw [List.length_append,List.length_map,List.length_map,List.length_singleton];omega,fun r hr=>k _ r (zs.take a.toNat++[y]++zs.drop a.toNat) ((S4.trans (s47.trans s8)).upd hr) (by rw [AG,List.map_append,List.map_append];rfl) (three (H5:=H) (vs:=[]) (by omega) tl.2 (by omega))⟩
  ·refine ⟨_,rfl,l,_,rfl,SqL.of el4,fun p1 h1=>?_⟩
   rw [←ea,Gs _ ha (by omega)]
   refine AV h1 fun H5 s5 e5=>?_
   refine ⟨_,_,SqL.of (s5 _ _ el4),by rw [←ea];exact at',z,_,rfl,by omega,fun H5' y s5' hy=>⟨le1 rfl,fun p6 h6=>?_⟩⟩
   refine AV (o:=.lst [.str y]) h6 fun H6 s6 e6=>?_
   refine ⟨p1,p6,_,_,rfl,rfl,(s5'.trans s6) _ _ e5,e6,by rw [List.length_map,List.length_singleton];omega,fun p7 h7=>?_⟩
   refine AV h7 fun H7 s7 e7=>?_
   have s47:=(s5.trans (s5'.trans s6)).trans s7
   refine ⟨_,rfl,l,_,rfl,SqL.of (s47 _ _ el4),fun p8 h8=>?_⟩
   rw [←ea,EL _ (show (0:Int)≤a+1 by omega) (by omega)]
   refine AV h8 fun H8 s8 e8=>?_
   exact ⟨p7,p8,_,_,rfl,rfl,s8 _ _ e7,e8,by rw [List.length_append,List.length_map,List.length_map,List.length_singleton];omega,fun r hr=>k _ r (zs.take a.toNat++[y]++zs.drop (a+1).toNat) ((S4.trans (s47.trans s8)).upd hr) (by rw [AG,List.map_append,List.map_append];rfl) (three (H5:=H) (vs:=[]) (by omega) tl.2 (by omega))⟩
def Sm (n:Int):Prop:=n.natAbs≤10 ^ 40
theorem Sm.log {n:Int}(h:Sm n):n.natAbs.log2<1920:=Lc (Nat.lt_of_le_of_lt h (by decide))
theorem Sm.len {n:Int}(h:Sm n):(Str.ofString (toString n)).length≤61:=by
 have:=QQ (Nat.lt_of_le_of_lt h (show (10:Nat) ^ 40<10 ^ 60 by decide))
 rw [←UY] at this
 exact this
theorem sm {n:Int}(h:n.natAbs≤1000000000):Sm n:=Nat.le_trans h (by decide)
theorem jn {zs:List Str}(h:∀z∈zs,z.length≤61) (l:zs.length≤9):(zs.map (·.length)).sum+zs.length * (" " : Str).length≤16777216/\(Txt.join " " zs).length≤1000:=by
 have q:=jl h
 have:zs.length * (61+1)≤9 * 62:=Nat.mul_le_mul_right _ l
 exact ⟨by omega,by omega⟩
def ItK (ks:List Key):Prop:=∃a b k c d,ks=[.inl a,.inl b,.inr k,.inl c,.inl d]/\Sm a/\Sm b/\k.length≤60/\Sm c/\Sm d
def PcK (ks:List Key):Prop:=∃a k b,ks=[.inl a,.inr k,.inl b]/\Sm a/\k.length≤60/\b.natAbs≤1000
theorem aJ (c:Int):∃k:Str,atI [V.str "k", .str "key", .str "kez"] (c % 3)=some (.str k)/\k.length≤60:=by
 obtain ⟨v,hv,hm⟩:=Pm [V.str "k", .str "key", .str "kez"] 3 rfl (by decide) c
 simp only [List.mem_cons,List.not_mem_nil,or_false] at hm
 rcases hm with rfl|rfl|rfl
 ·exact ⟨_,hv,by decide⟩
 ·exact ⟨_,hv,by decide⟩
 ·exact ⟨_,hv,by decide⟩
def YU (K:W.Frag):Sp:=fun vs H Q _=>∃(a:Addr) (ns:List Int),vs=[.ref a]/\SqL K H a (ns.map V.int)/\∀H' r zs,AO H H'→H' r=some (.lst (zs.map V.str))→Tl 1000 10 zs→Q (.ref r) H'
theorem W2 (T:Tx K mg ad):Ao P w K mg base CX0 2 ad.Hv ad.JS ["_law_script"] (YU K):=by
 have G_ucell_at:=A6.mk (Xt (P:=P) (w:=w) (base:=base) T) T.NQ T.C9.kp T.Nk
 refine T.IB.ok P4 (fun vs H Q E h=>?_) (fun cdv A outer s H vs Q E hr h=>?_)
 ·obtain ⟨a,ns,rfl,_⟩:=h
  rfl
 ·obtain ⟨a,ns,rfl,hS,k⟩:=h
  have nd:=P4.nd
  refine ⟨_,(Ei (psl 1 nd (AJ G_ucell_at hr (AA (pvC 0) (AA AD AB))))
    (Ei (psl 2 nd (Ak (AA (CA (K:=K) F.plainAttrs_str F.slot_str_join F.type_str_join (Hi (K:=K)) AI (AA (Ak (AA AI (AA (Aa Ac (by rfl) T.Cp PyProof.Rows.boot_str (AA (AN Ap (pvC 1) (AN NG AD AD)) AB)) (AA (Aa Ac (by rfl) T.Cp PyProof.Rows.boot_str (AA (AN Ap (AN BU (pvC 1) AD) AD) AB)) (AA (Aa Ac (by rfl) T.Cp PyProof.Rows.boot_str (AA (AN Ap (AN BU (pvC 1) AD) AD) AB)) AB))))) AB)) AB)))
    (Ei (psl 3 nd (Ak AB))
    (Ei (Df PassesOwn.never rfl (JK (by rfl) T.Fz (AA (AN Ap (AJ G_ucell_at hr (AA (pvC 0) (AA AD AB))) AD) AB)) (pgn 4 nd)
    (AE (psl 5 nd (AJ G_ucell_at hr (AA (pvC 0) (AA (AN Bb AD (pvC 4)) AB))))
    (AE (psl 6 nd (Bn K (Ak (AA AI (AA AI (AA AI AB)))) (AN Ap (AN BU (pvC 5) AD) AD)))
    (AF (DH (pap K (pvC 3) (AA (Av (AA (AN Bb AD (AN Ap (AN BU (pvC 5) AD) AD)) (AA (AN Ap (pvC 5) AD) (AA (pvC 6) (AA (AN Wu (AN Ap (AN BU (pvC 5) AD) AD) (AN Bb AD (AN Ap (pvC 5) AD))) (AA (AN Mo (AN Ap (AN BU (pvC 5) AD) AD) AD) AB)))))) AB)))))))
    (Ei (Df PassesOwn.never rfl (DW (K:=K) (AU (I0 (K:=K)) (by rfl) T.Ef PyProof.Rows.boot_sorted (AA (pvC 3) AB))) (pgn 7 nd)
    (AF (DH (pap K (pvC 2) (AA (CA (K:=K) F.plainAttrs_str F.slot_str_join F.type_str_join (Hi (K:=K)) AI (AA (Ak (AA AI (AA (Aa Ac (by rfl) T.Cp PyProof.Rows.boot_str (AA (Ci K (pvC 7) AD) AB)) (AA (Aa Ac (by rfl) T.Cp PyProof.Rows.boot_str (AA (Ci K (pvC 7) AD) AB)) (AA (Ci K (pvC 7) AD) (AA (Aa Ac (by rfl) T.Cp PyProof.Rows.boot_str (AA (Ci K (pvC 7) AD) AB)) (AA (Aa Ac (by rfl) T.Cp PyProof.Rows.boot_str (AA (Ci K (pvC 7) AD) AB)) AB))))))) AB)) AB)))))
    (Ei (psl 8 nd U5)
    (Ei (Df PassesOwn.never rfl (JK (by rfl) T.Fz (AA (AN Ap (AJ G_ucell_at hr (AA (pvC 0) (AA AD AB))) AD) AB)) (pgn 4 nd)
    (AE (psl 5 nd (AJ G_ucell_at hr (AA (pvC 0) (AA (AN Bb AD (pvC 4)) AB))))
    (AF (Ml hr.u1 (pvC 8) (Av (AA (AN Bb AD (AN Ap (pvC 5) AD)) (AA (Bn K (Ak (AA AI (AA AI (AA AI AB)))) (AN Ap (AN BU (pvC 5) AD) AD)) (AA (AN Mo (AN Ap (AN BU (pvC 5) AD) AD) AD) AB)))) (pvC 5) rfl))))
    (Ei (Df PassesOwn.never rfl (DW (K:=K) (AU (I0 (K:=K)) (by rfl) T.Ef PyProof.Rows.boot_sorted (AA (Aa (Rt rfl) (by rfl) T.Jq PyProof.Rows.boot_list (AA (pvC 8) AB)) AB))) (pgn 7 nd)
    (AE (psl 5 nd (JL hr.u1 (pvC 8) (pvC 7) (fun _ _=>rfl)))
    (AE (psl 9 nd (Ak (AA AI (AA (Aa Ac (by rfl) T.Cp PyProof.Rows.boot_str (AA (Ci K (pvC 7) AD) AB)) (AA (Ci K (pvC 7) AD) (AA (Aa Ac (by rfl) T.Cp PyProof.Rows.boot_str (AA (Ci K (pvC 7) AD) AB)) (AA (Aa Ac (by rfl) T.Cp PyProof.Rows.boot_str (AA (AN Bb (Ci K (pvC 7) AD) AD) AB)) (AA (Aa Ac (by rfl) T.Cp PyProof.Rows.boot_str (AA (AN Bb AD (AN Ap (pvC 5) AD)) AB)) AB))))))))
    (AF (DH (pap K (pvC 2) (AA (CA (K:=K) F.plainAttrs_str F.slot_str_join F.type_str_join (Hi (K:=K)) AI (AA (AN A1 (pvC 9) (Ak (AA (Aa Ac (by rfl) T.Cp PyProof.Rows.boot_str (AA (AN Mo (AN Ap (pvC 5) (AN NG AD AD)) AD) AB)) (AA (Aa Ac (by rfl) T.Cp PyProof.Rows.boot_str (AA (AN Mo (AN Ap (pvC 5) AD) AD) AB)) (AA (Aa Ac (by rfl) T.Cp PyProof.Rows.boot_str (AA (AN Ap (pvC 5) AD) AB)) AB))))) AB)) AB)))))))
    (AF (AS (AN A1 (pvC 2) (Ak (AA (AN Hf AI (Aa Ac (by rfl) T.Cp PyProof.Rows.boot_str (AA (AU (AW (K:=K)) (by rfl) T.BS PySem.boot_len (AA (pvC 2) AB)) AB))) AB))))))))))))),?_⟩
  have sz:sizeLine=16777216:=sizeLine_eq
  refine fun _ _ _ _ z1=>⟨a,ns,_,rfl,hS,by decide,fun c=>z1 _ _ ?_⟩
  have e9:(10:Int) ^ Int.toNat 9=1000000000:=by decide
  have e30:(10:Int) ^ Int.toNat 30=1000000000000000000000000000000:=by decide +kernel
  have m1:Sm (c % 10 ^ Int.toNat 9):=sm (by rw [e9];omega)
  have m2:Sm (c / 7 % 500):=sm (by omega)
  have m3:Sm (c / 3 % 90):=sm (by omega)
  refine fun _ _ _ _ z2=>⟨rfl,_,_,rfl,rfl,⟨by decide,by decide,by decide⟩,(by decide:(0:Int)<10 ^ Int.toNat 9),_,rfl,m1.log,⟨by decide,by decide⟩,(by decide:(0:Int)<500),_,rfl,m2.log,⟨by decide,by decide⟩,(by decide:(0:Int)<90),_,rfl,m3.log,le1 rfl,fun p hp=>?_⟩
  refine AV hp fun H1 s1 e1=>?_
  obtain ⟨j1,j2⟩:=jn (zs:=[("clock" : Str),Str.ofString (toString (c % 10 ^ Int.toNat 9)),Str.ofString (toString (c / 7 % 500)),Str.ofString (toString (c / 3 % 90))]) (fun z hz=>by
   simp only [List.mem_cons,List.not_mem_nil,or_false] at hz
   rcases hz with rfl|rfl|rfl|rfl
   ·decide
   ·exact m1.len
   ·exact m2.len
   ·exact m3.len) (le1 rfl)
  generalize hz0:Txt.join " " [("clock" : Str),Str.ofString (toString (c % 10 ^ Int.toNat 9)),Str.ofString (toString (c / 7 % 500)),Str.ofString (toString (c / 3 % 90))]=z0 at j2
  refine ⟨" ", p,[("clock" : Str),Str.ofString (toString (c % 10 ^ Int.toNat 9)),Str.ofString (toString (c / 7 % 500)),Str.ofString (toString (c / 3 % 90))],rfl,rfl,SqL.of e1,j1,le1 rfl,fun l hl=>z2 _ _ ?_⟩
  rw [hz0]
  clear hz0 e1 j1 m1 m2 m3
  refine AV (o:=.lst [.str z0]) hl fun H2 s2 el=>?_
  have hlH:=s1.free hl
  refine fun _ _ _ _ z3=>⟨Nat.zero_le _,fun li hli=>z3 _ _ ?_⟩
  have hliH:=(s1.trans s2).free hli
  have nli:li≠l:=fun z=>by rw [z,el] at hli;cases hli
  refine AV (o:=.lst []) hli fun H3 s3 eli=>?_
  have S3:=(s1.trans s2).trans s3
  have el3:=s3 _ _ el
  clear s1 s2 s3 el hli hl
  refine fun _ _ _ _ z4=>⟨a,ns,_,rfl,S3.seq hS,by decide,fun c1=>⟨(by decide:(0:Int)<5),_,rfl,by omega,by omega,?_⟩⟩
  refine HI (fun i σ H'=>∃(o4 o5 o6:Option V) (xs:List V) (kss:List (List Key)),σ=[some (.ref a),some (.int c),some (.ref l),some (.ref li),o4,o5,o6,none,none,none]/\AO H H'/\H' l=some (.lst [.str z0])/\H' li=some (.lst xs)/\Rws H' xs kss/\(∀ks∈kss,ItK ks)/\kss.length≤i)
   ⟨none,none,none,[],[],rfl,S3,el3,eli,Wc _,fun ks hk=>(nomatch hk),Nat.le_refl _⟩ ?_ ?_
  ·rintro i σ H4 hi ⟨o4,o5,o6,xs,kss,rfl,s4,el4,eli4,rw4,ik,lk⟩
   rw [Int.zero_add]
   have hxl:=rw4.len
   refine ⟨a,ns,_,rfl,s4.seq hS,by omega,fun o=>⟨le1 rfl,fun q hq=>?_⟩⟩
   have nq:li≠q:=fun z=>by rw [←z,eli4] at hq;cases hq
   refine AV (o:=.lst [.str "k", .str "key", .str "kez"]) hq fun H5 s5 eq=>?_
   obtain ⟨ky,hk,lky⟩:=aJ (o / 2)
   have eli5:=s5 _ _ eli4
   have mx:0≤o / 6 % 12 * (1+o % 3)/\o / 6 % 12 * (1+o % 3)≤11 * 3:=⟨Int.mul_nonneg (by omega) (by omega),Int.mul_le_mul (by omega) (by omega) (by omega) (by decide)⟩
   refine ⟨⟨by decide,by decide⟩,(by decide:(0:Int)<3),_,_,SqL.of eq,hk,.inl ⟨rfl,_,SqL.of eli5⟩,⟨by decide,by decide⟩,(by decide:(0:Int)<2),(by decide:(0:Int)<2),⟨by decide,by decide⟩,(by decide:(0:Int)<12),(by decide:(0:Int)<3),.inl ⟨by omega,by omega⟩,⟨by decide,by decide⟩,(by decide:(0:Int)<40),le1 rfl,fun t ht=>?_⟩
   refine AV (o:=.tup [.int (2+o / 4 % 2),.int (o % 2),.str ky,.int (o / 6 % 12 * (1+o % 3)),.int (o / 5 % 40-20)]) ht fun H6 s6 et=>?_
   have eli6:=s6 _ _ eli5
   have s46:=s5.trans s6
   have el6:=s46 _ _ el4
   have tp:Tp H6 (upd H6 li (.lst (xs++[.ref t]))):=(Tp.refl H6).upd eli6 fun xs=>by intro z;cases z
   refine ⟨li,_,_,rfl,rfl,eli6,by omega,_,_,_,xs++[.ref t],kss++[[.inl (2+o / 4 % 2),.inl (o % 2),.inr ky,.inl (o / 6 % 12 * (1+o % 3)),.inl (o / 5 % 40-20)]],rfl,(s4.trans s46).Ma hliH,by rw [AM nli.symm];exact el6,AG,((rw4.keep s46.tp).snoc et).keep tp,fun ks hks=>?_,by rw [List.length_append];show _+1≤_;omega⟩
   rcases List.mem_append.mp hks with hks|hks
   ·exact ik ks hks
   ·rw [List.mem_singleton.mp hks]
    exact ⟨_,_,_,_,_,rfl,sm (by omega),sm (by omega),lky,sm (by omega),sm (by omega)⟩
  ·rintro σ H4 ⟨o4,o5,o6,xs,kss,rfl,s4,el4,eli4,rw4,ik,lk⟩
   refine z4 _ _ ?_
   have lk4:kss.length≤4:=by omega
   clear S3 el3 eli
   refine fun _ _ _ _ z8=>⟨li,xs,kss,rfl,SqL.of eli4,rw4.sorts (sh:=[true,true,false,true,true]) (by simp) (fun ks hk=>by obtain ⟨_,_,_,_,_,rfl,_⟩:=ik ks hk;rfl),by have:=rw4.len;omega,fun sl qs hsl pq sq=>?_⟩
   have nsl:sl≠l:=fun z=>by rw [z,el4] at hsl;cases hsl
   refine AV hsl fun H5 s5 esl=>?_
   have hxl:=rw4.len
   have lq:qs.length≤4:=by rw [pq.length_eq,List.length_zip];omega
   refine ⟨sl,rfl,⟨_,SqL.of esl⟩,HJ (K:=K) (xs:=qs.map (·.1)) (fun i σ H'=>∃(o7:Option V) (zs:List Str),σ=[some (.ref a),some (.int c),some (.ref l),some (.ref li),o4,o5,o6,o7,none,none]/\AO H H'/\Tp H5 H'/\H' l=some (.lst (zs.map V.str))/\H' sl=some (.lst (qs.map (·.1)))/\Tl 1000 (1+i) zs)
    ⟨none,[z0],rfl,s4.trans s5,Tp.refl _,s5 _ _ el4,esl,by show 1≤1;exact Nat.le_refl _,fun z hz=>by rw [List.mem_singleton.mp hz];exact j2⟩ (fun i σ H' _ ⟨_,_,_,_,_,_,e,_⟩=>SqL.of e) ?_ ?_⟩
   ·rintro i x σ H6 hx ⟨o7,zs,rfl,s6,tp6,el6,esl6,tl⟩
    rw [List.getElem?_map] at hx
    obtain ⟨q,hq,rfl⟩:=Option.map_eq_some_iff.mp hx
    have li4:i<4:=by have:=(List.getElem?_eq_some_iff.mp hq).1;omega
    obtain ⟨j,hj⟩:=List.mem_iff_getElem?.mp (pq.mem_iff.mp (List.mem_of_getElem? hq))
    obtain ⟨t,ks,et,ek,ht⟩:=rw4.at (show xs[j]?=some q.1 by rw [List.getElem?_zip_eq_some] at hj;exact hj.1)
    obtain ⟨a1,a2,ky,a3,a4,rfl,b1,b2,b3,b4,b5⟩:=ik ks (List.mem_of_getElem? ek)
    rw [et]
    have ht6:H6 t=some (.tup [.int a1,.int a2,.str ky,.int a3,.int a4]):=tp6 _ _ (s5 _ _ ht)
    refine ⟨.inl ⟨rfl,_,SqL.of el6⟩,rfl,_,_,SqT.of ht6,AL (j:=0) rfl,_,rfl,b1.log,_,_,SqT.of ht6,AL (j:=1) rfl,_,rfl,b2.log,_,_,SqT.of ht6,AL (j:=2) rfl,_,_,SqT.of ht6,AL (j:=3) rfl,_,rfl,b4.log,_,_,SqT.of ht6,AL (j:=4) rfl,_,rfl,b5.log,le1 rfl,fun p hp=>?_⟩
    refine AV hp fun H7 s7 e7=>?_
    obtain ⟨j1,j2⟩:=jn (zs:=[("item" : Str),Str.ofString (toString a1),Str.ofString (toString a2),ky,Str.ofString (toString a3),Str.ofString (toString a4)]) (fun z hz=>by
     simp only [List.mem_cons,List.not_mem_nil,or_false] at hz
     rcases hz with rfl|rfl|rfl|rfl|rfl|rfl
     ·decide
     ·exact b1.len
     ·exact b2.len
     ·omega
     ·exact b4.len
     ·exact b5.len) (le1 rfl)
    have el7:=s7 _ _ el6
    refine ⟨" ", p,[("item" : Str),Str.ofString (toString a1),Str.ofString (toString a2),ky,Str.ofString (toString a3),Str.ofString (toString a4)],rfl,rfl,SqL.of e7,j1,l,_,_,rfl,rfl,el7,by have:=tl.1;rw [List.length_map];omega,_,zs++[_],rfl,(s6.trans s7).Ma hlH,(tp6.trans s7.tp).upd el7 (fun xs=>by intro z;cases z),by rw [AG,List.map_append];rfl,by rw [AM nsl];exact s7 _ _ esl6,by have:=tl.1;rw [List.length_append];show _+1≤_;omega,fun z hz=>?_⟩
    rcases List.mem_append.mp hz with hz|hz
    ·exact tl.2 z hz
    ·rw [List.mem_singleton.mp hz];exact j2
   ·rintro σ H6 ⟨o7,zs,rfl,s6,_,el6,_,tl⟩
    rw [List.length_map] at tl
    refine z8 _ _ ?_
    have tl5:Tl 1000 5 zs:=⟨by have:=tl.1;omega,tl.2⟩
    clear tl s5 esl rw4 pq sq z4 z8 z3 z2 z1 el4 eli4 s4
    refine fun _ _ _ _ z10 d hd=>z10 _ _ ?_
    have hdH:=s6.free hd
    have nd':d≠l:=fun z=>by rw [z,el6] at hd;cases hd
    refine AV (o:=.dT []) hd fun H7 s7 ed=>?_
    have S7:=s6.trans s7
    have el7:=s7 _ _ el6
    refine fun _ _ _ _ z11=>⟨a,ns,_,rfl,S7.seq hS,by decide,fun c2=>⟨(by decide:(0:Int)<5),_,rfl,by omega,by omega,?_⟩⟩
    refine HI (fun i σ H'=>∃(o4 o5:Option V) (kvs:List (List Key×V)),σ=[some (.ref a),some (.int c),some (.ref l),some (.ref li),o4,o5,o6,o7,some (.ref d),none]/\AO H H'/\H' l=some (.lst (zs.map V.str))/\H' d=some (.dT kvs)/\kvs.length≤i/\∀p∈kvs,PcK p.1/\∃n,p.2=.int n)
     ⟨_,_,[],rfl,S7,el7,ed,Nat.le_refl _,fun p hp=>(nomatch hp)⟩ ?_ ?_
    ·rintro i σ H8 hi ⟨o4,o5,kvs,rfl,s8,el8,ed8,lk,pk⟩
     rw [Int.zero_add]
     refine ⟨a,ns,_,rfl,s8.seq hS,by omega,fun o=>⟨(by decide:(0:Int)<2),le1 rfl,fun q hq=>?_⟩⟩
     refine AV (o:=.lst [.str "k", .str "key", .str "kez"]) hq fun H9 s9 eq=>?_
     obtain ⟨ky,hk,lky⟩:=aJ (o / 2)
     refine ⟨⟨by decide,by decide⟩,(by decide:(0:Int)<3),_,_,SqL.of eq,hk,⟨by decide,by decide⟩,(by decide:(0:Int)<20),le1 rfl,fun t ht=>?_⟩
     refine AV (o:=.tup [.int (4+o % 2),.str ky,.int (o / 6 % 20-5)]) ht fun HA sA et=>?_
     have s8A:=s9.trans sA
     have edA:=s8A _ _ ed8
     refine ⟨d,_,rfl,N9.t (k:=[.inl (4+o % 2),.inr ky,.inl (o / 6 % 20-5)]) edA et (by omega),_,_,putK kvs [.inl (4+o % 2),.inr ky,.inl (o / 6 % 20-5)] (.int o),rfl,(s8.trans s8A).Ma hdH,by rw [AM nd'.symm];exact s8A _ _ el8,AG,by have:=Qi kvs [.inl (4+o % 2),.inr ky,.inl (o / 6 % 20-5)] (.int o);omega,fun p hp=>?_⟩
     rcases QW hp with rfl|⟨hp,_⟩
     ·exact ⟨⟨_,_,_,rfl,sm (by omega),lky,by omega⟩,o,rfl⟩
     ·exact pk p hp
    ·rintro σ H8 ⟨o4,o5,kvs,rfl,s8,el8,ed8,lk,pk⟩
     refine z11 _ _ ?_
     have lk4:kvs.length≤4:=by omega
     refine fun _ _ _ _ z14=>⟨d,kvs,rfl,ed8,fun lt ys hlt ry=>?_⟩
     refine AV (o:=.lst ys) hlt fun H9 s9 elt=>?_
     have ry9:=ry.keep s9.tp
     have pks:∀ks∈kvs.map (·.1),PcK ks:=fun ks hk=>by obtain ⟨p,hp,rfl⟩:=List.mem_map.mp hk;exact (pk p hp).1
     refine ⟨lt,ys,kvs.map (·.1),rfl,SqL.of elt,ry9.sorts (sh:=[true,false,true]) (by simp) (fun ks hk=>by obtain ⟨_,_,_,rfl,_⟩:=pks ks hk;rfl),by have:=ry9.len;rw [List.length_map] at this;omega,fun sl qs hsl pq sq=>?_⟩
     have nsl:sl≠l:=fun z=>by rw [z,s9 _ _ el8] at hsl;cases hsl
     refine AV hsl fun HA sA esl=>?_
     have hyl:=ry9.len
     rw [List.length_map] at hyl
     have lq:qs.length≤4:=by rw [pq.length_eq,List.length_zip];omega
     have s8A:=s9.trans sA
     refine ⟨sl,rfl,⟨_,SqL.of esl⟩,HJ (K:=K) (xs:=qs.map (·.1)) (fun i σ H'=>∃(o5 o7 o9:Option V) (zs:List Str),σ=[some (.ref a),some (.int c),some (.ref l),some (.ref li),o4,o5,o6,o7,some (.ref d),o9]/\AO H H'/\Tp HA H'/\H' d=some (.dT kvs)/\H' l=some (.lst (zs.map V.str))/\H' sl=some (.lst (qs.map (·.1)))/\Tl 1000 (5+i) zs)
      ⟨o5,o7,none,zs,rfl,s8.trans s8A,Tp.refl _,s8A _ _ ed8,s8A _ _ el8,esl,tl5⟩ (fun i σ H' _ ⟨_,_,_,_,_,_,_,_,_,e,_⟩=>SqL.of e) ?_ ?_⟩
     ·rintro i x σ HB hx ⟨o5,o7,o9,zs,rfl,sB,tpB,edB,elB,eslB,tl⟩
      rw [List.getElem?_map] at hx
      obtain ⟨q,hq,rfl⟩:=Option.map_eq_some_iff.mp hx
      have li4:i<4:=by have:=(List.getElem?_eq_some_iff.mp hq).1;omega
      obtain ⟨j,hj⟩:=List.mem_iff_getElem?.mp (pq.mem_iff.mp (List.mem_of_getElem? hq))
      obtain ⟨t,ks,et,ek,ht⟩:=ry9.at (show ys[j]?=some q.1 by rw [List.getElem?_zip_eq_some] at hj;exact hj.1)
      have hks:=List.mem_of_getElem? ek
      obtain ⟨v,hv⟩:=SM hks
      obtain ⟨on,rfl⟩:∃n,v=.int n:=by have:=(pk _ (IK hv)).2;exact this
      obtain ⟨a1,ky,a2,rfl,b1,b2,b3⟩:=pks ks hks
      rw [et]
      have htB:HB t=some (.tup [.int a1,.str ky,.int a2]):=tpB _ _ (sA _ _ ht)
      have n2:Sm a2:=sm (by omega)
      have n3:Sm (a2+6):=sm (by omega)
      have n4:Sm (1+on % 9):=sm (by omega)
      have n5:Sm (on % 10 ^ Int.toNat 30-5):=by
       rw [e30]
       show (on % 1000000000000000000000000000000-5).natAbs≤10000000000000000000000000000000000000000
       omega
      have n6:Sm (on % 90-45):=sm (by omega)
      have n7:Sm (on % 70):=sm (by omega)
      refine ⟨d,_,rfl,by have:=IJ.t (k:=[.inl a1,.inr ky,.inl a2]) edB htB;rw [hv] at this;exact this,?_⟩
      refine ⟨_,_,SqT.of htB,AL (j:=0) rfl,_,rfl,b1.log,_,_,SqT.of htB,AL (j:=1) rfl,_,_,SqT.of htB,AL (j:=2) rfl,_,rfl,n2.log,_,_,SqT.of htB,AL (j:=2) rfl,_,rfl,n3.log,(by decide:(0:Int)<9),_,rfl,n4.log,le1 rfl,fun p hp=>?_⟩
      refine AV hp fun HC sC eC=>?_
      refine ⟨.inl ⟨rfl,_,SqL.of (sC _ _ elB)⟩,rfl,_,_,rfl,rfl,⟨by decide,by decide,by decide⟩,(by decide +kernel:(0:Int)<10 ^ Int.toNat 30),_,rfl,n5.log,(by decide:(0:Int)<90),_,rfl,n6.log,(by decide:(0:Int)<70),_,rfl,n7.log,le1 rfl,fun p2 hp2=>?_⟩
      refine AV hp2 fun HD sD eD=>?_
      refine ⟨p,p2,_,_,rfl,rfl,sD _ _ eC,eD,le1 rfl,fun p3 hp3=>?_⟩
      refine AV hp3 fun HE sE eE=>?_
      obtain ⟨j1,j2⟩:=jn (zs:=[("piece" : Str),Str.ofString (toString a1),ky,Str.ofString (toString a2),Str.ofString (toString (a2+6)),Str.ofString (toString (1+on % 9)),Str.ofString (toString (on % 10 ^ Int.toNat 30-5)),Str.ofString (toString (on % 90-45)),Str.ofString (toString (on % 70))]) (fun z hz=>by
       simp only [List.mem_cons,List.not_mem_nil,or_false] at hz
       rcases hz with rfl|rfl|rfl|rfl|rfl|rfl|rfl|rfl|rfl
       ·decide
       ·exact b1.len
       ·omega
       ·exact n2.len
       ·exact n3.len
       ·exact n4.len
       ·exact n5.len
       ·exact n6.len
       ·exact n7.len) (le1 rfl)
      have sBE:=(sC.trans sD).trans sE
      have elE:=sBE _ _ elB
      refine ⟨" ", p3,[("piece" : Str),Str.ofString (toString a1),ky,Str.ofString (toString a2),Str.ofString (toString (a2+6)),Str.ofString (toString (1+on % 9)),Str.ofString (toString (on % 10 ^ Int.toNat 30-5)),Str.ofString (toString (on % 90-45)),Str.ofString (toString (on % 70))],rfl,rfl,SqL.of eE,j1,l,_,_,rfl,rfl,elE,by have:=tl.1;rw [List.length_map];omega,_,_,_,zs++[_],rfl,(sB.trans sBE).Ma hlH,(tpB.trans sBE.tp).upd elE (fun xs=>by intro z;cases z),by rw [AM nd'];exact sBE _ _ edB,by rw [AG,List.map_append];rfl,by rw [AM nsl];exact sBE _ _ eslB,by have:=tl.1;rw [List.length_append];show _+1≤_;omega,fun z hz=>?_⟩
      rcases List.mem_append.mp hz with hz|hz
      ·exact tl.2 z hz
      ·rw [List.mem_singleton.mp hz];exact j2
     ·rintro σ HB ⟨o5,o7,o9,zs,rfl,sB,_,_,elB,_,tl⟩
      rw [List.length_map] at tl
      refine z14 _ _ ?_
      have lz:=tl.1
      have nn:Sm ((zs.map V.str).length:Int):=sm (by rw [List.length_map];omega)
      have e4:("end " : Str).length=4:=by decide +kernel
      have n61:=nn.len
      refine ⟨_,.inl (SqL.of elB),_,rfl,nn.log,_,_,rfl,rfl,by omega,le1 rfl,fun p hp=>?_⟩
      refine AV hp fun HC sC eC=>?_
      refine ⟨l,p,_,_,rfl,rfl,sC _ _ elB,eC,by rw [List.length_map,List.length_singleton];omega,fun r hr=>k _ r (zs++[("end " : Str)++Str.ofString (toString ((zs.map V.str).length:Int))]) ((sB.trans sC).upd hr) (by rw [AG,List.map_append];rfl) ⟨by rw [List.length_append];show _+1≤_;omega,fun z hz=>?_⟩⟩
      rcases List.mem_append.mp hz with hz|hz
      ·exact tl.2 z hz
      ·rw [List.mem_singleton.mp hz,PySem.Str.length_append];omega
section
open PySem.Spec PyProof.Rows
structure V9 (k:Nat) (A:Around):Prop where
 dp:A.depth+3 * k+5<recursionLimit
 un:A.units+16 * k+200<cLine
theorem Co.h {k:Nat}{A:Around}(r:Co k A) (v:Option Value):V9 k (A.mark v):=⟨r.dp,r.un⟩
structure FnH (P:Program) (w:World) (K:W.Frag) (mg:Str→Option Value) (base:Heap) (k:Nat) (f:Addr) (fd:FuncData) (ps:List Str) (sp:Sp):Prop where
 len:∀vs H Q E,sp vs H Q E→vs.length=ps.length
 run:∀(A:Around) (outer:List Env) (s:Shared) (H:Hp) (args:Args) (us:List Value) (vs:List V) (Q:VK) (E:XK),V9 k A→Q6 P w K mg base A outer s H→BindsTo s fd args (ps.zip us)→Vals vs us→sp vs H Q E →
  codeAny (model P w) A (.call (.ref f) args) (CR CX0 outer P w H s Q E) s
def cxH (P:Program) (w:World) (K:W.Frag) (mg:Str→Option Value) (base:Heap) (N:List Str) (qual:Str) (scope:Scope) (f:Addr) (cd:Value) (A:Around) (outer:List Env) (s:Shared) (H:Hp) (E:XK):Cx:={ Di CX0 P w K mg base N qual scope f cd A outer s H E with calm:=false }
theorem aM {P:Program}{w:World}{K:W.Frag}{mg:Str→Option Value}{base:Heap}{N:List Str}{qual:Str}{scope:Scope}{f:Addr}{cd:Value}{A:Around}{outer:List Env}{s s1:Shared}{H H1:Hp}{E:XK}{pins:List (Addr×Obj)}{σ:L2.St}
  (I:L2.Inv (Di CX0 P w K mg base N qual scope f cd { A with handled:=none } outer s H E) pins σ H1 s1):L2.Inv (cxH P w K mg base N qual scope f cd A outer s H E) pins σ H1 s1 :=
 ⟨⟨I.ok.mod,I.ok.kind,I.ok.glob,I.ok.blt,I.ok.above,I.ok.inj,I.ok.has,I.ok.cab,(fun z=>by cases z),I.ok.frames,I.ok.stk,I.ok.exf,I.ok.bs,I.ok.bsz,I.ok.QS,I.ok.Qr,I.ok.Io,I.ok.frf⟩,I.os,I.bare,I.base,I.loc,I.cell,I.free,I.Fy,I.pin,I.hok,I.len⟩
unseal PSs in
theorem Fun.okH {P:Program}{w:World}{K:W.Frag}{mg:Str→Option Value}{base:Heap}{x qual:Str}{st:Stmt}{f:Addr}{fd:FuncData}{N ps:List Str}{k:Nat}{sp:Sp}(F:Fun K x qual st f fd) (S:AR N ps (AH st)) (len:∀vs H Q E,sp vs H Q E→vs.length=ps.length)
  (hbody:∀(cdv:Value) (A:Around) (outer:List Env) (s:Shared) (H:Hp) (vs:List V) (Q:VK) (E:XK),sp vs H Q E →
   ∃t,PSs (cxH P w K mg base N qual (AH st) f cdv A outer s H E).nox (Ho st) t/\t { nx:=fun _ H'=>Q .non H',rt:=Q } (start N vs) H):FnH P w K mg base (k+1) f fd ps sp:=by
 obtain ⟨oc,od,kV,doc,pm,an,cdv,ct,osl,rfl,lk,hcd⟩:=F.ex
 refine ⟨len,fun A outer s H args us vs Q E hr e0 hb r hsp=>?_⟩
 have hl:=len _ _ _ _ hsp
 have KX:K.In s.heap:=e0.mod.kin.keeps fun b o e=>(e0.bs b o e).1
 have lim:s.heap.NoLimit:=e0.mod.nolimit.keeps fun b o e=>(e0.bs b o e).1
 have hkind:∀y∈ps.zip us,(AH st).names.lookup y.1=some .local\/((AH st).names.lookup y.1=some .cell/\((cellsFrom (s.heap.objs.size+1) (AH st).names []).lookup y.1).isSome=true):=fun ⟨n,v⟩ hy=>by
  rcases S.par n (List.of_mem_zip hy).1 with q|q
  ·exact .inl q
  ·exact .inr ⟨q,W.cellsFrom_some _ _ _ (.inl q)⟩
 refine codeAny_call_function (by have:=hr.dp;omega) (KX _ _ lk) rfl S.co S.gen rfl (W.codeRec_of KX hcd) (hb _ _ _ _ ?_)
 refine wpAny_newFunctionEnv_cells S.kind hkind fun env he s1 x=>?_
 subst he
 refine ⟨lim.keeps x.toInCall.keep,codeAny_func ?_⟩
 obtain ⟨t,ht,hq⟩:=hbody cdv A outer s H vs Q E hsp
 have ht:=PSs.nox ht
 have I:=aM (A:=A) (OU (CX:=CX0) (A:={ A with handled:=none }) (E:=E) (f:=f) (cd:=cdv) (qual:=qual) S rfl ⟨e0.frames,e0.mod,e0.bs,e0.bsz,e0.Io,e0.frf,e0.hok,e0.bare⟩ hl r x)
 refine wpAny_mono (ht [] s1 (start N vs) H _ I hq) (fun fl s' hs=>?_) fun e s' hs=>hs
 have fin:∀{σ':L2.St} {H':Hp} {v:V} {u:Value},L2.Inv (cxH P w K mg base N qual (AH st) f cdv A outer s H E) [] σ' H' s'→L2.RelV v u→Q v H'→CE outer P w H s Q u s' :=
  fun {σ' H' v u} J rv q=>⟨v,H',J.os,J.bare,J.base,J.hok,rv,q⟩
 cases fl with
 | ret u =>
  obtain ⟨v,σ',H',J,rv,q⟩:=hs
  exact fin J rv q
 | next =>
  obtain ⟨σ',H',J,q⟩:=hs
  exact fin (v:=V.non) (u:=Value.none) J rfl q
 | brk =>
  obtain ⟨_,_,_,q⟩:=hs
  exact False.elim q
 | cont =>
  obtain ⟨_,_,_,q⟩:=hs
  exact False.elim q
variable {X:Cx}{k:Nat}{f:Addr}{fd:FuncData}{ps:List Str}{sp:Sp}{x:Str}{p pos:Pos}{e:Expr}{es:List Expr}{t:TA}
unseal PE PA in
theorem VA (F:FnH X.prog X.w X.K X.mg X.base k f fd ps sp) (hr:V9 k X.A) (hg:Gl X x) (hm:X.mg x=some (.ref f)) (hk:W.keepIn X.K (.ref f)=true) (hb:Binds X.K fd ps [])
  (ha:PA X (e::es) t) (hdb:(x==("__debug__" : Str))=false:=by decide) (he:starEach (e::es) X.env=(false,eval e X.env)::starEach es X.env:=by rfl) (hpl:(backTo pos (starEach es X.env)).any (·.1)=false:=by rfl) :
  PE X (.Call (.Name x p) (e::es) [] pos) (Pz sp [] E0 t):=by
 intro pins s σ H Q I h
 refine wpAny_Call_Name_kw (Gq I hg hm ?_ hdb)
 refine W.callWith_K (h₀:=X.base) I.ok.mod.kin hk (thn (ha pos pins s σ H _ I h) fun us s1 ⟨vs,H1,I1,r,q⟩=>⟨I1.kIn,?_⟩) he hpl
 have q:sp (vs++[]) H1 Q E0:=q
 rw [List.append_nil] at q
 have hl:(us++[]).length=ps.length:=by rw [List.append_nil,←r.length];exact F.len _ _ _ _ q
 refine wpAny_call (codeAny_mono (F.run X.A X.stack s1 H1 ⟨us,[]⟩ (us++[]) vs Q E0 hr I1.Vu (hb s1 us I1.kIn hl) (by rw [List.append_nil];exact r) q) fun r s' hq=>?_)
 cases r with
 | error e=>exact hq.elim
 | ok fl =>
  cases fl with
  | ret u=>exact I1.after hq
  | next=>exact False.elim hq
  | brk=>exact False.elim hq
  | cont=>exact False.elim hq
end
theorem Tr (T:Tx K mg ad):FnH P w K mg base 1 ad.GW ad.HM ["_law_e"] (WY ad):=by
 refine Fun.okH T.Ga OG (fun vs H Q E h=>?_) (fun cdv A outer s H vs Q E h=>?_)
 ·obtain ⟨e,dd,rfl,_⟩:=h
  rfl
 ·obtain ⟨e,dd,rfl,ee,k⟩:=h
  have nd:=OG.nd
  refine ⟨_,(AE (psl 1 nd (Zy (AU (MW (K:=K)) (by rfl) T.Al PyProof.Rows.boot_isinstance (AA (pvC 0) (AA (Av (AA (Bg (v:=.ref ad.BY) (by rfl) T.QZ rfl) (AA (Bg (v:=.ref ad.DP) (by rfl) T.RY rfl) (AA (Bg (v:=.ref ad.BX) (by rfl) T.QY rfl) AB)))) AB))) (Gw (AU (MW (K:=K)) (by rfl) T.Al PyProof.Rows.boot_isinstance (AA (pvC 0) (AA (Av (AA (Bg (v:=.ref ad.DO) (by rfl) T.RX rfl) (AA (Bg (v:=.ref ad.Cw) (by rfl) T.T1 rfl) AB))) AB))))))
    (AF (AS (Cs (AU (Ni (K:=K)) (by rfl) T.Al PyProof.Rows.boot_isinstance (AA (pvC 0) (AA (Bg (v:=.ref ad.A0) (by rfl) T.PM rfl) AB))) (Cs (AU (Ni (K:=K)) (by rfl) T.Al PyProof.Rows.boot_isinstance (AA (pvC 0) (AA (He (v:=.ty "ValueError") (by rfl) T.Eg (by decide +kernel:bootBuiltins "ValueError" = some (.type "ValueError")) rfl) AB))) (Gw (U2 (pvC 1)))))))),?_⟩
  have kA:W.kitAny K (.ref ad.AK) [.ref ad.BY,.ref ad.DP,.ref ad.BX]=some false:=by
   unfold W.kitAny
   rw [T.BW]
   unfold W.kitAny
   rw [T.Bj]
   unfold W.kitAny
   rw [T.BV]
   rfl
  have kB:W.kitAny K (.ref ad.AK) [.ref ad.DO,.ref ad.Cw]=some false:=by
   unfold W.kitAny
   rw [T.Bi]
   unfold W.kitAny
   rw [T.Bz]
   rfl
  refine ⟨le1 rfl,fun t1 h1=>?_⟩
  refine AV (o:=.tup [.ref ad.BY,.ref ad.DP,.ref ad.BX]) h1 fun H1 s1 e1=>?_
  refine ⟨e,ad.AK,t1,dd,_,_,_,rfl,e1,rfl,s1 _ _ ee,T.Hn,kA,_,rfl,DJ ⟨le1 rfl,fun t2 h2=>?_⟩⟩
  refine AV (o:=.tup [.ref ad.DO,.ref ad.Cw]) h2 fun H2 s2 e2=>?_
  have e3:=(s1.trans s2) _ _ ee
  refine ⟨e,ad.AK,t2,dd,_,_,_,rfl,e2,rfl,e3,T.Hn,kB,?_⟩
  exact ⟨e,_,dd,_,_,_,rfl,rfl,e3,T.Hn,T.BN,_,rfl,Ek ⟨e,_,dd,_,_,_,rfl,rfl,e3,T.Hn,T.BI,_,rfl,Ek ⟨_,rfl,k H2 (s1.trans s2)⟩⟩⟩
theorem Yl (T:Tx K mg ad):Ao P w K mg base CX0 9 ad.Np ad.Ng ["_law_script"] (Ow K):=by
 have G_ucell_at:=A6.mk (Xt (P:=P) (w:=w) (base:=base) T) T.NQ T.C9.kp T.Nk
 have G_ugood:=A6.mk (W2 (P:=P) (w:=w) (base:=base) T) T.XH T.IB.kp T.XZ
 have G_uchanged:=A6.mk (RU (P:=P) (w:=w) (base:=base) T) T.Rh T.D5.kp T.Ry
 have G_uwrong:=A6.mk (Tj (P:=P) (w:=w) (base:=base) T) T.VZ T.GZ.kp T.V3
 have F_alone:=Tr (P:=P) (w:=w) (base:=base) T
 have G_uplan:=Wz (P:=P) (w:=w) (base:=base) T
 have G_unpacked:=QK (P:=P) (w:=w) (base:=base) T
 have G_packed:=A6.mk (Ti (P:=P) (w:=w) (base:=base) T) T.Vb T.Ge.kp T.V5
 refine T.Nu.ok Uo (fun vs H Q E h=>?_) (fun cdv A outer s H vs Q E hr h=>?_)
 ·obtain ⟨a,ns,rfl,_⟩:=h
  rfl
 ·obtain ⟨a,ns,rfl,hS,hl,k⟩:=h
  have nd:=Uo.nd
  refine ⟨_,(AE (psl 1 nd (AJ G_ugood hr (AA (pvC 0) AB)))
    (AE (Df PassesOwn.never rfl (JK (by rfl) T.Fz (AA (AN Ap (AJ G_ucell_at hr (AA (pvC 0) (AA AD AB))) AD) AB)) (pgn 2 nd)
    (AF (psl 1 nd (AJ G_uchanged hr (AA (pvC 1) (AA (AJ G_ucell_at hr (AA (pvC 0) (AA (AN Bb AD (pvC 2)) AB))) AB))))))
    (AE (psl 3 nd (AJ G_uwrong hr (AA (pvC 1) AB)))
    (AE (psl 4 nd (Aa (Jp (K:=K)) (by rfl) T.Jq PyProof.Rows.boot_list (AA (pvC 1) AB)))
    (AE (Wn (i:=6) rfl rfl rfl rfl (Tc (Wl (i:=5) nd rfl (Or.inl rfl) (U1 G_unpacked (hr.mono (by decide)) (by rfl) T.Rc T.D2.kp T.Rv (AA (VC G_uplan (hr.mono (by decide)) (by rfl) T.XG T.IA.kp T.XY .nil Ic) (AA (AN Ap (AJ G_ucell_at hr (AA (pvC 0) (AA AD AB))) AD) (AA (pvC 4) AB))))) Uw) (by rfl) T.GL nd rfl rfl (.inl rfl) (fun _=>(AE (psl 7 nd (Wq (pvC 6) rfl))
    (AE (A4 (PW.pt (G3 (LX (DU (AU (EM (K:=K)) (by rfl) T.Al PyProof.Rows.boot_isinstance (AA (pvC 7) (AA (He (v:=.ty "int") (by rfl) T.Lr PyProof.Rows.boot_int rfl) AB))))) (G3 (DU (AU (EM (K:=K)) (by rfl) T.Al PyProof.Rows.boot_isinstance (AA (pvC 7) (AA (He (v:=.ty "bool") (by rfl) T.LN PyProof.Rows.boot_bool rfl) AB)))) (Ia (LX (DU (VA F_alone (Co.h (hr.mono (by decide)) _) (by rfl) T.Va T.Ga.kp T.V4 (AA (pvC 6) AB))))))))
    (AF (AS VD))
    Ab)
    (AF (AS (Cs (Fc Cj (pvC 7) (pvC 3) (AX _)) (Gw (Fc (RN (K:=K) hr.Gu) (pvC 4) (pvC 1) (AX _))))))))))
    (AF (AS (Cs (Fc Cj (pvC 3) (Sh Mh AD) (AX _)) (Cs (Fc (RN (K:=K) hr.Gu) (AJ G_packed hr (AA (pvC 5) AB)) (pvC 1) (AX _)) (Gw (Fc (RN (K:=K) hr.Gu) (pvC 4) (pvC 1) (AX _)))))))))))),?_⟩
  have sz:sizeLine=16777216:=sizeLine_eq
  refine ⟨a,ns,rfl,hS,fun H1 l zs s1 el tl=>?_⟩
  refine ⟨a,ns,_,rfl,s1.seq hS,by decide,fun c=>⟨(by decide:(0:Int)<3),_,rfl,by omega,by omega,?_⟩⟩
  refine HI (fun i σ H'=>∃(o2:Option V) (l:Addr) (zs:List Str),σ=[some (.ref a),some (.ref l),o2,none,none,none,none,none]/\AO H H'/\H' l=some (.lst (zs.map V.str))/\Tl (1000+200 * i) (10+i) zs)
   ⟨none,l,zs,rfl,s1,el,tl⟩ ?_ ?_
  ·rintro i σ H2 hi ⟨o2,l,zs,rfl,s2,el,tl⟩
   rw [Int.zero_add]
   refine ⟨a,ns,_,rfl,s2.seq hS,by omega,fun c4=>⟨l,zs,c4,_,_,rfl,el,tl,by omega,by omega,by omega,by omega,fun H3 r ys s3 er ty=>⟨_,r,ys,rfl,s2.trans s3,er,ty⟩⟩⟩
  rintro σ H2 ⟨o2,l,zs,rfl,s2,el,tl⟩
  have lz:=tl.1
  have hz:∀z∈zs,z.length≤60000:=fun z h=>by have:=tl.2 z h;omega
  refine ⟨l,zs,rfl,el,by omega,hz,fun H3 s3=>?_⟩
  have el3:=s3 _ _ el
  refine ⟨l,_,rfl,.inl (SqL.of el3),fun h hh=>?_⟩
  refine AV (o:=.lst (zs.map V.str)) hh fun H4 s4 eh=>?_
  have S4:=(s2.trans s3).trans s4
  have el4:=s4 _ _ el3
  refine ⟨rfl,fun H5 lp xs s5 pl=>⟨a,ns,_,rfl,(S4.trans s5).seq hS,by decide,fun c7=>⟨(by decide:(0:Int)<50),?_⟩⟩⟩
  have el5:=s5 _ _ el4
  have eh5:=s5 _ _ eh
  have nlst:∀xs,HO.lst xs≠.dK []:=fun xs=>by intro z;cases z
  refine ⟨lp,h,xs,_,zs,rfl,pl,by omega,by omega,eh5,by omega,hz,fun H6 x z0 zs' hw fr hzs fl=>?_,fun H6 dx hw fr ex=>?_⟩
  ·have el6:=fr _ _ el5 (nlst _)
   have eh6:=fr _ _ eh5 (nlst _)
   refine ⟨rfl,_,rfl,?_⟩
   rw [hw]
   refine Ek ⟨x,z0,zs',rfl,fl,fun H7 r s7 er=>?_⟩
   rw [←hzs] at er
   exact ⟨zs,SqL.of er,SqL.of (s7 _ _ el6),_,rfl,Ek ⟨zs,SqL.of (s7 _ _ eh6),SqL.of (s7 _ _ el6),k _⟩⟩
  ·refine ⟨T.Bk,fun ee he=>?_⟩
   refine AV (o:=SE ee (.ref ad.AK) (some dx)) he fun H7 s7 e7=>?_
   have el7:=s7 _ _ (fr _ _ el5 (nlst _))
   have eh7:=s7 _ _ (fr _ _ eh5 (nlst _))
   refine ⟨ee,_,dx,_,_,rfl,e7,s7 _ _ ex,T.GJ.fl,rfl,?_⟩
   refine ⟨.int (ID zs), "int", _,_,rfl,(Sc.int _).ty,Sw _ (.int _),_,rfl,DJ ⟨.int (ID zs), "bool", _,_,rfl,(Sc.int _).ty,Qk _ (.int _),_,rfl,DJ ⟨ee,some dx,rfl,e7,fun H8 s8=>⟨_,rfl,DJ ⟨rfl,_,rfl,cC rfl ⟨zs,SqL.of (s8 _ _ eh7),SqL.of (s8 _ _ el7),k _⟩⟩⟩⟩⟩⟩
theorem all_mk {l:W.OpenLaw}{w:World}{K:W.Frag}{mg:Str→Option Value}{fa:Addr}{ad:Ad}(hfa:mg "law" = some (.ref fa)) (T:Tx K mg ad)
  : ∃fd:FuncData,(∀(s:Shared) (v:Value),BindsTo s fd ⟨[v],[]⟩ [("_law_script", v)])/\∀base:Heap,K.In base→base.Ns mainGlobals mg→Ao l.prog w K mg base CX0 depth fa fd ["_law_script"] (Ow K):=by
 have e:=hfa.symm.trans T.aF
 cases e
 obtain ⟨_,_,_,_,_,_,_,_,_,e,_,_⟩:=T.Nu.ex
 exact ⟨ad.Ng,fun s v=>by rw [e];exact .of_eq rfl,fun base _ _=>Yl T⟩
end K23
namespace PySem.W.Fast
def tw7873179137392836675:Unit:=()
def tw8992501024622719950:Unit:=()
def tw4351064747410172319:Unit:=()
def tw17034042180516142509:Unit:=()
def tw2551382317797413632:Unit:=()
def tw5159115721824811578:Unit:=()
def tw13480336622961375049:Unit:=()
def tw14548295833959674984:Unit:=()
def tw3466061132210710525:Unit:=()
def tw6467753631902563489:Unit:=()
def tw9207409614888578782:Unit:=()
def tw800293451384959413:Unit:=()
def tw5963711854957344069:Unit:=()
def tw10582527954482976935:Unit:=()
def tw11298139371156957992:Unit:=()
def tw13049247859196774869:Unit:=()
def tw15559727947695470968:Unit:=()
def tw2471572650198443260:Unit:=()
def tw12533424761971364160:Unit:=()
def tw4102348865413181384:Unit:=()
def tw1232699675012346868:Unit:=()
def tw4696389989457301685:Unit:=()
def tw10382193724864228863:Unit:=()
def tw125397727393912697:Unit:=()
def tw10886870904323115358:Unit:=()
def tw5249720890552978332:Unit:=()
def tw13123658051345154538:Unit:=()
def tw15150400245703055651:Unit:=()
def tw7274811079009525220:Unit:=()
def tw14832523898407347844:Unit:=()
def tw4412651807362060496:Unit:=()
def tw8070047062679451954:Unit:=()
def tw4264973995975669493:Unit:=()
def tw17689613017781317448:Unit:=()
def tw12739037971994149180:Unit:=()
def tw374014165807238886:Unit:=()
def tw3902948779763464035:Unit:=()
def tw10355010881500687217:Unit:=()
def tw16706464682139765871:Unit:=()
def tw3312814485824772272:Unit:=()
def tw2571386342428445159:Unit:=()
def tw9500667644309320456:Unit:=()
def tw12675199166766946289:Unit:=()
def tw7403691164498471659:Unit:=()
def tw2169440846004986720:Unit:=()
def tw324182075523864907:Unit:=()
def tw13913220950291659733:Unit:=()
def tw17571476976178308997:Unit:=()
def tw12500785700823000030:Unit:=()
def tw15154306958214276488:Unit:=()
def tw14989977536202637130:Unit:=()
def tw944454250016770180:Unit:=()
def tw13359536917925706268:Unit:=()
def tw5646635914185919598:Unit:=()
def tw14326983522201255804:Unit:=()
def tw151701337568424991:Unit:=()
def tw14004139257805508160:Unit:=()
def tw13834048166324336346:Unit:=()
def tw11599369544830568270:Unit:=()
def tw8512912138847344724:Unit:=()
def tw11762154488547113529:Unit:=()
def tw11128016482767759086:Unit:=()
def tw13175672472318924269:Unit:=()
def tw6347524619344283542:Unit:=()
def tw13580020478869486618:Unit:=()
def tw12849923510046731791:Unit:=()
def tw4922384353658692157:Unit:=()
def tw12676686473312169648:Unit:=()
def tw16882928671032156895:Unit:=()
def tw15138949788532501587:Unit:=()
def tw11127013078902772466:Unit:=()
def tw8468796398241082357:Unit:=()
def tw15221463889053469902:Unit:=()
def tw4270587325607078094:Unit:=()
def tw14166538323139103674:Unit:=()
def tw5536979845439662217:Unit:=()
def tw499660616760457341:Unit:=()
def tw2952034223501298278:Unit:=()
def tw12466495398477779034:Unit:=()
def tw4712623911032918441:Unit:=()
def tw15282802957166893200:Unit:=()
def tw13521538761578176304:Unit:=()
def tw10980568365689659013:Unit:=()
def tw411274042401347275:Unit:=()
def tw7758296370342916177:Unit:=()
def tw785473995152205290:Unit:=()
def tw2689249466299026739:Unit:=()
def tw4040488951056113805:Unit:=()
def tw4573285878602867123:Unit:=()
def tw5743106884667529552:Unit:=()
def tw7990541838395572648:Unit:=()
def tw8527505324272558770:Unit:=()
def tw14238380123385939154:Unit:=()
def tw13111863062250375406:Unit:=()
def tw15229039910128591365:Unit:=()
def tw15875483710623402297:Unit:=()
def tw7800412323445393220:Unit:=()
def tw10185486734870638491:Unit:=()
def tw13504011163997398102:Unit:=()
def tw8816766198048068349:Unit:=()
def tw18300360851628239441:Unit:=()
def tw3161218308069909540:Unit:=()
def tw4971060992595216477:Unit:=()
def tw13084076907888674341:Unit:=()
def tw1717002821954261954:Unit:=()
def tw9925791573617966599:Unit:=()
def tw4739438269315531778:Unit:=()
def tw5054675803467402099:Unit:=()
def tw877479555543841204:Unit:=()
def tw13046937425672196612:Unit:=()
def tw4910580280650956380:Unit:=()
def tw14002370843025294837:Unit:=()
def tw6816038415365440535:Unit:=()
def tw685382290803766374:Unit:=()
def tw16620513637425931974:Unit:=()
def tw13949708112937527539:Unit:=()
def tw2534436705533955701:Unit:=()
def tw17157310998818187157:Unit:=()
def tw3162808404468807636:Unit:=()
def tw7090759444502137112:Unit:=()
def tw7105796644701955470:Unit:=()
def tw7497966210105720743:Unit:=()
def tw8402666274514202069:Unit:=()
def tw1432006301170699478:Unit:=()
def tw2213184526965604339:Unit:=()
def tw4185477654510900442:Unit:=()
def tw3870438729295492008:Unit:=()
def tw7630546213579993375:Unit:=()
def tw15298353460625802202:Unit:=()
def tw4953703829804726230:Unit:=()
def tw3296138860873408289:Unit:=()
def tw11159088132652014685:Unit:=()
def tw17961226256138262249:Unit:=()
def tw4643139840762699680:Unit:=()
def tw4446162961585238112:Unit:=()
def tw9902226980203719791:Unit:=()
def tw83462292775348334:Unit:=()
def tw17582438099124948593:Unit:=()
def tw11907069543691067651:Unit:=()
def tw10682366706534128525:Unit:=()
def tw13941575014798378065:Unit:=()
def tw16632679954385889572:Unit:=()
def tw14895552489296078552:Unit:=()
def tw13252963154573388178:Unit:=()
def tw9046972107301191663:Unit:=()
def tw11435383197199824393:Unit:=()
def tw9209296147677600242:Unit:=()
def tw10165163592012160177:Unit:=()
def tw11561467159468137394:Unit:=()
def tw17499188555604388623:Unit:=()
def tw17434313646181047139:Unit:=()
def tw3063992144836015930:Unit:=()
def tw17981891769197028989:Unit:=()
def tw12304772061058273436:Unit:=()
def tw9970521179216185236:Unit:=()
def tw14174474543877160527:Unit:=()
def tw14923159972285062573:Unit:=()
def tw6383529738135992950:Unit:=()
def tw7553182166516050266:Unit:=()
def tw13976799895053415101:Unit:=()
def tw3421405001310663192:Unit:=()
def tw3842735345434011360:Unit:=()
def tw1246857376769497486:Unit:=()
def tw7961568129978034722:Unit:=()
def tw15884691498670234148:Unit:=()
def tw4839648118322151818:Unit:=()
def tw15872849763225106390:Unit:=()
def tw16069637371215993461:Unit:=()
def tw7713684964314553602:Unit:=()
def tw9515092303678394845:Unit:=()
def tw9088977202188789501:Unit:=()
def tw17868541047783334391:Unit:=()
def tw6682216038278886777:Unit:=()
def tw5118100486902171219:Unit:=()
def tw744473350955649739:Unit:=()
def tw8084365579830265708:Unit:=()
def tw17953126157364644253:Unit:=()
def tw8288489272773367785:Unit:=()
def tw12531837197094390070:Unit:=()
def tw10861515040133575532:Unit:=()
def tw1368662640278987009:Unit:=()
def tw3704986825050084732:Unit:=()
def tw1031339675401449605:Unit:=()
def tw7882818151042622875:Unit:=()
def tw9873059755515384972:Unit:=()
def tw14775032528377724035:Unit:=()
def tw6635335418731496792:Unit:=()
def tw13921138003526927444:Unit:=()
def tw6749575442538221698:Unit:=()
def tw8922901296875452636:Unit:=()
def tw193827739183333872:Unit:=()
def tw3685296872250419398:Unit:=()
def tw15031192200007687551:Unit:=()
def tw1727600131116735603:Unit:=()
end PySem.W.Fast
open PySem PySem.W PyProof.Rows
set_option maxRecDepth 100000 in
set_option maxHeartbeats 0 in
theorem PySem.Challenge.cw_brooktally_k23_lines_that_are_no_keep_holds : PySem.Challenge.rw_brooktally_k23_lines_that_are_no_keep.Holds := by
  w_on; o_law; k_head; (case hw => w_witness2)
  k_fill
  refine L2.UW (l := PySem.Challenge.rw_brooktally_k23_lines_that_are_no_keep) (n := 63) (k := K23.depth) (x := "_law_script") (CX := L2.CX0) (sp := K23.Ow) rfl (by decide) rfl ⟨rfl,by decide,by decide⟩ (fun w h Y => PySem.W.kIn_of Y) ?F K23.Yt (fun _ _ _ _ z => z)
  case F =>
    intro w mg fa h KX G hmg
    refine' K23.all_mk hmg (K23.ZJ KX G ?HQ ?JB ?a_BadKeep ?Az ?BG ?Dv ?CP ?Dw ?DD ?FR ?EW ?CK ?Bm ?FT ?EX ?CL ?CQ ?Bt ?Bv ?FO ?Cc ?C3 ?DB ?a_Clock ?Au ?BF ?Cb ?Cf ?Hw ?IC ?Cy ?B7 ?HR ?JC ?JY ?LL ?C4 ?DC ?FK ?Gb ?JZ ?LM ?JX ?LK ?DQ ?Es ?FL ?Gd ?GH ?HW ?HV ?JF ?HU ?JE ?HS ?JD ?FN ?Gf ?a_Group ?As ?BE ?ET ?Ec ?CY ?Cd ?DR ?DS ?BZ ?Ba ?a_Side ?Aw ?BK ?Dz ?D9 ?EN ?EY ?EO ?EZ ?C7 ?DG ?a_Join ?Ax ?BL ?ES ?Eb ?ER ?Ea ?FJ ?FV ?Du ?D8 ?C5 ?DE ?a_Flow ?Ay ?BM ?EU ?Ed ?B4 ?B5 ?CZ ?Ce ?Dx ?DF ?CJ ?CO ?Bs ?Bu ?FP ?FW ?GX ?Ge ?CI ?BO ?C6 ?B8 ?Dy ?CS ?FQ ?FX ?Dt ?D7 ?Ds ?CN ?C0 ?Bl ?Dr ?D6 ?C1 ?DA ?Dk ?D2 ?Dq ?C9 ?Hu ?IA ?Hv ?IB ?Dj ?D1 ?Dl ?D3 ?BC ?BD ?Dp ?D5 ?FI ?EV ?Dm ?D4 ?Ht ?Hz ?Cz ?C8 ?GV ?GZ ?GW ?Ga ?Np ?Nu ?a_FlowError ?Fe ?a_BadEvent ?HZ ?a_BadSlack ?HY ?a_Broken ?KO ?a_BadStep ?a_BadLine ?pg_Clock ?hd_Clock ?po_Clock ?sa_Clock ?DY ?Ct ?Br ?fn_Clock___init__ ?fn_Clock_admit ?mks_Clock ?kp_Clock ?pg_Group ?hd_Group ?po_Group ?sa_Group ?Ej ?CC ?fn_Group___init__ ?fn_Group_put ?fn_Group_close ?fn_Group_take ?fn_Group_pieces ?mks_Group ?kp_Group ?pg_Side ?hd_Side ?po_Side ?sa_Side ?B6 ?fn_Side___init__ ?fn_Side_put ?fn_Side_near ?fn_Side_drop ?fn_Side_kept ?mks_Side ?kp_Side ?pg_Join ?hd_Join ?po_Join ?sa_Join ?DX ?CB ?fn_Join___init__ ?fn_Join_come ?fn_Join_drop ?mks_Join ?kp_Join ?pg_Flow ?hd_Flow ?po_Flow ?sa_Flow ?Fh ?Bh ?CD ?Bq ?Bp ?fn_Flow___init__ ?fn_Flow_come ?fn_Flow_told_by ?fn_Flow_finish ?mks_Flow ?kp_Flow ?ga_BadKeep ?gt_BadKeep ?ck_BadKeep ?sb_BadKeep ?so_BadKeep ?cl_BadKeep ?lk_BadKeep ?xfn_BadKeep ?xhd_BadKeep ?xna_BadKeep ?xsa_BadKeep ?BI ?BN ?Bw ?BW ?BV ?Bz ?Bi ?Bj ?Ck ?Bk ?HG ?HH ?Cu ?Em ?Fi ?El ?HF ?l_TELLERS ?JP ?l_TALLIES ?Eg ?OA ?LN ?Cq ?Lr ?Al ?BS ?Jq ?SG ?Pt ?Fz ?GI ?Ef ?Cp ?HX)
    (case HQ | a_BadKeep | Az | Dv | Dw | FR | CK | FT | CL | Bt | FO | C3 | a_Clock | Au | Cb | Hw | Cy | HR | JY | C4 | FK | JZ | JX | DQ | FL | GH | HV | HU | HS | FN | a_Group | As | ET | CY | DR | BZ | a_Side | Aw | Dz | EN | EO | C7 | a_Join | Ax | ES | ER | FJ | Du | C5 | a_Flow | Ay | EU | B4 | CZ | Dx | CJ | Bs | FP | GX | CI | C6 | Dy | FQ | Dt | Ds | C0 | Dr | C1 | Dk | Dq | Hu | Hv | Dj | Dl | BC | Dp | FI | Dm | Ht | Cz | GV | GW | Np | a_FlowError | a_BadEvent | a_BadSlack | a_Broken | a_BadStep | a_BadLine | pg_Clock | hd_Clock | po_Clock | sa_Clock | DY | Ct | Br | fn_Clock___init__ | fn_Clock_admit | mks_Clock | kp_Clock | pg_Group | hd_Group | po_Group | sa_Group | Ej | CC | fn_Group___init__ | fn_Group_put | fn_Group_close | fn_Group_take | fn_Group_pieces | mks_Group | kp_Group | pg_Side | hd_Side | po_Side | sa_Side | B6 | fn_Side___init__ | fn_Side_put | fn_Side_near | fn_Side_drop | fn_Side_kept | mks_Side | kp_Side | pg_Join | hd_Join | po_Join | sa_Join | DX | CB | fn_Join___init__ | fn_Join_come | fn_Join_drop | mks_Join | kp_Join | pg_Flow | hd_Flow | po_Flow | sa_Flow | Fh | Bh | CD | Bq | Bp | fn_Flow___init__ | fn_Flow_come | fn_Flow_told_by | fn_Flow_finish | mks_Flow | kp_Flow | ga_BadKeep | gt_BadKeep | ck_BadKeep | sb_BadKeep | so_BadKeep | cl_BadKeep | lk_BadKeep | xfn_BadKeep | xhd_BadKeep | xna_BadKeep | xsa_BadKeep | HG | HH | Cu | Em | Fi | El | HF | l_TELLERS | JP | l_TALLIES | Eg | OA | LN | Cq | Lr | Al | BS | Jq | SG | Pt | Fz | GI | Ef | Cp | HX => k_is)
    (case Fe | HZ | HY | KO => k_exc)
    (case BI | BN | BW | BV | Bz | Bi | Bj | Ck => kit_is)
    (case Bw | Bk => kts_exm)
    (case JB | BG | CP | DD | EW | Bm | EX | CQ | Bv | Cc | DB | BF | Cf | IC | B7 | JC | LL | DC | Gb | LM | LK | Es | Gd | HW | JF | JE | JD | Gf | BE | Ec | Cd | DS | Ba | BK | D9 | EY | EZ | DG | BL | Eb | Ea | FV | D8 | DE | BM | Ed | B5 | Ce | DF | CO | Bu | FW | Ge | BO | B8 | CS | FX | D7 | CN | Bl | D6 | DA | D2 | C9 | IA | IB | D1 | D3 | BD | D5 | EV | D4 | Hz | C8 | GZ | Ga | Nu => refine' L2.Y1 ?l ?c ?k; (case l => k_is); (case c => k_is); (case k => k_is))
