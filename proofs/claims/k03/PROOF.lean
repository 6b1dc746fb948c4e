import PyProof.Rows.All
import Wide.All
import OpenK.AllK
import Wide.FinOn
import Lean
import PyProof.EqAt
import PyProof.EqKinds
import PyProof.TupleCall
import PySem.Syntax
import PySem.Eval
import PyProof.P3In
import KE.KIsAll
import PyProof.CollectIter
import PyProof.ListRange
import KE.KSortTup
import PySem.Challenge.RW_leaffold_k03_refused_folds
noncomputable section
set_option linter.all false
set_option maxRecDepth 100000
set_option maxHeartbeats 4000000
set_option Elab.async false
set_option genSizeOf false
set_option bootstrap.genMatcherCode false
namespace L2
open PySem PySem.Spec PyProof.Rows
abbrev Key:=Sum Int Str
noncomputable def pY:Key→Value→Bool
 | .inl k,v=>Value.isInt k v
 | .inr x,v=>Value.isStrOf x v
noncomputable def aJp (w:World):Key→Int
 | .inl k=>hashInt k
 | .inr x=>hashStr w x
theorem bR:∀ {k:Key} {v:Value},pY k v=true→(∃ i t,k=Sum.inl i∧v=Value.int i t)∨(∃ x t,k=Sum.inr x∧v=Value.str x t)
 | .inl i,v,h=>by
  obtain ⟨t,e⟩:=Value.isInt_shape (k:=i) (v:=v) h
  exact .inl ⟨i,t,rfl,e⟩
 | .inr x,v,h=>by
  obtain ⟨t,e⟩:=Value.isStrOf_shape (x:=x) (v:=v) h
  exact .inr ⟨x,t,rfl,e⟩
theorem EU (i:Int) (t:Tok):pY (.inl i) (.int i t)=true:=by simp [pY,Value.isInt]
theorem ET (x:Str) (t:Tok):pY (.inr x) (.str x t)=true:=by simp [pY,Value.isStrOf]
theorem aAl (a b:Int):decide ((Sum.inl a:Key)=Sum.inl b)=(a == b):=by
 by_cases e:a=b
 ·subst e; simp
 ·have h:¬ (Sum.inl a:Key)=Sum.inl b:=fun q=>e (Sum.inl.inj q)
  rw [decide_eq_false h]
  exact (beq_eq_false_iff_ne.mpr e).symm
theorem aAi (a b:Str):decide ((Sum.inr a:Key)=Sum.inr b)=decide (a=b):=by
 by_cases e:a=b
 ·subst e; simp
 ·have h:¬ (Sum.inr a:Key)=Sum.inr b:=fun q=>e (Sum.inr.inj q)
  rw [decide_eq_false h,decide_eq_false e]
theorem aAk (a:Int) (b:Str):decide ((Sum.inl a:Key)=Sum.inr b)=false:=decide_eq_false (fun q=>nomatch q)
theorem aAj (a:Str) (b:Int):decide ((Sum.inr a:Key)=Sum.inl b)=false:=decide_eq_false (fun q=>nomatch q)
noncomputable def cJ (prog:Program) (w:World):PySem.KeyKind prog w Key where
 is:=pY
 hash:=aJp w
 inj:=fun v a b ha hb=>by
  rcases bR ha with ⟨i,t,rfl,rfl⟩|⟨x,t,rfl,rfl⟩
  ·rcases bR hb with ⟨j,u,rfl,e⟩|⟨y,u,rfl,e⟩
   ·injection e with e1 _; rw [e1]
   ·exact nomatch e
  ·rcases bR hb with ⟨j,u,rfl,e⟩|⟨y,u,rfl,e⟩
   ·exact nomatch e
   ·injection e with e1 _; rw [e1]
 byValue:=fun k v h=>by
  rcases bR h with ⟨i,t,rfl,rfl⟩|⟨x,t,rfl,rfl⟩<;>rfl
 pyHash:=fun hv h=>by
  rcases bR hv with ⟨i,t,rfl,rfl⟩|⟨x,t,rfl,rfl⟩
  ·exact wpAny_pyHash_int h
  ·exact wpAny_pyHash_str h
 eqBool:=fun hu hv h=>by
  rcases bR hu with ⟨i,t,rfl,rfl⟩|⟨x,t,rfl,rfl⟩
  ·rcases bR hv with ⟨j,u,rfl,rfl⟩|⟨y,u,rfl,rfl⟩
   ·rw [aAl] at h; exact wpAny_eqBool_int h
   ·rw [aAk] at h; exact SeqAt.EqAt.int_str i t y u _ _ _ _ h
  ·rcases bR hv with ⟨j,u,rfl,rfl⟩|⟨y,u,rfl,rfl⟩
   ·rw [aAj] at h; exact SeqAt.EqAt.str_int x t j u _ _ _ _ h
   ·rw [aAi] at h; exact wpAny_eqBool_str h
 «strs»:=fun k x t v h=>by
  rcases bR h with ⟨i,u,rfl,e⟩|⟨y,u,rfl,e⟩
  ·exact nomatch e
  ·injection e with e1 _
   subst e1
   cases v<;>rfl
theorem vM (prog:Program) (w:World) (i:Int) (t:Tok):(cJ prog w).is (.inl i) (.int i t)=true:=EU i t
theorem vL (prog:Program) (w:World) (x:Str) (t:Tok):(cJ prog w).is (.inr x) (.str x t)=true:=ET x t
end L2
namespace L2
open PySem PySem.Spec PyProof.Rows
inductive V where
 | non|bl (b:Bool)|int (i:Int)|str (x:Str)|byt (b:Array UInt8)|flt (b:UInt64)|ref (a:Addr)|ty (n:String)
 deriving DecidableEq
noncomputable def RelV:V→Value→Prop
 | .non,u=>u=Value.none
 | .bl b,u=>u=Value.bool b
 | .int i,u=>∃ t,u=Value.int i t
 | .str x,u=>∃ t,u=Value.str x t
 | .byt b,u=>∃ t,u=Value.bytes b t
 | .flt b,u=>∃ t,u=Value.float b t
 | .ref a,u=>u=Value.ref a
 | .ty n,u=>u=Value.type n
abbrev aS:List V→List Value→Prop:=Paired RelV
theorem aS.length {xs:List V} {us:List Value} (r:aS xs us):xs.length=us.length:=Paired.length r
theorem aS.get:∀ {xs:List V} {us:List Value} {i:Nat} {x:V},aS xs us→xs[i]?=some x→∃ u,us[i]?=some u∧RelV x u
 | _,_,_,_,.nil,e=>by simp at e
 | _,_,0,_,.cons r _,e=>by simp at e; subst e; exact ⟨_,rfl,r⟩
 | _,_,i+1,x,.cons _ t,e=>by
  obtain ⟨u,h1,h2⟩:=aS.get (i:=i) (x:=x) t (by simpa using e)
  exact ⟨u,by simpa using h1,h2⟩
theorem aS.set {x:V} {u:Value} (r:RelV x u):∀ {xs:List V} {us:List Value} (i:Nat),aS xs us→aS (xs.set i x) (us.set i u)
 | _,_,_,.nil=>.nil
 | _,_,0,.cons _ t=>.cons r t
 | _,_,i+1,.cons q t=>.cons q (aS.set r i t)
theorem aS.append:∀ {xs ys:List V} {us ws:List Value},aS xs us→aS ys ws→aS (xs++ys) (us++ws)
 | _,_,_,_,.nil,s=>s
 | _,_,_,_,.cons r t,s=>.cons r (aS.append t s)
theorem aS.take:∀ {xs:List V} {us:List Value} (n:Nat),aS xs us→aS (xs.take n) (us.take n)
 | _,_,0,_=>.nil
 | _,_,_+1,.nil=>.nil
 | _,_,n+1,.cons r t=>.cons r (aS.take n t)
theorem aS.drop:∀ {xs:List V} {us:List Value} (n:Nat),aS xs us→aS (xs.drop n) (us.drop n)
 | _,_,0,r=>r
 | _,_,_+1,.nil=>.nil
 | _,_,n+1,.cons _ t=>aS.drop n t
noncomputable def jM:Option V→Option Value→Prop
 | some v,some u=>RelV v u
 | none,none=>True
 | _,_=>False
noncomputable def KV {κ:Type}:List (κ × V)→List (κ × Value)→Prop:=Paired fun (p:κ × V) (q:κ × Value)=>p.1=q.1∧RelV p.2 q.2
noncomputable def kV:Key→V
 | .inl i=>.int i
 | .inr x=>.str x
inductive HO where
 /-- a list -/
 | lst (xs:List V)
 /-- a tuple (never changes) -/
 | tup (xs:List V)
 /-- a dict whose keys are ints and texts; one whose keys are tuples of ints and texts (the empty one is both) -/
 | dK (kvs:List (Key × V))|dT (kvs:List (List Key × V))
 /-- a set of ints: its members,its size -/
 | set (S:Int→Bool) (n:Nat)
 /-- an instance of the class at C,its dict at dx,its attributes -/
 | ins (C dx:Addr) (fs:List (Str × V))
 /-- the dict of the instance at x -/
 | own (x:Addr)
 /-- the dict of an exception -/
 | xd (fs:List (Str × V))
 /-- a bound method,f of x -/
 | met (f x:Addr)
 /-- a range object lo,lo+1,.. below hi -/
 | rng (lo hi:Int)
 /-- a thing that is known to the object (the script; a dict while a loop walks it): read,never written while it is so -/
 | frz (o:Obj) (u:HO)
 /-- a code object's table -/
 | tbl (ps:Array Value)
 /-- any other thing,by what is true of its one object (a def of one's own: SetO a S n:=HO.ext fun h=>..) -/
 | ext (φ:Heap→Prop)
abbrev Hp:=Addr→Option HO
noncomputable def upd (H:Hp) (a:Addr) (o:HO):Hp:=fun b=>if b=a then some o else H b
theorem aJ {H:Hp} {a:Addr} {o:HO}:upd H a o a=some o:=by unfold upd; rw [if_pos rfl]
theorem aM {H:Hp} {a b:Addr} {o:HO} (h:b≠a):upd H a o b=H b:=by unfold upd; rw [if_neg h]
theorem aFx {H:Hp} {a b:Addr} {o u:HO} (h:H a=some o) (h':H b=some u) (d:o≠u):a≠b:=by
 intro e; subst e; rw [h] at h'; exact d (Option.some.inj h')
theorem bC {H:Hp} {a b:Addr} {o:HO} (h:H a=some o) (h':H b=none):a≠b:=by
 intro e; subst e; rw [h] at h'; cases h'
section
variable (P:Program)(w:World)
noncomputable def bU (H:Hp) (h:Heap) (a:Addr):HO→Prop
 | .lst xs=>xs.length≤sizeLine∧∃ (its:List Value) (n:Nat),aS xs its∧h.get? a=some { cls:=.type "list",data:=.seq its.toArray n }
 | .tup xs=>xs.length≤sizeLine∧∃ its:List Value,aS xs its∧IsTup h a its.toArray
 | .dK kvs=>kvs.length≤sizeLine∧(a == sysModules)=false∧∃ vs,KV kvs vs∧h.DictOf (cJ P w) a vs
 | .dT kvs=>kvs.length≤sizeLine∧(a == sysModules)=false∧∃ xs:List (List Key × Addr × Value),
   Paired (fun (p:List Key × V) (q:List Key × Addr × Value)=>p.1=q.1∧H q.2.1=some (.tup (p.1.map kV))∧RelV p.2 q.2.2) kvs xs ∧
   ∃ o es ep,h.get? a=some o∧o.ExactDict∧o.data=.dict es ep∧es.toList=xs.map (entryOfKey (tupleKind (cJ P w)))∧(xs.map (·.1)).Nodup
 | .set S n=>h.SetOf (intKind P w) a S n
 | .ins C dx fs=>H dx=some (.own a)∧fs.length≤1000∧dx≠a∧h.get? a=some (PySem.W.instObj C dx) ∧
   ∃ mA,h.Ns1 dx mA∧(∀ f,jM (fs.lookup f) (mA f))∧PySem.Within mA (fs.map (·.1))
 | .own _=>∃ o,h.get? a=some o
 | .xd fs=>∃ mA,h.Ns1 a mA∧∀ f,jM (fs.lookup f) (mA f)
 | .rng lo hi=>∃ t u v,h.get? a=some { cls:=.type "range",data:=.fields #[.int lo t,.int hi u,.int 1 v] }
 | .frz o u=>h.get? a=some o∧bU H h a u
 | .tbl ps=>h.get? a=some { cls:=.none,data:=.fields ps }
 | .met f x=>h.get? a=some (PySem.W.methodObj (.ref f) (.ref x))
 | .ext φ=>φ h∧(∃ o,h.get? a=some o)∧∀ h1 h2:Heap,φ h1→(∀ o,h1.get? a=some o→h2.get? a=some o)→φ h2
def HOk (H:Hp) (h:Heap):Prop:=∀ a o,H a=some o→bU P w H h a o
end
section
variable {P:Program}{w:World}{H H':Hp}{h h':Heap}{a:Addr}{o:HO}
theorem bU.lt (x:bU P w H h a o):a<h.objs.size:=by
 cases o with
 | lst xs=>obtain ⟨_,_,_,_,e⟩:=x; exact Heap.lt_size e
 | tup xs=>obtain ⟨_,_,_,p⟩:=x; exact p.lt
 | dK kvs=>obtain ⟨_,_,_,_,o,_,_,e,_⟩:=x; exact Heap.lt_size e
 | dT kvs=>obtain ⟨_,_,_,_,o,_,_,e,_⟩:=x; exact Heap.lt_size e
 | set S n=>obtain ⟨o,_,_,_,e,_⟩:=x; exact Heap.lt_size e
 | ins C dx fs=>obtain ⟨_,_,_,e,_⟩:=x; exact Heap.lt_size e
 | own y=>obtain ⟨_,e⟩:=x; exact Heap.lt_size e
 | xd fs=>obtain ⟨_,⟨_,_,_,e,_⟩,_⟩:=x; exact Heap.lt_size e
 | rng lo hi=>obtain ⟨_,_,_,e⟩:=x; exact Heap.lt_size e
 | frz ob u=>obtain ⟨e,_⟩:=x; exact Heap.lt_size e
 | tbl ps=>exact Heap.lt_size (show h.get? a=some _ from x)
 | met f y=>exact Heap.lt_size (show h.get? a=some _ from x)
 | ext φ=>obtain ⟨_,⟨_,e⟩,_⟩:=x; exact Heap.lt_size e
theorem Paired.mapP {α β:Type} {F G:α→β→Prop}:∀ {l₁:List α} {l₂:List β},Paired F l₁ l₂→(∀ a b,F a b→G a b)→Paired G l₁ l₂
 | _,_,.nil,_=>.nil
 | _,_,.cons r t,f=>.cons (f _ _ r) (Paired.mapP t f)
theorem bU.stay (x:bU P w H h a o) (k:∀ b u,(b=a∨H b=some (.own a))→h.get? b=some u→h'.get? b=some u)
  (ho:∀ b,H b=some (.own a)→H' b=some (.own a)) (ht:∀ b xs,H b=some (.tup xs)→H' b=some (.tup xs)):bU P w H' h' a o:=by
 induction o with
 | lst xs=>obtain ⟨z,its,n,r,e⟩:=x; exact ⟨z,its,n,r,k _ _ (.inl rfl) e⟩
 | tup xs=>obtain ⟨z,its,r,ob,e,c⟩:=x; exact ⟨z,its,r,ob,k _ _ (.inl rfl) e,c⟩
 | dK kvs=>obtain ⟨z,y,vs,r,ob,es,ep,e,c⟩:=x; exact ⟨z,y,vs,r,ob,es,ep,k _ _ (.inl rfl) e,c⟩
 | dT kvs =>
  obtain ⟨z,y,xs,r,ob,es,ep,e,c⟩:=x
  exact ⟨z,y,xs,Paired.mapP r fun p q z=>⟨z.1,ht _ _ z.2.1,z.2.2⟩,ob,es,ep,k _ _ (.inl rfl) e,c⟩
 | set S n=>obtain ⟨ob,es,ep,t,e,c⟩:=x; exact ⟨ob,es,ep,t,k _ _ (.inl rfl) e,c⟩
 | ins C dx fs =>
  obtain ⟨d,z,ne,e,mA,⟨od,es,ep,e2,c⟩,r⟩:=x
  exact ⟨ho _ d,z,ne,k _ _ (.inl rfl) e,mA,⟨od,es,ep,k _ _ (.inr d) e2,c⟩,r⟩
 | own y=>obtain ⟨ob,e⟩:=x; exact ⟨ob,k _ _ (.inl rfl) e⟩
 | xd fs=>obtain ⟨mA,⟨od,es,ep,e,c⟩,r⟩:=x; exact ⟨mA,⟨od,es,ep,k _ _ (.inl rfl) e,c⟩,r⟩
 | rng lo hi=>obtain ⟨t,u,v,e⟩:=x; exact ⟨t,u,v,k _ _ (.inl rfl) e⟩
 | frz ob u ih=>obtain ⟨e,q⟩:=x; exact ⟨k _ _ (.inl rfl) e,ih q⟩
 | tbl ps =>
  have e:h.get? a=some { cls:=.none,data:=.fields ps }:=x
  show h'.get? a=some { cls:=.none,data:=.fields ps }
  exact k a _ (.inl rfl) e
 | met f y =>
  have e:h.get? a=some (PySem.W.methodObj (.ref f) (.ref y)):=x
  show h'.get? a=some (PySem.W.methodObj (.ref f) (.ref y))
  exact k a _ (.inl rfl) e
 | ext φ=>obtain ⟨p,⟨o,e⟩,st⟩:=x; exact ⟨st _ _ p fun o q=>k _ _ (.inl rfl) q,⟨o,k _ _ (.inl rfl) e⟩,st⟩
theorem HOk.lt (x:HOk P w H h) (e:H a=some o):a<h.objs.size:=(x a o e).lt
theorem HOk.fresh (x:HOk P w H h) (e:h.objs.size≤a):H a=none:=by
 cases q:H a with
 | none=>rfl
 | some u=>exact absurd (Nat.lt_of_lt_of_le (x.lt q) e) (Nat.lt_irrefl _)
theorem HOk.kept (x:HOk P w H h) (k:∀ b u,h.get? b=some u→h'.get? b=some u):HOk P w H h':=fun a o e =>
 (x a o e).stay (fun b u _ q=>k b u q) (fun _ q=>q) fun _ _ q=>q
theorem HOk.laid (x:HOk P w H h) (k:∀ b u,h.get? b=some u→h'.get? b=some u) (hp:h.objs.size≤a) (new:bU P w (upd H a o) h' a o):HOk P w (upd H a o) h':=fun b u e=>by
 have hn:=x.fresh hp
 by_cases hb:b=a
 ·subst hb; rw [aJ] at e; cases e; exact new
 ·rw [aM hb] at e
  exact (x b u e).stay (fun c v _ q=>k c v q) (fun c q=>by rw [aM (bC q hn)]; exact q) fun c xs q=>by rw [aM (bC q hn)]; exact q
end
def Rd (H:Hp) (a:Addr) (u:HO):Prop:=H a=some u∨∃ o,H a=some (.frz o u)
theorem Rd.ok {P:Program} {w:World} {H:Hp} {h:Heap} {a:Addr} {u:HO} (r:Rd H a u) (x:HOk P w H h):bU P w H h a u:=by
 rcases r with r|⟨o,r⟩
 ·exact x a u r
 ·obtain ⟨_,q⟩:=x a _ r
  exact q
noncomputable def Mut:Option HO→Prop
 | some (.lst _)=>True
 | some (.dK _)=>True
 | some (.dT _)=>True
 | some (.set _ _)=>True
 | some (.ins _ _ _)=>True
 | some (.ext _)=>True
 | _=>False
section
variable {P:Program}{w:World}{H:Hp}{h h':Heap}{x e:Addr}{o':HO}
theorem HOk.write (ok:HOk P w H h) (mu:Mut (H x)) (he:e=x∨H e=some (.own x)) (k:∀ b u,b≠e→h.get? b=some u→h'.get? b=some u) (heo:∃ u,h'.get? e=some u)
  (new:bU P w (upd H x o') h' x o'):HOk P w (upd H x o') h':=fun b u q=>by
 have nown:∀ c y,H c=some (.own y)→c≠x:=fun c y r z=>by subst z; rw [r] at mu; exact mu
 have ntup:∀ c xs,H c=some (.tup xs)→c≠x:=fun c xs r z=>by subst z; rw [r] at mu; exact mu
 by_cases hb:b=x
 ·subst hb; rw [aJ] at q; cases q; exact new
 ·rw [aM hb] at q
  by_cases hbe:b=e
  ·have q':H b=some (.own x):=by
    rcases he with z|z
    ·exact absurd (hbe.trans z) hb
    ·rw [hbe]; exact z
   rw [q] at q'; cases q'
   obtain ⟨v,hv⟩:=heo
   exact ⟨v,by rw [hbe]; exact hv⟩
  ·refine (ok b u q).stay (fun c v hc r=>k c v ?_ r) (fun c r=>by rw [aM (nown c b r)]; exact r) fun c xs r=>by rw [aM (ntup c xs r)]; exact r
   rcases hc with rfl|hc
   ·exact hbe
   ·rintro rfl
    rcases he with z|z
    ·exact nown c b hc z
    ·rw [hc] at z; cases z; exact hb rfl
end
structure Un (fs ex:List Addr) (H H':Hp) (h h':Heap):Prop where
 keep:∀ b o,h.get? b=some o→H b=none→b ∉ fs→b ∉ ex→h'.get? b=some o
 slot:∀ b o,h.get? b=some o→H b=none→b ∈ fs→b ∉ ex→∃ sl,h'.get? b=some { o with slots:=sl }
 free:∀ b o,h.get? b=some o→H b=none→b ∉ ex→H' b=none
 there:∀ b o,h.get? b=some o→b ∉ ex→∃ o',h'.get? b=some o'
 tups:∀ b xs,H b=some (.tup xs)→H' b=some (.tup xs)
 frzs:∀ b o u,H b=some (.frz o u)→H' b=some (.frz o u)
 tbls:∀ b ps,H b=some (.tbl ps)→∃ more,H' b=some (.tbl (ps++more))
section
variable {fs fs' ex ex':List Addr}{H H1 H2:Hp}{h h1 h2 h':Heap}{a x e:Addr}{o:HO}
theorem Un.any (u:Un fs ex H H1 h h1) {b:Addr} {ob:Obj} (q:h.get? b=some ob) (n:H b=none) (hx:b ∉ ex):∃ sl,h1.get? b=some { ob with slots:=sl }:=by
 by_cases hb:b ∈ fs
 ·exact u.slot b ob q n hb hx
 ·exact ⟨ob.slots,u.keep b ob q n hb hx⟩
theorem Un.kept (k:∀ b u,h.get? b=some u→h'.get? b=some u):Un fs ex H H h h':=
 ⟨fun b ob q _ _ _=>k b ob q,fun b ob q _ _ _=>⟨ob.slots,k b ob q⟩,fun _ _ _ n _=>n,fun b ob q _=>⟨ob,k b ob q⟩,fun _ _ q=>q,fun _ _ _ q=>q,fun _ ps q=>⟨#[],by rw [q]; simp⟩⟩
theorem Un.refl:Un fs ex H H h h:=Un.kept fun _ _ q=>q
theorem Un.laid (k:∀ b u,h.get? b=some u→h'.get? b=some u) (hp:h.objs.size≤a) (hn:H a=none):Un fs ex H (upd H a o) h h' where
 keep:=fun b u q _ _ _=>k b u q
 slot:=fun b u q _ _ _=>⟨u.slots,k b u q⟩
 free:=fun b u q n _=>by rw [aM (Nat.ne_of_lt (Nat.lt_of_lt_of_le (Heap.lt_size q) hp))]; exact n
 there:=fun b u q _=>⟨u,k b u q⟩
 tups:=fun b xs q=>by rw [aM (bC q hn)]; exact q
 frzs:=fun b u xs q=>by rw [aM (bC q hn)]; exact q
 tbls:=fun b ps q=>⟨#[],by rw [aM (bC q hn),q]; simp⟩
theorem Un.write (mu:Mut (H x)) (he:e=x∨H e=some (.own x)) (k:∀ b u,b≠e→h.get? b=some u→h'.get? b=some u) (heo:∃ u,h'.get? e=some u):Un fs ex H (upd H x o) h h':=by
 have hx:∀ b,H b=none→b≠x:=fun b n z=>by subst z; rw [n] at mu; exact mu
 have hb:∀ b,H b=none→b≠e:=fun b n z=>by
  subst z
  rcases he with r|r
  ·exact hx b n r
  ·rw [n] at r; cases r
 have hm:∀ b u,H b=some u→¬ Mut (some u)→b≠x:=fun b u q nm z=>by subst z; rw [q] at mu; exact nm mu
 refine ⟨fun b u q n _ _=>k b u (hb b n) q,fun b u q n _ _=>⟨u.slots,k b u (hb b n) q⟩,fun b u q n _=>by rw [aM (hx b n)]; exact n,fun b u q _=>?_,
  fun b xs q=>by rw [aM (hm b _ q fun z=>z)]; exact q,fun b u xs q=>by rw [aM (hm b _ q fun z=>z)]; exact q,fun b ps q=>⟨#[],by rw [aM (hm b _ q fun z=>z),q]; simp⟩⟩
 by_cases hbe:b=e
 ·subst hbe; exact heo
 ·exact ⟨u,k b u hbe q⟩
end
noncomputable def trk (h:Heap) (H:Hp):List Addr:=(List.range h.objs.size).filter fun a=>(H a).isSome
noncomputable def sJ (h:Heap) (H:Hp):Heap:=PySem.W.hideAll h (trk h H)
theorem EY (h:Heap) (H:Hp):(sJ h H).objs.size=h.objs.size:=PySem.W.hideAll_size _ _
theorem JQ {h:Heap} {H:Hp} {b:Addr} {o:Obj} (e:h.get? b=some o) (n:H b=none):(sJ h H).get? b=some o:=
 PySem.W.hideAll_get _ e fun hm=>by
  have q:(H b).isSome=true:=(List.mem_filter.mp hm).2
  rw [n] at q; simp at q
theorem QJ {h:Heap} {H:Hp} {b:Addr} {o:Obj} (e:(sJ h H).get? b=some o):h.get? b=some o∧H b=none:=by
 have e':h.get? b=some o:=PySem.W.of_hideAll (trk h H) e
 refine ⟨e',?_⟩
 cases q:H b with
 | none=>rfl
 | some x =>
  have hm:b ∈ trk h H:=List.mem_filter.mpr ⟨List.mem_range.mpr (Heap.lt_size e'),by simp [q]⟩
  have z:(sJ h H).get? b=none:=PySem.W.hideAll_none (trk h H) hm
  rw [z] at e; cases e
noncomputable def SL (g h:Heap) (L:Addr):List (Addr × Obj):=(List.range h.objs.size).filterMap fun a=>if a=L∨(g.get? a).isSome=true then none else (h.get? a).map fun o=>(a,o)
noncomputable def rest (g h:Heap) (L d:Addr):List (Addr × Obj):=(SL g h L).filter fun p=>decide (p.1≠d)
end L2
namespace L2
open PySem PySem.Spec PyProof.Rows
structure Mod (K:PySem.W.Frag) (mg:Str→Option Value) (base:Heap):Prop where
 kin:K.In base
 glob:base.Ns mainGlobals mg
 blt:∃ mb,base.Ns builtinsNs mb∧∀ x:Str,x≠"__name__"→mb x=bootBuiltins x
 nolimit:base.NoLimit
structure Cx where
 prog:Program
 w:World
 K:PySem.W.Frag
 mg:Str→Option Value
 base:Heap
 A:Around
 N:List Str
 s₀:Shared
 H₀:Hp
 env:Env
 outer:List Env
 stack:List Env
 ex:List Addr
 fn:Str→Bool
 calm:Bool
 pn:List (Addr × Obj)
 xe:Value→Shared→Prop
noncomputable def frs (l:List Env):List Addr:=l.filterMap (·.frame)
abbrev Cx.fs (X:Cx):List Addr:=frs X.outer
def Vis (sc:Scope) (x:Str):Prop:=sc.names.lookup x=some .local∨sc.names.lookup x=some .cell∨sc.names.lookup x=some .free
def Loc (sc:Scope) (x:Str):Prop:=sc.names.lookup x=some .local∨sc.names.lookup x=some .cell
def Look (env:Env) (h:Heap) (m:Str→Option Value) (x:Str) (u:Value):Prop:=
 (env.kindOf x=some .local∧m x=some u)∨((env.kindOf x=some .cell∨env.kindOf x=some .free)∧∃ c,env.cells.lookup x=some c∧h.IsCell c (some u))
structure Cx.Ok (X:Cx):Prop where
 mod:Mod X.K X.mg X.base
 kind:X.env.scope.kind=.function
 glob:X.env.globals=mainGlobals
 blt:X.env.builtins=builtinsNs
 above:X.s₀.heap.objs.size≤X.env.locals
 inj:∀ x y c,X.env.cells.lookup x=some c→X.env.cells.lookup y=some c→x=y
 has:∀ x,(X.env.kindOf x=some .cell∨X.env.kindOf x=some .free)→∃ c,X.env.cells.lookup x=some c
 cab:∀ x c,X.fn x=true→X.env.cells.lookup x=some c→X.s₀.heap.objs.size≤c
 hd:X.calm=true→X.A.handled=none
 frames:X.A.frames=some X.stack
 stk:X.stack=X.outer∨(X.stack=X.env::X.outer∧X.env.frame=some X.env.locals)
 exf:∀ b ∈ X.ex,b≠X.env.locals∧∀ x c,X.env.cells.lookup x=some c→c≠b
 bs:∀ b o,X.base.get? b=some o→X.s₀.heap.get? b=some o∧X.H₀ b=none
 bsz:X.base.objs.size≤X.s₀.heap.objs.size
 noex:∀ b o,X.base.get? b=some o→b ∉ X.ex
 exfs:∀ b ∈ X.ex,b ∉ X.fs
 funs:X.s₀.heap.FunFrames X.base X.outer
 frf:∀ b ∈ X.fs,X.H₀ b=none
structure Inv (X:Cx) (pins:List (Addr × Obj)) (σ:List (Option V)) (H:Hp) (s:Shared):Prop where
 ok:X.Ok
 os:s.os=X.s₀.os
 bare:AllBare s.gens
 base:Un X.fs X.ex X.H₀ H X.s₀.heap s.heap
 loc:∃ m,s.heap.Ns X.env.locals m∧∀ (i:Nat) (x:Str) (v:V),X.N[i]?=some x→σ[i]?=some (some v)→Vis X.env.scope x→∃ u,RelV v u∧Look X.env s.heap m x u
 cell:∀ x c,X.env.cells.lookup x=some c→∃ v,s.heap.IsCell c v
 free:H X.env.locals=none
 freeC:∀ x c,X.env.cells.lookup x=some c→H c=none
 pin:∀ p ∈ X.pn++pins,s.heap.get? p.1=some p.2∧H p.1=none∧p.1≠X.env.locals∧p.1 ∉ X.fs∧∀ v,p.2.data≠.cell v
 hok:HOk X.prog X.w H s.heap
 len:σ.length=X.N.length
section
variable {X:Cx}{pins:List (Addr × Obj)}{σ:List (Option V)}{H H':Hp}{s:Shared}{h':Heap}
theorem Cx.Ok.nofr (ok:X.Ok) {b:Addr} {o:Obj} (e:X.base.get? b=some o):b ∉ X.fs:=fun hb=>by
 have:=(ok.funs.mem hb).1
 rw [e] at this; cases this
theorem Inv.bs (I:Inv X pins σ H s):∀ b o,X.base.get? b=some o→s.heap.get? b=some o∧H b=none:=fun b o e =>
 ⟨I.base.keep b o (I.ok.bs b o e).1 (I.ok.bs b o e).2 (I.ok.nofr e) (I.ok.noex b o e),I.base.free b o (I.ok.bs b o e).1 (I.ok.bs b o e).2 (I.ok.noex b o e)⟩
theorem Inv.bk (I:Inv X pins σ H s):∀ b o,X.base.get? b=some o→s.heap.get? b=some o:=fun b o e=>(I.bs b o e).1
theorem Inv.mod (I:Inv X pins σ H s):Mod X.K X.mg X.base:=I.ok.mod
theorem Inv.kIn (I:Inv X pins σ H s):X.K.In s.heap:=I.ok.mod.kin.keeps I.bk
theorem Inv.lt (I:Inv X pins σ H s):X.env.locals<s.heap.objs.size:=let ⟨_,hn,_⟩:=I.loc; hn.lt
theorem Inv.sz (I:Inv X pins σ H s):X.s₀.heap.objs.size≤s.heap.objs.size:=Nat.le_trans I.ok.above (Nat.le_of_lt I.lt)
theorem Inv.nofs (I:Inv X pins σ H s) {a:Addr} (h:s.heap.objs.size≤a):a ∉ X.fs:=fun hb=>by
 obtain ⟨_,o,ho,_⟩:=I.ok.funs.mem hb
 exact absurd (Nat.lt_of_lt_of_le (Heap.lt_size ho) (Nat.le_trans I.sz h)) (Nat.lt_irrefl _)
theorem Inv.cne (I:Inv X pins σ H s):∀ x c,X.env.cells.lookup x=some c→c≠X.env.locals:=fun x c e z=>by
 obtain ⟨v,o,ho,hd⟩:=I.cell x c e
 obtain ⟨m,⟨o',es,ep,ho',hd',_⟩,_⟩:=I.loc
 rw [z,ho'] at ho; cases ho; rw [hd'] at hd; cases hd
theorem Inv.funs (I:Inv X pins σ H s):s.heap.FunFrames X.base X.outer:=by
 have all:∀ (l:List Env),(∀ b ∈ frs l,b ∈ X.fs)→X.s₀.heap.FunFrames X.base l→s.heap.FunFrames X.base l:=by
  intro l
  induction l with
  | nil=>intro _ _; trivial
  | cons env r ih =>
   intro hs hl
   obtain ⟨hk,⟨L,o,hf,hn,ho,hd⟩,hr⟩:=hl
   have hL:L ∈ X.fs:=hs L (by unfold frs; rw [List.filterMap_cons,hf]; exact List.mem_cons_self)
   obtain ⟨sl,e⟩:=I.base.slot L o ho (I.ok.frf L hL) hL fun z=>I.ok.exfs L z hL
   exact ⟨hk,⟨L,_,hf,hn,e,hd⟩,ih (fun b hb=>hs b (by unfold frs; rw [List.filterMap_cons,hf]; exact List.mem_cons_of_mem _ hb)) hr⟩
 exact all X.outer (fun _ hb=>hb) I.ok.funs
theorem Inv.stack (I:Inv X pins σ H s):s.heap.FunFrames X.base X.stack:=by
 rcases I.ok.stk with e|⟨e,hf⟩
 ·rw [e]; exact I.funs
 ·rw [e]
  obtain ⟨m,hn,_⟩:=I.loc
  refine .cons (by rw [I.ok.kind]; decide) hf hn ?_ I.funs
  exact Heap.get?_none_of_le (Nat.le_trans I.ok.bsz I.ok.above)
theorem Inv.stkSub (I:Inv X pins σ H s):∀ b ∈ frs X.stack,b ∈ X.env.locals::X.fs:=fun b hb=>by
 rcases I.ok.stk with e|⟨e,hf⟩
 ·rw [e] at hb; exact List.mem_cons_of_mem _ hb
 ·rw [e] at hb
  unfold frs at hb
  rw [List.filterMap_cons,hf] at hb
  exact hb
theorem Inv.stkFree (I:Inv X pins σ H s):∀ b ∈ frs X.stack,H b=none:=fun b hb=>by
 rcases List.mem_cons.mp (I.stkSub b hb) with e|hb
 ·rw [e]; exact I.free
 ·obtain ⟨_,o,ho,_⟩:=I.ok.funs.mem hb
  exact I.base.free b o ho (I.ok.frf b hb) fun z=>I.ok.exfs b z hb
theorem Inv.step {g':Array GenState} {t':Nat} {d':Drawn} {ch:List Addr} (I:Inv X pins σ H s)
  (hch:∀ b ∈ ch,(b ∈ X.ex∨X.s₀.heap.objs.size≤b)∧b≠X.env.locals∧(∀ x c,X.env.cells.lookup x=some c→c≠b)∧∀ p ∈ X.pn++pins,p.1≠b)
  (keep:∀ b o,b≠X.env.locals→b ∉ X.fs→b ∉ ch→s.heap.get? b=some o→H b=none→h'.get? b=some o)
  (slot:∀ b o,b≠X.env.locals→b ∈ X.fs→b ∉ ch→s.heap.get? b=some o→H b=none→∃ sl,h'.get? b=some { o with slots:=sl }) (free:∀ b o,b ∉ ch→s.heap.get? b=some o→H b=none→H' b=none)
  (there:∀ b o,b ∉ ch→s.heap.get? b=some o→∃ o',h'.get? b=some o')
  (tups:∀ b xs,H b=some (.tup xs)→H' b=some (.tup xs)) (frzs:∀ b o u,H b=some (.frz o u)→H' b=some (.frz o u)) (tbls:∀ b ps,H b=some (.tbl ps)→∃ more,H' b=some (.tbl (ps++more)))
  (ns:∀ m,s.heap.Ns X.env.locals m→h'.Ns X.env.locals m) (hok:HOk X.prog X.w H' h') (hg:AllBare g') :
  Inv X pins σ H' { s with heap:=h',gens:=g',drawn:=d',toks:=t' }:=by
 have neL:∀ b o,X.s₀.heap.get? b=some o→b≠X.env.locals:=fun b o e=>Nat.ne_of_lt (Nat.lt_of_lt_of_le (Heap.lt_size e) I.ok.above)
 have neC:∀ b o,X.s₀.heap.get? b=some o→b ∉ X.ex→b ∉ ch:=fun b o e hx hb=>by
  rcases (hch b hb).1 with z|z
  ·exact hx z
  ·exact absurd (Nat.lt_of_lt_of_le (Heap.lt_size e) z) (Nat.lt_irrefl _)
 have cellK:∀ x c,X.env.cells.lookup x=some c→∀ v,s.heap.IsCell c v→h'.IsCell c v:=fun x c e v ⟨o,ho,hd⟩=>by
  have nch:c ∉ ch:=fun z=>(hch c z).2.2.1 x c e rfl
  by_cases hc:c ∈ X.fs
  ·obtain ⟨sl,q⟩:=slot c o (I.cne x c e) hc nch ho (I.freeC x c e)
   exact ⟨_,q,hd⟩
  ·exact ⟨o,keep c o (I.cne x c e) hc nch ho (I.freeC x c e),hd⟩
 refine ⟨I.ok,I.os,hg,⟨fun b o e n hb hx=>?_,fun b o e n hb hx=>?_,fun b o e n hx=>?_,fun b o e hx=>?_,fun b xs e=>tups b xs (I.base.tups b xs e),fun b o xs e=>frzs b o xs (I.base.frzs b o xs e),fun b ps e=>?_⟩,?_,fun x c e=>?_,?_,fun x c e=>?_,fun p hp=>?_,hok,I.len⟩
 ·exact keep b o (neL b o e) hb (neC b o e hx) (I.base.keep b o e n hb hx) (I.base.free b o e n hx)
 ·obtain ⟨sl,e1⟩:=I.base.slot b o e n hb hx
  obtain ⟨sl',e2⟩:=slot b _ (neL b o e) hb (neC b o e hx) e1 (I.base.free b o e n hx)
  exact ⟨sl',e2⟩
 ·obtain ⟨o',e1⟩:=I.base.there b o e hx
  exact free b o' (neC b o e hx) e1 (I.base.free b o e n hx)
 ·obtain ⟨o',e1⟩:=I.base.there b o e hx
  exact there b o' (neC b o e hx) e1
 ·obtain ⟨m1,e1⟩:=I.base.tbls b ps e
  obtain ⟨m2,e2⟩:=tbls b _ e1
  exact ⟨m1++m2,by rw [e2,Array.append_assoc]⟩
 ·obtain ⟨m,hn,hl⟩:=I.loc
  refine ⟨m,ns m hn,fun i x v e1 e2 e3=>?_⟩
  obtain ⟨u,r,l⟩:=hl i x v e1 e2 e3
  refine ⟨u,r,?_⟩
  rcases l with l|⟨k,c,e,z⟩
  ·exact .inl l
  ·exact .inr ⟨k,c,e,cellK x c e _ z⟩
 ·obtain ⟨v,z⟩:=I.cell x c e
  exact ⟨v,cellK x c e v z⟩
 ·obtain ⟨m,⟨o,_,_,ho,_⟩,_⟩:=I.loc
  exact free _ o (fun z=>(hch _ z).2.1 rfl) ho I.free
 ·obtain ⟨v,o,ho,hd⟩:=I.cell x c e
  exact free c o (fun z=>(hch c z).2.2.1 x c e rfl) ho (I.freeC x c e)
 ·obtain ⟨e,n,ne,nf,d⟩:=I.pin p hp
  have nch:p.1 ∉ ch:=fun z=>(hch p.1 z).2.2.2 p hp rfl
  exact ⟨keep p.1 p.2 ne nf nch e n,free p.1 p.2 nch e n,ne,nf,d⟩
theorem Inv.un {t':Nat} (I:Inv X pins σ H s) (u:Un X.fs [] H H' s.heap h') (hok:HOk X.prog X.w H' h'):Inv X pins σ H' { s with heap:=h',toks:=t' }:=by
 obtain ⟨m,⟨o,es,ep,ho,r⟩,_⟩:=id I.loc
 obtain ⟨sl,hL⟩:=u.any ho I.free (by simp)
 exact I.step (g':=s.gens) (d':=s.drawn) (ch:=[]) (fun _ z=>nomatch z) (fun b o _ hb _ e n=>u.keep b o e n hb (by simp)) (fun b o _ hb _ e n=>u.slot b o e n hb (by simp)) (fun b o _ e n=>u.free b o e n (by simp)) (fun b o _ e=>u.there b o e (by simp)) u.tups u.frzs u.tbls (fun m' hm=>by
  obtain ⟨o',es',ep',ho',r'⟩:=hm
  rw [ho] at ho'; cases ho'
  exact ⟨_,es',ep',hL,r'⟩) hok I.bare
theorem Inv.call {g':Array GenState} {t':Nat} {d':Drawn} {ch:List Addr} (I:Inv X pins σ H s) (u:Un (frs X.stack) ch H H' s.heap h') (hok:HOk X.prog X.w H' h') (hg:AllBare g')
  (hch:∀ b ∈ ch,(b ∈ X.ex∨X.s₀.heap.objs.size≤b)∧b≠X.env.locals∧(∀ x c,X.env.cells.lookup x=some c→c≠b)∧∀ p ∈ X.pn++pins,p.1≠b) :
  Inv X pins σ H' { s with heap:=h',gens:=g',drawn:=d',toks:=t' }:=by
 obtain ⟨m,⟨o,es,ep,ho,r⟩,_⟩:=id I.loc
 obtain ⟨sl,hL⟩:=u.any ho I.free fun z=>(hch _ z).2.1 rfl
 exact I.step (ch:=ch) hch (fun b o hL hb hc e n=>u.keep b o e n (fun z=>(List.mem_cons.mp (I.stkSub b z)).elim hL hb) hc) (fun b o _ _ hc e n=>u.any e n hc) (fun b o hc e n=>u.free b o e n hc) (fun b o hc e=>u.there b o e hc) u.tups u.frzs u.tbls (fun m' hm=>by
  obtain ⟨o',es',ep',ho',r'⟩:=hm
  rw [ho] at ho'; cases ho'
  exact ⟨_,es',ep',hL,r'⟩) hok hg
theorem Inv.turned {t':Nat} {it:Addr} (I:Inv X pins σ H s) (k:∀ b o,b≠it→s.heap.get? b=some o→h'.get? b=some o) (hn:H it=none) (hL:it≠X.env.locals)
  (h1:it ∈ X.ex∨X.s₀.heap.objs.size≤it) (h2:∀ x c,X.env.cells.lookup x=some c→c≠it) (h3:∀ p ∈ X.pn++pins,p.1≠it):Inv X pins σ H { s with heap:=h',toks:=t' }:=by
 have nit:∀ b u,H b=some u→b≠it:=fun b u e z=>by rw [z,hn] at e; cases e
 refine I.step (g':=s.gens) (d':=s.drawn) (ch:=[it]) (fun b hb=>?_) (fun b o _ _ hc e _=>k b o (fun z=>hc (by simp [z])) e) (fun b o _ _ hc e _=>⟨o.slots,k b o (fun z=>hc (by simp [z])) e⟩) (fun _ _ _ _ n=>n)
  (fun b o hc e=>⟨o,k b o (fun z=>hc (by simp [z])) e⟩) (fun _ _ e=>e) (fun _ _ _ e=>e) (fun b ps e=>⟨#[],by rw [e]; simp⟩) (fun m hm=>?_) (fun b u e=>?_) I.bare
 ·have e:b=it:=by simpa using hb
  subst e
  exact ⟨h1,hL,h2,h3⟩
 ·obtain ⟨o,es,ep,ho,r⟩:=hm
  exact ⟨o,es,ep,k _ o (Ne.symm hL) ho,r⟩
 ·refine (I.hok b u e).stay (fun c v hc q=>k c v ?_ q) (fun _ q=>q) fun _ _ q=>q
  rcases hc with z|z
  ·rw [z]; exact nit b u e
  ·exact nit c _ z
theorem Inv.tok (I:Inv X pins σ H s) (t:Nat):Inv X pins σ H { s with toks:=t }:=I.un (h':=s.heap) (t':=t) Un.refl I.hok
theorem Inv.kept {t':Nat} (I:Inv X pins σ H s) (k:∀ b u,s.heap.get? b=some u→h'.get? b=some u):Inv X pins σ H { s with heap:=h',toks:=t' }:=I.un (Un.kept k) (I.hok.kept k)
theorem Inv.laid {a:Addr} {o:HO} {t':Nat} (I:Inv X pins σ H s) (k:∀ b u,s.heap.get? b=some u→h'.get? b=some u) (hp:s.heap.objs.size≤a) (new:bU X.prog X.w (upd H a o) h' a o) :
  Inv X pins σ (upd H a o) { s with heap:=h',toks:=t' }:=I.un (Un.laid k hp (I.hok.fresh hp)) (I.hok.laid k hp new)
theorem Inv.write {x e:Addr} {o:HO} {t':Nat} (I:Inv X pins σ H s) (mu:Mut (H x)) (he:e=x∨H e=some (.own x)) (k:∀ b u,b≠e→s.heap.get? b=some u→h'.get? b=some u) (heo:∃ u,h'.get? e=some u)
  (new:bU X.prog X.w (upd H x o) h' x o):Inv X pins σ (upd H x o) { s with heap:=h',toks:=t' }:=I.un (Un.write mu he k heo) (I.hok.write mu he k heo new)
theorem Inv.pins_of {pins':List (Addr × Obj)} (I:Inv X pins σ H s) (h:∀ p ∈ pins',s.heap.get? p.1=some p.2∧H p.1=none∧p.1≠X.env.locals∧p.1 ∉ X.fs∧∀ v,p.2.data≠.cell v):Inv X pins' σ H s:=
 ⟨I.ok,I.os,I.bare,I.base,I.loc,I.cell,I.free,I.freeC,fun p hp=>(List.mem_append.mp hp).elim (fun z=>I.pin p (List.mem_append_left _ z)) (h p),I.hok,I.len⟩
theorem vJ {N:List Str} (hN:N.Nodup) {i j:Nat} {x:Str} (a:N[i]?=some x) (b:N[j]?=some x):i=j:=by
 obtain ⟨h1,e1⟩:=List.getElem?_eq_some_iff.mp a
 obtain ⟨h2,e2⟩:=List.getElem?_eq_some_iff.mp b
 exact (List.getElem_inj hN).mp (e1.trans e2.symm)
theorem pQ {M:Model} {A:Around} {E:Value→Shared→Prop} {i:Nat} {x:Str} {v:V} {u:Value} {Q:Unit→Shared→Prop} (I:Inv X pins σ H s) (hN:X.N.Nodup) (hi:X.N[i]?=some x) (hx:Loc X.env.scope x) (r:RelV v u)
  (h:∀ s',Inv X pins (σ.set i (some v)) H s'→(∃ a,Heap.SameBut a s.heap s'.heap∧(a=X.env.locals∨X.env.cells.lookup x=some a))→Q () s') (hf:X.fn x=true∨X.env.scope.names.lookup x=some .local:=by first|exact .inl rfl|exact .inr rfl|assumption):wpAny M A (storeName X.env x u) Q E s:=by
 obtain ⟨m,hn,hl⟩:=id I.loc
 have hcls:(X.env.scope.kind == .class || (X.env.scope.kind == .module&&X.env.locals != X.env.globals))=false:=by rw [I.ok.kind]; rfl
 have hiσ:i<σ.length:=by rw [I.len]; exact (List.getElem?_eq_some_iff.mp hi).1
 have cne:=I.cne
 have tracked:∀ {a:Addr} {h':Heap},(∃ o,s.heap.get? a=some o∧H a=none)→Heap.SameBut a s.heap h'→HOk X.prog X.w H h':=fun {a h'} ha hs b ob e=>by
  obtain ⟨_,_,hfree⟩:=ha
  refine (I.hok b ob e).stay (fun c w' hc q=>(hs.2 c ?_).trans q) (fun _ q=>q) fun _ _ q=>q
  rintro rfl
  rcases hc with rfl|hc
  ·rw [hfree] at e; cases e
  ·rw [hfree] at hc; cases hc
 rcases hx with hk|hk
 ·refine wpAny_storeName_local hk hn (fun h' hn' hs=>?_) hcls
  obtain ⟨oL,_,_,hoL,_⟩:=id hn
  refine h _ ⟨I.ok,I.os,I.bare,⟨fun b o e n hb hx=>?_,fun b o e n hb hx=>?_,I.base.free,fun b o e hx=>?_,I.base.tups,I.base.frzs,I.base.tbls⟩,⟨_,hn',fun j y v' e1 e2 e3=>?_⟩,fun y c e=>?_,I.free,I.freeC,fun p hp=>?_,tracked ⟨oL,hoL,I.free⟩ hs,by simpa using I.len⟩ ⟨_,hs,.inl rfl⟩
  ·exact (hs.2 b (Nat.ne_of_lt (Nat.lt_of_lt_of_le (Heap.lt_size e) I.ok.above))).trans (I.base.keep b o e n hb hx)
  ·obtain ⟨sl,e1⟩:=I.base.slot b o e n hb hx
   exact ⟨sl,(hs.2 b (Nat.ne_of_lt (Nat.lt_of_lt_of_le (Heap.lt_size e) I.ok.above))).trans e1⟩
  ·obtain ⟨o',e1⟩:=I.base.there b o e hx
   exact ⟨o',(hs.2 b (Nat.ne_of_lt (Nat.lt_of_lt_of_le (Heap.lt_size e) I.ok.above))).trans e1⟩
  ·by_cases hj:j=i
   ·subst hj
    rw [hi] at e1; cases e1
    rw [List.getElem?_set_self hiσ] at e2
    cases e2
    exact ⟨u,r,.inl ⟨hk,by simp⟩⟩
   ·rw [List.getElem?_set_ne (Ne.symm hj)] at e2
    obtain ⟨u',r',q⟩:=hl j y v' e1 e2 e3
    refine ⟨u',r',?_⟩
    rcases q with ⟨k,e⟩|⟨k,c,e,z⟩
    ·refine .inl ⟨k,?_⟩
     have:y≠x:=fun e=>hj (vJ hN e1 (e ▸ hi))
     simp [this,e]
    ·exact .inr ⟨k,c,e,z.sameBut hs (cne y c e)⟩
  ·obtain ⟨w',z⟩:=I.cell y c e
   exact ⟨w',z.sameBut hs (cne y c e)⟩
  ·obtain ⟨e,n,ne,nf,d⟩:=I.pin p hp
   exact ⟨(hs.2 p.1 ne).trans e,n,ne,nf,d⟩
 ·have hfn:X.fn x=true:=by
   rcases hf with z|z
   ·exact z
   ·rw [z] at hk; cases hk
  obtain ⟨c,hc⟩:=I.ok.has x (.inl hk)
  obtain ⟨w',z⟩:=I.cell x c hc
  refine wpAny_storeName_cell I.ok.kind hk hc z (fun h' hc' hs=>?_)
  obtain ⟨oc,hoc,hocd⟩:=id z
  refine h { s with heap:=h' } ⟨I.ok,I.os,I.bare,⟨fun b o e n hb hx=>?_,fun b o e n hb hx=>?_,I.base.free,fun b o e hx=>?_,I.base.tups,I.base.frzs,I.base.tbls⟩,⟨m,hn.sameBut hs (Ne.symm (cne x c hc)),fun j y v' e1 e2 e3=>?_⟩,fun y c' e=>?_,I.free,I.freeC,fun p hp=>?_,tracked ⟨oc,hoc,I.freeC x c hc⟩ hs,by simpa using I.len⟩ ⟨c,hs,.inr hc⟩
  ·exact (hs.2 b (Nat.ne_of_lt (Nat.lt_of_lt_of_le (Heap.lt_size e) (I.ok.cab x c hfn hc)))).trans (I.base.keep b o e n hb hx)
  ·obtain ⟨sl,e1⟩:=I.base.slot b o e n hb hx
   exact ⟨sl,(hs.2 b (Nat.ne_of_lt (Nat.lt_of_lt_of_le (Heap.lt_size e) (I.ok.cab x c hfn hc)))).trans e1⟩
  ·obtain ⟨o',e1⟩:=I.base.there b o e hx
   exact ⟨o',(hs.2 b (Nat.ne_of_lt (Nat.lt_of_lt_of_le (Heap.lt_size e) (I.ok.cab x c hfn hc)))).trans e1⟩
  ·by_cases hj:j=i
   ·subst hj
    rw [hi] at e1; cases e1
    rw [List.getElem?_set_self hiσ] at e2
    cases e2
    exact ⟨u,r,.inr ⟨.inl hk,c,hc,hc'⟩⟩
   ·rw [List.getElem?_set_ne (Ne.symm hj)] at e2
    obtain ⟨u',r',q⟩:=hl j y v' e1 e2 e3
    refine ⟨u',r',?_⟩
    rcases q with q|⟨k,c',e,z'⟩
    ·exact .inl q
    ·refine .inr ⟨k,c',e,z'.sameBut hs ?_⟩
     rintro rfl
     exact hj (vJ hN e1 (I.ok.inj _ _ _ e hc ▸ hi))
  ·by_cases hcc:c'=c
   ·subst hcc; exact ⟨_,hc'⟩
   ·obtain ⟨w2,z2⟩:=I.cell y c' e
    exact ⟨w2,z2.sameBut hs hcc⟩
  ·obtain ⟨e,n,ne,nf,d⟩:=I.pin p hp
   refine ⟨(hs.2 p.1 ?_).trans e,n,ne,nf,d⟩
   intro q
   rw [q,hoc] at e
   have q':oc=p.2:=Option.some.inj e
   exact d w' (by rw [← q']; exact hocd)
theorem nL {M:Model} {A:Around} {E:Value→Shared→Prop} {i:Nat} {x:Str} {v:V} {u:Value} {Q:Unit→Shared→Prop} (I:Inv X pins σ H s) (hN:X.N.Nodup) (hi:X.N[i]?=some x) (hx:Loc X.env.scope x) (r:RelV v u)
  (h:∀ s',Inv X pins (σ.set i (some v)) H s'→Q () s') (hf:X.fn x=true∨X.env.scope.names.lookup x=some .local:=by first|exact .inl rfl|exact .inr rfl|assumption):wpAny M A (storeName X.env x u) Q E s:=
 pQ I hN hi hx r (fun s' I' _=>h s' I') hf
theorem Inv.call' {s':Shared} {ch:List Addr} (I:Inv X pins σ H s) (ho:s'.os=s.os) (u:Un (frs X.stack) ch H H' s.heap s'.heap) (hok:HOk X.prog X.w H' s'.heap) (hg:AllBare s'.gens)
  (hch:∀ b ∈ ch,(b ∈ X.ex∨X.s₀.heap.objs.size≤b)∧b≠X.env.locals∧(∀ x c,X.env.cells.lookup x=some c→c≠b)∧∀ p ∈ X.pn++pins,p.1≠b):Inv X pins σ H' s':=by
 obtain ⟨h',g',d',t',o'⟩:=s'
 have e:o'=s.os:=ho
 subst e
 exact I.call (g':=g') (t':=t') (d':=d') u hok hg hch
end
abbrev XK:=Value→Option Addr→Hp→Prop
abbrev St:=List (Option V)
abbrev VK:=V→Hp→Prop
abbrev TE:=St→Hp→VK→Prop
abbrev TT:=St→Hp→(Bool→Hp→Prop)→Prop
abbrev TA:=St→Hp→(List V→Hp→Prop)→Prop
structure Ends where
 nx:St→Hp→Prop
 rt:VK
 bk:St→Hp→Prop:=fun _ _=>False
 ct:St→Hp→Prop:=fun _ _=>False
abbrev TS:=Ends→St→Hp→Prop
def EP (X:Cx) (pins:List (Addr × Obj)) (σ:St) (Q:VK) (u:Value) (s':Shared):Prop:=∃ v H',Inv X pins σ H' s'∧RelV v u∧Q v H'
def TP (X:Cx) (pins:List (Addr × Obj)) (σ:St) (Q:Bool→Hp→Prop) (b:Bool) (s':Shared):Prop:=∃ H',Inv X pins σ H' s'∧Q b H'
def AP (X:Cx) (pins:List (Addr × Obj)) (σ:St) (Q:List V→Hp→Prop) (us:List Value) (s':Shared):Prop:=∃ vs H',Inv X pins σ H' s'∧aS vs us∧Q vs H'
def SP (X:Cx) (pins:List (Addr × Obj)) (D:Ends) (f:Flow) (s':Shared):Prop:=
 match f with
 | .next=>∃ σ' H',Inv X pins σ' H' s'∧D.nx σ' H'
 | .brk=>∃ σ' H',Inv X pins σ' H' s'∧D.bk σ' H'
 | .cont=>∃ σ' H',Inv X pins σ' H' s'∧D.ct σ' H'
 | .ret u=>∃ v σ' H',Inv X pins σ' H' s'∧RelV v u∧D.rt v H'
def PE (X:Cx) (e:Expr) (t:TE):Prop:=
 ∀ (pins:List (Addr × Obj)) (s:Shared) (σ:St) (H:Hp) (Q:VK),Inv X pins σ H s→t σ H Q→wpAny (model X.prog X.w) X.A (eval e X.env) (EP X pins σ Q) X.xe s
def PT (X:Cx) (e:Expr) (t:TT):Prop:=
 ∀ (pins:List (Addr × Obj)) (s:Shared) (σ:St) (H:Hp) (Q:Bool→Hp→Prop),Inv X pins σ H s→t σ H Q→wpAny (model X.prog X.w) X.A (isTrue e X.env (eval e X.env)) (TP X pins σ Q) X.xe s
def PW (X:Cx) (e:Expr) (t:TT):Prop:=
 ∀ (whole:Sem Value) (pins:List (Addr × Obj)) (s:Shared) (σ:St) (H:Hp) (Q:Bool→Hp→Prop),Inv X pins σ H s→t σ H Q→wpAny (model X.prog X.w) X.A (isTrue e X.env whole) (TP X pins σ Q) X.xe s
theorem PW.pt {X:Cx} {e:Expr} {t:TT} (h:PW X e t):PT X e t:=h _
def PA (X:Cx) (es:List Expr) (t:TA):Prop:=
 ∀ (pos:Pos) (pins:List (Addr × Obj)) (s:Shared) (σ:St) (H:Hp) (Q:List V→Hp→Prop),Inv X pins σ H s→t σ H Q→wpAny (model X.prog X.w) X.A (spliced (backTo pos (starEach es X.env))) (AP X pins σ Q) X.xe s
def PS (X:Cx) (st:Stmt) (t:TS):Prop:=
 ∀ (pins:List (Addr × Obj)) (s:Shared) (σ:St) (H:Hp) (D:Ends),Inv X pins σ H s→t D σ H→wpAny (model X.prog X.w) X.A (exec st X.env) (SP X pins D) X.xe s
def PSs (X:Cx) (st:List Stmt) (t:TS):Prop:=
 ∀ (pins:List (Addr × Obj)) (s:Shared) (σ:St) (H:Hp) (D:Ends),Inv X pins σ H s→t D σ H→wpAny (model X.prog X.w) X.A (execs st X.env) (SP X pins D) X.xe s
theorem thn {α:Type} {t:Sem α} {Q Q':α→Shared→Prop} {M:Model} {A:Around} {E:Value→Shared→Prop} {s:Shared} (h:wpAny M A t Q E s) (hQ:∀ a s,Q a s→Q' a s):wpAny M A t Q' E s:=wpAny_mono h hQ fun _ _ x=>x
end L2
namespace L2
open PySem PySem.Spec PyProof.Rows
section
variable {X:Cx}
theorem bin {a b:Expr} {ta tb:TE} (ha:PE X a ta) (hb:PE X b tb) {pins:List (Addr × Obj)} {s:Shared} {σ:St} {H:Hp} {R:V→V→Hp→Prop} (I:Inv X pins σ H s) (h:ta σ H fun x H1=>tb σ H1 fun y H2=>R x y H2)
  {α:Type} {Q:α→Shared→Prop} {f:Value→Value→Sem α}
  (hf:∀ v u s2 x y H2,Inv X pins σ H2 s2→RelV x v→RelV y u→R x y H2→wpAny (model X.prog X.w) X.A (f v u) Q X.xe s2) :
  wpAny (model X.prog X.w) X.A (eval a X.env) (fun v s₁=>wpAny (model X.prog X.w) X.A (eval b X.env) (fun u s₂=>wpAny (model X.prog X.w) X.A (f v u) Q X.xe s₂) X.xe s₁) X.xe s:=by
 refine thn (ha pins s σ H _ I h) fun v s1 ⟨x,H1,I1,r1,q1⟩=>?_
 refine thn (hb pins s1 σ H1 _ I1 q1) fun u s2 ⟨y,H2,I2,r2,q2⟩=>?_
 exact hf v u s2 x y H2 I2 r1 r2 q2
def rL (i:Nat):TE:=fun σ H Q=>∃ v,σ[i]?=some (some v)∧Q v H
def tC (v:V):TE:=fun _ H Q=>Q v H
theorem lI {i:Nat} {x:Str} {pos:Pos} (hN:X.N[i]?=some x) (hv:Vis X.env.scope x) (hd:(x == ("__debug__":Str))=false:=by decide) (hcd:(x == ("__classdict__":Str))=false:=by decide):PE X (.Name x pos) (rL i):=by
 intro pins s σ H Q I h
 obtain ⟨v,e,h⟩:=h
 obtain ⟨m,hn,hl⟩:=I.loc
 obtain ⟨u,r,l⟩:=hl i x v hN e hv
 have fin:EP X pins σ Q u s:=⟨v,H,I,r,h⟩
 rcases l with ⟨hk,hm⟩|⟨hk,c,hc,hcell⟩
 ·exact wpAny_Name (wpAny_loadName_local I.ok.kind hk hn hm fin) hd
 ·rcases hk with hk|hk
  ·exact wpAny_Name (wpAny_loadName_cell I.ok.kind hk hc hcell fin) hd
  ·exact wpAny_Name (wpAny_loadName_free I.ok.kind hk hc hcell fin hcd) hd
theorem HI {i j pos}:PE X (.Constant (.int i) j pos) (tC (.int i)):=fun _ _ _ H _ I h=>wpAny_Constant_int ⟨.int i,H,I.tok _,⟨_,rfl⟩,h⟩
theorem AE {b j pos}:PE X (.Constant (.bool b) j pos) (tC (.bl b)):=fun _ _ _ H _ I h=>Constant_bool ⟨.bl b,H,I,rfl,h⟩
theorem YW {j pos}:PE X (.Constant .none j pos) (tC .non):=fun _ _ _ H _ I h=>Constant_none ⟨.non,H,I,rfl,h⟩
theorem fO {x j pos}:PE X (.Constant (.str x) j pos) (tC (.str x)):=fun _ _ _ H _ I h=>Calls.Constant_str ⟨.str x,H,I.tok _,⟨_,rfl⟩,h⟩
def Gl (X:Cx) (x:Str):Prop:=X.env.kindOf x=some .globalImplicit
theorem eO {E:Value→Shared→Prop} {pins:List (Addr × Obj)} {s:Shared} {σ:St} {H:Hp} {x:Str} {u:Value} {pos:Pos} {Q:Value→Shared→Prop} (I:Inv X pins σ H s) (hg:Gl X x) (hm:X.mg x=some u) (h:Q u s)
  (hd:(x == ("__debug__":Str))=false:=by decide):wpAny (model X.prog X.w) X.A (eval (.Name x pos) X.env) Q E s:=
 Calls.Name_function_global I.ok.kind hg (Calls.loadGlobal_global (by rw [I.ok.glob]; exact I.mod.glob.keeps I.bk) hm h) hd
theorem iM {E:Value→Shared→Prop} {pins:List (Addr × Obj)} {s:Shared} {σ:St} {H:Hp} {x:Str} {u:Value} {pos:Pos} {Q:Value→Shared→Prop} (I:Inv X pins σ H s) (hg:Gl X x) (hm:X.mg x=none) (hv:bootBuiltins x=some u) (h:Q u s)
  (hn:x≠"__name__":=by decide) (hd:(x == ("__debug__":Str))=false:=by decide):wpAny (model X.prog X.w) X.A (eval (.Name x pos) X.env) Q E s:=by
 obtain ⟨mb,h1,h2⟩:=I.mod.blt
 exact Calls.Name_function_global I.ok.kind hg (Calls.loadGlobal_builtin (by rw [I.ok.glob]; exact I.mod.glob.keeps I.bk) hm (by rw [I.ok.blt]; exact h1.keeps I.bk) ((h2 x hn).trans hv) h) hd
theorem PL {x:Str} {v:V} {u:Value} {pos:Pos} (hg:Gl X x) (hm:X.mg x=some u) (r:RelV v u) (hd:(x == ("__debug__":Str))=false:=by decide):PE X (.Name x pos) (tC v):=
 fun _ _ _ H _ I h=>eO I hg hm ⟨v,H,I,r,h⟩ hd
theorem AD {x:Str} {v:V} {u:Value} {pos:Pos} (hg:Gl X x) (hm:X.mg x=none) (hv:bootBuiltins x=some u) (r:RelV v u) (hn:x≠"__name__":=by decide) (hd:(x == ("__debug__":Str))=false:=by decide):PE X (.Name x pos) (tC v):=
 fun _ _ _ H _ I h=>iM I hg hm hv ⟨v,H,I,r,h⟩ hn hd
variable {a b:Expr}{ta tb:TE}{pos:Pos}
def PC (X:Cx) (op:CmpOp) (a b:Expr) (t:TE):Prop:=
 ∀ (pins:List (Addr × Obj)) (s:Shared) (σ:St) (H:Hp) (Q:VK),Inv X pins σ H s→t σ H Q →
  wpAny (model X.prog X.w) X.A (eval a X.env) (fun v s₁=>wpAny (model X.prog X.w) X.A (eval b X.env) (fun u s₂=>wpAny (model X.prog X.w) X.A (compareOp op v u) (EP X pins σ Q) X.xe s₂) X.xe s₁) X.xe s
theorem II (b:Expr) {op:CmpOp} (h:op≠.In) (h2:op≠.NotIn):behindInMarks op b=false:=by
 have e1:(op == CmpOp.In)=false:=by cases op<;>first|rfl|exact absurd rfl h
 have e2:(op == CmpOp.NotIn)=false:=by cases op<;>first|rfl|exact absurd rfl h2
 cases b<;>simp [behindInMarks,e1,e2]
noncomputable def tB (t:TE):TT:=fun σ H Q=>t σ H fun x H1=>∃ c,x=.bl c∧Q c H1
theorem aIG {op:CmpOp} {t:TE} (h:PC X op a b t) (h1:behindInMarks op b=false:=by first|exact II _ (by decide) (by decide)|rfl):PT X (.Compare a [op] [b] pos) (tB t):=by
 intro pins s σ H Q I hw
 refine wpAny_isTrue_Compare1 (thn (h pins s σ H _ I hw) fun v s1 h1=>thn h1 fun u s2 h2=>thn h2 fun c s3 ⟨x,H1,I1,r1,q1⟩=>?_) h1
 obtain ⟨d,rfl,q⟩:=q1
 cases r1
 exact wpAny_truthy_bool ⟨H1,I1,q⟩
theorem YN {e:Expr} {t:TE} (h:PE X e t) (he:∀ whole,isTrue e X.env whole=(do let v ← whole; standAt e.pos; holding [v] (truthy v)):=by intro _; rfl):PT X e (tB t):=by
 intro pins s σ H Q I hw
 refine isTrue_plain (thn (h pins s σ H _ I hw) fun v s1 ⟨x,H1,I1,r1,q1⟩=>?_) (he _)
 obtain ⟨d,rfl,q⟩:=q1
 cases r1
 exact wpAny_truthy_bool ⟨H1,I1,q⟩
variable {tA tB':TT}{rest:List Expr}
noncomputable def aIh (t u:TT):TT:=fun σ H Q=>t σ H fun c H1=>if c=true then u σ H1 Q else Q false H1
noncomputable def tOr (t u:TT):TT:=fun σ H Q=>t σ H fun c H1=>if c=true then Q true H1 else u σ H1 Q
noncomputable def aCk (t:TT):TT:=fun σ H Q=>t σ H fun c H1=>Q (!c) H1
theorem OV (ha:PT X a tA):PW X (.BoolOp .And [a] pos) tA:=by
 intro wh pins s σ H Q I h
 refine isTrue_and (thn (ha pins s σ H Q I h) fun c s1 e=>?_)
 cases c with
 | true=>exact isTrue_and_nil e
 | false=>exact e
theorem GW (ha:PT X a tA):PW X (.BoolOp .Or [a] pos) tA:=by
 intro wh pins s σ H Q I h
 refine isTrue_or (thn (ha pins s σ H Q I h) fun c s1 e=>?_)
 cases c with
 | false=>exact isTrue_or_nil e
 | true=>exact e
theorem GY (ha:PT X a tA) (hb:PW X (.BoolOp .And (b::rest) pos) tB'):PW X (.BoolOp .And (a::b::rest) pos) (aIh tA tB'):=by
 intro wh pins s σ H Q I h
 refine isTrue_and (thn (ha pins s σ H _ I h) fun c s1 ⟨H1,I1,q1⟩=>?_)
 cases c with
 | true=>exact hb wh pins s1 σ H1 Q I1 q1
 | false=>exact ⟨H1,I1,q1⟩
theorem GX (ha:PT X a tA) (hb:PW X (.BoolOp .Or (b::rest) pos) tB'):PW X (.BoolOp .Or (a::b::rest) pos) (tOr tA tB'):=by
 intro wh pins s σ H Q I h
 refine isTrue_or (thn (ha pins s σ H _ I h) fun c s1 ⟨H1,I1,q1⟩=>?_)
 cases c with
 | true=>exact ⟨H1,I1,q1⟩
 | false=>exact hb wh pins s1 σ H1 Q I1 q1
theorem HB (ha:PT X a tA):PT X (.UnaryOp .Not a pos) (aCk tA):=by
 intro pins s σ H Q I h
 exact isTrue_not (ha pins s σ H (fun c H1=>Q (!c) H1) I h)
def aCn (ta tb:TE):TE:=fun σ H Q=>ta σ H fun x H1=>∃ c,x=.bl c∧if c=true then tb σ H1 Q else Q (.bl false) H1
def aIc (ta tb:TE):TE:=fun σ H Q=>ta σ H fun x H1=>∃ c,x=.bl c∧if c=true then Q (.bl true) H1 else tb σ H1 Q
theorem YV {op} {t:TE} (h:PE X a t):PE X (.BoolOp op [a] pos) t:=fun pins s σ H Q I hw=>BoolOp_one (h pins s σ H Q I hw)
theorem HM (ha:PE X a ta) (hb:PE X (.BoolOp .And (b::rest) pos) tb):PE X (.BoolOp .And (a::b::rest) pos) (aCn ta tb):=by
 intro pins s σ H Q I h
 refine BoolOp_and (thn (ha pins s σ H _ I h) fun v s1 ⟨x,H1,I1,r1,q1⟩=>?_)
 obtain ⟨c,rfl,q1⟩:=q1
 cases r1
 refine wpAny_truthy_bool ?_
 cases c with
 | true=>exact hb pins s1 σ H1 Q I1 q1
 | false=>exact ⟨.bl false,H1,I1,rfl,q1⟩
theorem TJ (ha:PE X a ta) (hb:PE X (.BoolOp .Or (b::rest) pos) tb):PE X (.BoolOp .Or (a::b::rest) pos) (aIc ta tb):=by
 intro pins s σ H Q I h
 refine BoolOp_or (thn (ha pins s σ H _ I h) fun v s1 ⟨x,H1,I1,r1,q1⟩=>?_)
 obtain ⟨c,rfl,q1⟩:=q1
 cases r1
 refine wpAny_truthy_bool ?_
 cases c with
 | false=>exact hb pins s1 σ H1 Q I1 q1
 | true=>exact ⟨.bl true,H1,I1,rfl,q1⟩
def tIf (t:TT) (ta tb:TE):TE:=fun σ H Q=>t σ H fun c H1=>if c=true then ta σ H1 Q else tb σ H1 Q
theorem vF {c:Expr} (hc:PT X c tA) (ha:PE X a ta) (hb:PE X b tb):PE X (.IfExp c a b pos) (tIf tA ta tb):=by
 intro pins s σ H Q I h
 refine wpAny_IfExp (thn (hc pins s σ H _ I h) fun d s1 ⟨H1,I1,q1⟩=>?_)
 cases d with
 | true=>exact ha pins s1 σ H1 Q I1 q1
 | false=>exact hb pins s1 σ H1 Q I1 q1
end
end L2
namespace L2
open PySem PySem.Spec PyProof.Rows
def SqL (K:PySem.W.Frag) (H:Hp) (a:Addr) (xs:List V):Prop:=
 Rd H a (.lst xs) ∨
  ∃ (o:Obj) (its:Array Value) (n:Nat),K.lookup a=some o∧o.cls=.type "list"∧o.dict=none∧o.data=.seq its n∧its.size≤sizeLine∧aS xs its.toList
def SqT (K:PySem.W.Frag) (H:Hp) (a:Addr) (xs:List V):Prop:=
 Rd H a (.tup xs) ∨
  ∃ (o:Obj) (its:Array Value) (n:Nat),K.lookup a=some o∧o.cls=.type "tuple"∧o.data=.seq its n∧its.size≤sizeLine∧aS xs its.toList
noncomputable def aJG:Value→Option V
 | .none=>some .non
 | .bool b=>some (.bl b)
 | .int i _=>some (.int i)
 | .str x _=>some (.str x)
 | .bytes b _=>some (.byt b)
 | .float b _=>some (.flt b)
 | .ref a=>some (.ref a)
 | .type n=>some (.ty n)
 | _=>none
theorem RelV.abs {x:V} {u:Value} (r:RelV x u):aJG u=some x:=by
 cases x with
 | non=>cases r; rfl
 | bl _=>cases r; rfl
 | int _=>obtain ⟨t,rfl⟩:=r; rfl
 | str _=>obtain ⟨t,rfl⟩:=r; rfl
 | byt _=>obtain ⟨t,rfl⟩:=r; rfl
 | flt _=>obtain ⟨t,rfl⟩:=r; rfl
 | ref _=>cases r; rfl
 | ty _=>cases r; rfl
theorem RelV.inj {x y:V} {u:Value} (r:RelV x u) (q:RelV y u):x=y:=Option.some.inj (r.abs.symm.trans q.abs)
theorem aS.inj:∀ {xs ys:List V} {us:List Value},aS xs us→aS ys us→xs=ys
 | _,_,_,.nil,.nil=>rfl
 | _,_,_,.cons r t,.cons r' t'=>by rw [r.inj r',aS.inj t t']
section
variable {X:Cx}{pins:List (Addr × Obj)}{σ:St}{H:Hp}{s:Shared}{a:Addr}{xs ys:List V}
theorem SqL.of {K:PySem.W.Frag} (h:H a=some (.lst xs)):SqL K H a xs:=.inl (.inl h)
theorem SqT.of {K:PySem.W.Frag} (h:H a=some (.tup xs)):SqT K H a xs:=.inl (.inl h)
theorem Inv.list (I:Inv X pins σ H s) (h:SqL X.K H a xs):∃ its:List Value,aS xs its∧PlainL s.heap a its.toArray∧xs.length≤sizeLine:=by
 rcases h with h|⟨o,its,n,hk,hc,hd,hs,hz,r⟩
 ·obtain ⟨z,its,n,r,e⟩:=h.ok I.hok
  exact ⟨its,r,⟨_,n,e,rfl,rfl,rfl⟩,z⟩
 ·refine ⟨its.toList,r,⟨o,n,I.kIn a o hk,hc,hd,by simpa using hs⟩,?_⟩
  have e:=r.length
  simp only [Array.length_toList] at e
  omega
theorem Inv.tuple (I:Inv X pins σ H s) (h:SqT X.K H a xs):∃ its:List Value,aS xs its∧IsTup s.heap a its.toArray∧xs.length≤sizeLine:=by
 rcases h with h|⟨o,its,n,hk,hc,hs,hz,r⟩
 ·obtain ⟨z,its,r,p⟩:=h.ok I.hok
  exact ⟨its,r,p,z⟩
 ·refine ⟨its.toList,r,⟨o,I.kIn a o hk,hc,n,by simpa using hs⟩,?_⟩
  have e:=r.length
  simp only [Array.length_toList] at e
  omega
theorem Inv.list_inj (I:Inv X pins σ H s) (h:SqL X.K H a xs) (h':SqL X.K H a ys):xs=ys:=by
 obtain ⟨its,r,⟨o,n,e,_,_,d⟩,_⟩:=I.list h
 obtain ⟨its',r',⟨o',n',e',_,_,d'⟩,_⟩:=I.list h'
 rw [e] at e'; cases e'
 rw [d] at d'
 injection d' with d1 _
 have:its=its':=by simpa using congrArg Array.toList d1
 subst this
 exact r.inj r'
theorem Inv.tuple_inj (I:Inv X pins σ H s) (h:SqT X.K H a xs) (h':SqT X.K H a ys):xs=ys:=by
 obtain ⟨its,r,⟨o,e,_,n,d⟩,_⟩:=I.tuple h
 obtain ⟨its',r',⟨o',e',_,n',d'⟩,_⟩:=I.tuple h'
 rw [e] at e'; cases e'
 rw [d] at d'
 injection d' with d1 _
 have:its=its':=by simpa using congrArg Array.toList d1
 subst this
 exact r.inj r'
end
abbrev Cx.wish (X:Cx) (E:Value→Shared→Prop):Cx:={ X with xe:=E }
abbrev Cx.nox (X:Cx):Cx:=X.wish fun _ _=>False
theorem Cx.Ok.wish {X:Cx} (ok:X.Ok) (E:Value→Shared→Prop):(X.wish E).Ok:=
 ⟨ok.mod,ok.kind,ok.glob,ok.blt,ok.above,ok.inj,ok.has,ok.cab,ok.hd,ok.frames,ok.stk,ok.exf,ok.bs,ok.bsz,ok.noex,ok.exfs,ok.funs,ok.frf⟩
theorem Cx.Ok.unwish {X:Cx} {E:Value→Shared→Prop} (ok:(X.wish E).Ok):X.Ok:=
 ⟨ok.mod,ok.kind,ok.glob,ok.blt,ok.above,ok.inj,ok.has,ok.cab,ok.hd,ok.frames,ok.stk,ok.exf,ok.bs,ok.bsz,ok.noex,ok.exfs,ok.funs,ok.frf⟩
section
variable {X:Cx}{pins:List (Addr × Obj)}{σ:St}{H:Hp}{s:Shared}{E:Value→Shared→Prop}
theorem Inv.wish (I:Inv X pins σ H s) (E:Value→Shared→Prop):Inv (X.wish E) pins σ H s:=⟨I.ok.wish E,I.os,I.bare,I.base,I.loc,I.cell,I.free,I.freeC,I.pin,I.hok,I.len⟩
theorem Inv.unwish (I:Inv (X.wish E) pins σ H s):Inv X pins σ H s:=⟨I.ok.unwish,I.os,I.bare,I.base,I.loc,I.cell,I.free,I.freeC,I.pin,I.hok,I.len⟩
theorem SP.unwish {D:Ends} {f:Flow} {s':Shared} (h:SP (X.wish E) pins D f s'):SP X pins D f s':=by
 cases f with
 | next=>obtain ⟨σ',H',I,q⟩:=h; exact ⟨σ',H',I.unwish,q⟩
 | brk=>obtain ⟨σ',H',I,q⟩:=h; exact ⟨σ',H',I.unwish,q⟩
 | cont=>obtain ⟨σ',H',I,q⟩:=h; exact ⟨σ',H',I.unwish,q⟩
 | ret u=>obtain ⟨v,σ',H',I,r,q⟩:=h; exact ⟨v,σ',H',I.unwish,r,q⟩
theorem PSs.nox {st:List Stmt} {t:TS} (h:PSs X.nox st t):PSs X st t:=fun pins s σ H D I hw =>
 wpAny_mono (h pins s σ H D (I.wish _) hw) (fun _ _ q=>q.unwish) fun _ _ z=>False.elim z
end
section
variable {X:Cx}{st:Stmt}{rest:List Stmt}{t u:TS}{e:Expr}{te:TE}{pos:Pos}
def SW:TS:=fun D σ H=>D.nx σ H
def aIb (t u:TS):TS:=fun D σ H=>t { D with nx:=u D } σ H
theorem rV:PSs X [] SW:=fun _ _ σ H _ I h=>wpAny_execs_nil ⟨σ,H,I,h⟩
theorem iH (h1:PS X st t) (h2:PSs X rest u):PSs X (st::rest) (aIb t u):=by
 intro pins s σ H D I h
 refine wpAny_execs_cons (thn (h1 pins s σ H { D with nx:=u D } I h) fun f s1 q=>?_)
 cases f with
 | next =>
  obtain ⟨σ',H',I',q⟩:=q
  exact h2 pins s1 σ' H' D I' q
 | ret v=>exact q
 | brk=>exact q
 | cont=>exact q
theorem iZ (h1:PS X st t):PSs X [st] t:=by
 intro pins s σ H D I h
 refine wpAny_execs_cons (thn (h1 pins s σ H D I h) fun f s1 q=>?_)
 cases f with
 | next=>exact wpAny_execs_nil q
 | ret v=>exact q
 | brk=>exact q
 | cont=>exact q
theorem OX:PS X (.Pass pos) SW:=fun _ _ σ H _ I h=>wpAny_Pass ⟨σ,H,I,h⟩
theorem Inv.quiet {pins:List (Addr × Obj)} {σ:St} {H:Hp} {s:Shared} (I:Inv X pins σ H s):interactive X.env=false:=by simp [interactive,I.ok.kind]
def SX (te:TE):TS:=fun D σ H=>te σ H fun _ H1=>D.nx σ H1
theorem kJ (he:PE X e te) (hs:swapsWith e none pos.line X.env=pure false:=by rfl):PS X (.Expr e pos) (SX te):=by
 intro pins s σ H D I h
 exact wpAny_Expr_any (thn (he pins s σ H _ I h) fun v s1 ⟨x,H1,I1,r1,q1⟩=>⟨σ,H1,I1,q1⟩) I.quiet hs
def aCi (te:TE):TS:=fun D σ H=>te σ H D.rt
theorem iI (he:PE X e te):PS X (.Return (some e) pos) (aCi te):=by
 intro pins s σ H D I h
 exact wpAny_Return_some (thn (he pins s σ H _ I h) fun v s1 ⟨x,H1,I1,r1,q1⟩=>⟨x,σ,H1,I1,r1,q1⟩)
def aCh:TS:=fun D _ H=>D.rt .non H
theorem OW:PS X (.Return none pos) aCh:=fun _ _ σ H _ I h=>wpAny_Return_none ⟨.non,σ,H,I,rfl,h⟩
def aIe (c:TT) (t u:TS):TS:=fun D σ H=>c σ H fun b H1=>if b=true then t D σ H1 else u D σ H1
theorem TH {c:Expr} {a b:List Stmt} {tc:TT} (hc:PT X c tc) (ha:PSs X a t) (hb:PSs X b u):PS X (.If c a b pos) (aIe tc t u):=by
 intro pins s σ H D I h
 refine wpAny_If (thn (hc pins s σ H _ I h) fun d s1 ⟨H1,I1,q1⟩=>?_)
 cases d with
 | true=>exact ha pins s1 σ H1 D I1 q1
 | false=>exact hb pins s1 σ H1 D I1 q1
end
abbrev TG:=V→St→Hp→(St→Hp→Prop)→Prop
abbrev TGs:=List V→St→Hp→(St→Hp→Prop)→Prop
def PG (X:Cx) (target:Expr) (t:TG):Prop:=
 ∀ (pins:List (Addr × Obj)) (s:Shared) (σ:St) (H:Hp) (v:V) (u:Value) (Q:St→Hp→Prop),Inv X pins σ H s→RelV v u→t v σ H Q →
  wpAny (model X.prog X.w) X.A (assign target X.env u) (fun _ s'=>∃ σ' H',Inv X pins σ' H' s'∧Q σ' H') X.xe s
def PGs (X:Cx) (ts:List Expr) (t:TGs):Prop:=
 ∀ (pins:List (Addr × Obj)) (s:Shared) (σ:St) (H:Hp) (vs:List V) (us:List Value) (Q:St→Hp→Prop),Inv X pins σ H s→aS vs us→t vs σ H Q →
  wpAny (model X.prog X.w) X.A (assignInOrder ((assignEach ts X.env).map (·.2)) us) (fun _ s'=>∃ σ' H',Inv X pins σ' H' s'∧Q σ' H') X.xe s
abbrev aAX:=V→V→V→Hp→(Hp→Prop)→Prop
def aHe (X:Cx) (t:aAX):Prop:=
 ∀ (pins:List (Addr × Obj)) (s:Shared) (σ:St) (H:Hp) (o i v:V) (ov iv u:Value) (Q:Hp→Prop),Inv X pins σ H s→RelV o ov→RelV i iv→RelV v u→t o i v H Q →
  wpAny (model X.prog X.w) X.A (setItem ov iv u) (fun _ s'=>∃ H',Inv X pins σ H' s'∧Q H') X.xe s
section
variable {X:Cx}{pos:Pos}
def qE (i:Nat):TG:=fun v σ H Q=>Q (σ.set i (some v)) H
theorem zZ {i:Nat} {x:Str} (hN:X.N.Nodup) (hi:X.N[i]?=some x) (hx:Loc X.env.scope x) (hf:X.fn x=true∨X.env.scope.names.lookup x=some .local:=by first|exact .inl rfl|exact .inr rfl|assumption):PG X (.Name x pos) (qE i):=by
 intro pins s σ H v u Q I r h
 exact wpAny_assign_Name (nL I hN hi hx r (fun s' I'=>⟨_,H,I',h⟩) hf)
noncomputable def aJt:TGs:=fun vs σ H Q=>vs=[]∧Q σ H
noncomputable def aGh (t:TG) (u:TGs):TGs:=fun vs σ H Q=>∃ v r,vs=v::r∧t v σ H fun σ' H'=>u r σ' H' Q
theorem PK:PGs X [] aJt:=by
 intro pins s σ H vs us Q I r h
 obtain ⟨e,h⟩:=h
 subst e
 cases r
 exact assignInOrder_nil ⟨σ,H,I,h⟩
theorem HF {e:Expr} {es:List Expr} {t:TG} {u:TGs} (h1:PG X e t) (h2:PGs X es u)
  (hs:(assignEach (e::es) X.env).map (·.2)=assign e X.env::(assignEach es X.env).map (·.2):=by rfl):PGs X (e::es) (aGh t u):=by
 intro pins s σ H vs us Q I r h
 obtain ⟨v,vr,e1,h⟩:=h
 subst e1
 cases r with
 | cons r rr =>
  rw [hs]
  refine assignInOrder_cons (thn (h1 pins s σ H _ _ _ I r h) fun _ s1 ⟨σ1,H1,I1,q1⟩=>?_)
  exact h2 pins s1 σ1 H1 _ _ Q I1 rr q1
def aJr (K:PySem.W.Frag) (n:Nat) (t:TGs):TG:=fun v σ H Q=>∃ a xs,v=.ref a∧SqT K H a xs∧xs.length=n∧t xs σ H Q
theorem YR {es:List Expr} {k:Nat} {t:TGs} {n:Nat} (hc:X.calm=true) (h:PGs X es t)
  (hn:(assignEach es X.env).length=n:=by rfl) (hst:(assignEach es X.env).findIdx? (·.1)=none:=by rfl):PG X (.Tuple es k pos) (aJr X.K n t):=by
 intro pins s σ H v u Q I r hw
 obtain ⟨a,xs,e1,hq,hl,hw⟩:=hw
 subst e1
 cases r
 obtain ⟨its,rv,ht,hz⟩:=I.tuple hq
 refine assign_Tuple_tuple (I.ok.hd hc) ht (by simp [hn,← hl,rv.length]) hst fun h' hx=>?_
 have I1:Inv X pins σ H { s with heap:=h' }:=I.kept (t':=s.toks) fun b o e=>hx b o (Nat.ne_of_lt (Heap.lt_size e)) e
 exact h pins _ σ H xs _ Q I1 (by simpa using rv) hw
def aJs (to ti:TE) (t:aAX):TG:=fun v σ H Q=>to σ H fun o H1=>ti σ H1 fun i H2=>t o i v H2 fun H3=>Q σ H3
theorem YS {o i:Expr} {to ti:TE} {t:aAX} (ho:PE X o to) (hi:PE X i ti) (hs:aHe X t)
  (ha:∀ v,assign (.Subscript o i pos) X.env v=(do
   let ov ← holding [v] (eval o X.env)
   let iv ← holding [v,ov] (eval i X.env)
   standAt pos
   holding [v,ov,iv] (setItem ov iv v)
   release [v,ov,iv] []):=by intro _; rfl):PG X (.Subscript o i pos) (aJs to ti t):=by
 intro pins s σ H v u Q I r h
 rw [ha]
 refine wpAny_bind (wpAny_holding (thn (ho pins s σ H _ I h) fun ov s1 ⟨x,H1,I1,r1,q1⟩=>?_))
 refine wpAny_bind (wpAny_holding (thn (hi pins s1 σ H1 _ I1 q1) fun iv s2 ⟨y,H2,I2,r2,q2⟩=>?_))
 refine wpAny_bind (wpAny_standAt (wpAny_bind (wpAny_holding (thn (hs pins s2 σ H2 x y v ov iv u _ I2 r1 r2 r q2) fun _ s3 ⟨H3,I3,q3⟩=>?_))))
 exact wpAny_release ⟨σ,H3,I3,q3⟩
def NL (te:TE) (g:TG):TS:=fun D σ H=>te σ H fun x H1=>g x σ H1 D.nx
theorem HD {tg e:Expr} {te:TE} {g:TG} (he:PE X e te) (hg:PG X tg g) (hs:swapsWithSole [tg] e pos.line X.env=pure false:=by rfl) (hw:swappedStores [tg] e X.env=pure none:=by rfl)
  (h1:(assignEach [tg] X.env).map (·.2)=[assign tg X.env]:=by rfl):PS X (.Assign [tg] e pos) (NL te g):=by
 intro pins s σ H D I h
 refine wpAny_Assign_stores (thn (he pins s σ H _ I h) fun v s1 ⟨x,H1,I1,r1,q1⟩=>?_) hs hw
 rw [h1]
 exact thn (hg pins s1 σ H1 x v _ I1 r1 q1) fun _ s2 q=>q
theorem nP {i:Nat} {x:Str} {e:Expr} {te:TE} {pos':Pos} (hN:X.N.Nodup) (hi:X.N[i]?=some x) (hx:Loc X.env.scope x) (he:PE X e te) (hs:swapsWith e (some (.Name x pos')) pos.line X.env=pure false:=by rfl) (hf:X.fn x=true∨X.env.scope.names.lookup x=some .local:=by first|exact .inl rfl|exact .inr rfl|assumption) :
  PS X (.Assign [.Name x pos'] e pos) (NL te (qE i)):=by
 intro pins s σ H D I h
 refine wpAny_Assign_Name (thn (he pins s σ H _ I h) fun v s1 ⟨y,H1,I1,r1,q1⟩=>?_) hs
 exact nL I1 hN hi hx r1 (fun s2 I2=>⟨_,H1,I2,q1⟩) hf
end
section
variable {X:Cx}{pos:Pos}
end
structure It where
 go:Nat→Hp→Prop
 yld:Nat→Hp→V→Hp→Prop
 stop:Nat→Hp→Prop
def pB (X:Cx) (pins:List (Addr × Obj)) (H:Hp) (b:Addr):Prop:=
 H b=none∧b≠X.env.locals∧b ∉ X.fs∧(b ∈ X.ex∨X.s₀.heap.objs.size≤b)∧(∀ x c,X.env.cells.lookup x=some c→c≠b)∧∀ p ∈ X.pn++pins,p.1≠b
theorem Inv.fpOk {X:Cx} {pins:List (Addr × Obj)} {σ:St} {H H':Hp} {s:Shared} {b:Addr} (I:Inv X pins σ H s) (hb:s.heap.objs.size≤b) (hn:H' b=none):pB X pins H' b:=by
 refine ⟨hn,Nat.ne_of_gt (Nat.lt_of_lt_of_le I.lt hb),I.nofs hb,.inr (Nat.le_trans I.sz hb),fun x c e z=>?_,fun p hp z=>?_⟩
 ·obtain ⟨v,q⟩:=I.cell x c e
  exact absurd (Nat.lt_of_lt_of_le q.lt (by rw [z]; exact hb)) (Nat.lt_irrefl _)
 ·exact absurd (Nat.lt_of_lt_of_le (Heap.lt_size (I.pin p hp).1) (by rw [z]; exact hb)) (Nat.lt_irrefl _)
structure Turn (P:Program) (w:World) (K:PySem.W.Frag) (tg:Expr) (J:It) (fp:List Addr) (it:Addr) (tn:Nat→Heap→Prop):Prop where
 mem:it ∈ fp
 obj:∀ i h,tn i h→∀ b ∈ fp,∃ o,h.get? b=some o∧∀ v,o.data≠.cell v
 keep:∀ i h h',tn i h→(∀ b ∈ fp,∀ o,h.get? b=some o→h'.get? b=some o)→tn i h'
 item:∀ (X:Cx),X.prog=P→X.w=w→X.K=K→X.calm=true→∀ (i:Nat) (pins:List (Addr × Obj)) (s:Shared) (σ:St) (H:Hp) (E:Value→Shared→Prop),Inv X pins σ H s→(∀ b ∈ fp,pB X pins H b)→tn i s.heap→J.go i H →
  wpAny (model P w) X.A (pyNext (.ref it)) (fun r s1=>∃ u,r=some u ∧
   wpAny (model P w) X.A (letOwnedTupleGo tg (.ref it) u) (fun _ s2=>∃ x H',Inv X pins σ H' s2∧RelV x u∧J.yld i H x H'∧tn (i+1) s2.heap∧∀ b ∈ fp,H' b=none) E s1) E s
 done:∀ (X:Cx),X.prog=P→X.w=w→X.K=K→X.calm=true→∀ (i:Nat) (pins:List (Addr × Obj)) (s:Shared) (σ:St) (H:Hp) (E:Value→Shared→Prop),Inv X pins σ H s→(∀ b ∈ fp,pB X pins H b)→tn i s.heap→J.stop i H →
  wpAny (model P w) X.A (pyNext (.ref it)) (fun r s1=>r=none∧Inv X pins σ H s1) E s
 self:∀ (A:Around) (i:Nat) (s:Shared) (Q:Value→Shared→Prop) (E:Value→Shared→Prop),tn i s.heap→Q (.ref it) s→wpAny (model P w) A (pyIter (.ref it)) Q E s
abbrev TI:=St→Hp→(It→Hp→Prop)→Prop
def PIE (X:Cx) (pins:List (Addr × Obj)) (σ:St) (tg:Expr) (R:It→Hp→Prop) (itv:Value) (s2:Shared):Prop:=
 ∃ (it:Addr) (fp:List Addr) (tn:Nat→Heap→Prop) (J:It) (H':Hp),itv=.ref it∧Inv X pins σ H' s2∧Turn X.prog X.w X.K tg J fp it tn∧tn 0 s2.heap∧(∀ b ∈ fp,pB X pins H' b)∧R J H'
def PI (X:Cx) (tg iter:Expr) (wi:TI):Prop:=
 ∀ (pins:List (Addr × Obj)) (s:Shared) (σ:St) (H:Hp) (R:It→Hp→Prop),Inv X pins σ H s→wi σ H R →
  wpAny (model X.prog X.w) X.A (eval iter X.env) (fun v s1=>wpAny (model X.prog X.w) X.A (pyIter v) (PIE X pins σ tg R) X.xe s1) X.xe s
theorem AS {M:Model} {A:Around} {E:Value→Shared→Prop} {s:Shared} {tg:Expr} {it:Addr} {u:Value} {o:Obj} {n:String} {vs:Array Value} {Q:Unit→Shared→Prop} (ho:s.heap.get? it=some o) (hc:o.cls=.type n) (hd:o.data=.fields vs)
  (hn:["enumerate","zip","dict_itemiterator","dict_reverseitemiterator","odict_iterator","itertools.zip_longest","itertools.pairwise"].contains n=false) (hQ:Q () s):wpAny M A (letOwnedTupleGo tg (.ref it) u) Q E s:=by
 unfold letOwnedTupleGo
 cases tg<;>first
  | exact wpAny_pure hQ
  | (cases u<;>first
    | exact wpAny_pure hQ
    | (refine wpAny_bind (wpAny_load ho ?_)
       rw [hc,hd]
       show wpAny M A (if (["enumerate","zip","dict_itemiterator","dict_reverseitemiterator","odict_iterator","itertools.zip_longest","itertools.pairwise"].contains n&&vs[0]? == some (rawInt _))=true then _ else _) Q E s
       rw [if_neg (by intro h; rw [hn,Bool.false_and] at h; cases h)]
       exact wpAny_pure hQ))
noncomputable def Itl (K:PySem.W.Frag) (a:Addr):It:=
 ⟨fun i H=>∃ xs x,SqL K H a xs∧xs[i]?=some x,fun i H x H'=>H'=H∧∀ xs,SqL K H a xs→xs[i]?=some x,fun i H=>∃ xs,SqL K H a xs∧xs.length≤i⟩
noncomputable def Itt (K:PySem.W.Frag) (a:Addr):It:=
 ⟨fun i H=>∃ xs x,SqT K H a xs∧xs[i]?=some x,fun i H x H'=>H'=H∧∀ xs,SqT K H a xs→xs[i]?=some x,fun i H=>∃ xs,SqT K H a xs∧xs.length≤i⟩
noncomputable def Itr (lo:Int) (n:Nat):It:=⟨fun i _=>i<n,fun i H x H'=>H'=H∧x=.int (lo+i),fun i _=>n≤i⟩
theorem DS {P:Program} {w:World} {K:PySem.W.Frag} {tg:Expr} (a it:Addr):Turn P w K tg (Itl K a) [it] it (fun i h=>h.IsListIter it a i) where
 mem:=by simp
 obj:=fun i h st b hb=>by
  have e:b=it:=by simpa using hb
  subst e
  obtain ⟨o,e,c,d⟩:=st
  exact ⟨o,e,fun v z=>by rw [d] at z; cases z⟩
 keep:=fun i h h' st k=>st.at fun o e=>k it (by simp) o e
 item:=by
  intro X hP hw hK hc i pins s σ H E I hf st hg
  subst hP hw hK
  obtain ⟨xs,x,hq,hx⟩:=hg
  obtain ⟨its,rv,p,hz⟩:=I.list hq
  obtain ⟨u,hu,ru⟩:=rv.get hx
  obtain ⟨f0,f1,f2,f3,f4,f5⟩:=hf it (by simp)
  refine wpAny_pyNext_list_item st p.isList (x:=u) (by simpa using hu) fun h' st' sb=>?_
  have I1:Inv X pins σ H { s with heap:=h' }:=I.turned (t':=s.toks) (fun b o hb e=>(sb.2 b hb).trans e) f0 f1 f3 f4 f5
  obtain ⟨o,e,c,d⟩:=id st'
  exact ⟨u,rfl,AS (s:={ s with heap:=h' }) e c d (by decide) ⟨x,H,I1,ru,⟨rfl,fun ys hy=>by rw [I.list_inj hy hq]; exact hx⟩,st',fun b hb=>(hf b hb).1⟩⟩
 done:=by
  intro X hP hw hK hc i pins s σ H E I hf st hg
  subst hP hw hK
  obtain ⟨xs,hq,hx⟩:=hg
  obtain ⟨its,rv,p,hz⟩:=I.list hq
  obtain ⟨f0,f1,f2,f3,f4,f5⟩:=hf it (by simp)
  have hl:=rv.length
  exact wpAny_pyNext_list_end (I.ok.hd hc) st p.isList (by simp; omega) fun h' eb=>⟨rfl,I.turned (t':=s.toks) (fun b o hb e=>eb b o hb e) f0 f1 f3 f4 f5⟩
 self:=fun _ _ _ _ _ st h=>wpAny_pyIter_listiter st h
theorem xF {P:Program} {w:World} {K:PySem.W.Frag} {tg:Expr} (a it:Addr):Turn P w K tg (Itt K a) [it] it (fun i h=>h.IsTupleIter it a i) where
 mem:=by simp
 obj:=fun i h st b hb=>by
  have e:b=it:=by simpa using hb
  subst e
  obtain ⟨o,e,c,d⟩:=st
  exact ⟨o,e,fun v z=>by rw [d] at z; cases z⟩
 keep:=fun i h h' st k=>st.at fun o e=>k it (by simp) o e
 item:=by
  intro X hP hw hK hc i pins s σ H E I hf st hg
  subst hP hw hK
  obtain ⟨xs,x,hq,hx⟩:=hg
  obtain ⟨its,rv,p,hz⟩:=I.tuple hq
  obtain ⟨u,hu,ru⟩:=rv.get hx
  obtain ⟨f0,f1,f2,f3,f4,f5⟩:=hf it (by simp)
  refine wpAny_pyNext_tuple_item st (show s.heap.IsTuple a its.toArray from p) (x:=u) (by simpa using hu) fun h' st' sb=>?_
  have I1:Inv X pins σ H { s with heap:=h' }:=I.turned (t':=s.toks) (fun b o hb e=>(sb.2 b hb).trans e) f0 f1 f3 f4 f5
  obtain ⟨o,e,c,d⟩:=id st'
  exact ⟨u,rfl,AS (s:={ s with heap:=h' }) e c d (by decide) ⟨x,H,I1,ru,⟨rfl,fun ys hy=>by rw [I.tuple_inj hy hq]; exact hx⟩,st',fun b hb=>(hf b hb).1⟩⟩
 done:=by
  intro X hP hw hK hc i pins s σ H E I hf st hg
  subst hP hw hK
  obtain ⟨xs,hq,hx⟩:=hg
  obtain ⟨its,rv,p,hz⟩:=I.tuple hq
  obtain ⟨f0,f1,f2,f3,f4,f5⟩:=hf it (by simp)
  have hl:=rv.length
  exact wpAny_pyNext_tuple_end (I.ok.hd hc) st (show s.heap.IsTuple a its.toArray from p) (by simp; omega) fun h' eb=>⟨rfl,I.turned (t':=s.toks) (fun b o hb e=>eb b o hb e) f0 f1 f3 f4 f5⟩
 self:=fun _ _ _ _ _ st h=>wpAny_pyIter_tupleiter st h
theorem xG {P:Program} {w:World} {K:PySem.W.Frag} {tg:Expr} (it:Addr) (lo:Int) (n:Nat):Turn P w K tg (Itr lo n) [it] it (fun i h=>IsRangeIter h it (lo+(i:Nat)*1) ((n:Int)-(i:Nat)) 1) where
 mem:=by simp
 obj:=fun i h st b hb=>by
  have e:b=it:=by simpa using hb
  subst e
  exact ⟨_,st,fun v z=>by
   have z':Data.fields _=Data.cell v:=z
   cases z'⟩
 keep:=fun i h h' st k=>k it (by simp) _ st
 item:=by
  intro X hP hw hK hc i pins s σ H E I hf st hg
  subst hP hw hK
  obtain ⟨f0,f1,f2,f3,f4,f5⟩:=hf it (by simp)
  have W:=Walks.range (prog:=X.prog) (w:=X.w) (I.ok.hd hc) it lo 1 n
  refine W.item i s _ _ hg st fun v h' tk hv st' kk=>?_
  obtain ⟨t,rfl⟩:=hv
  have I1:Inv X pins σ H { s with heap:=h',toks:=tk }:=I.turned (fun b o hb e=>kk b o (by simpa using hb) e) f0 f1 f3 f4 f5
  refine ⟨_,rfl,AS (s:={ s with heap:=h',toks:=tk }) (n:="range_iterator") st' rfl rfl (by decide) ⟨.int (lo+i),H,I1,⟨t,?_⟩,⟨rfl,rfl⟩,st',fun b hb=>(hf b hb).1⟩⟩
  rw [Int.mul_one]
 done:=by
  intro X hP hw hK hc i pins s σ H E I hf st hg
  subst hP hw hK
  obtain ⟨f0,f1,f2,f3,f4,f5⟩:=hf it (by simp)
  exact wpAny_pyNext_range_end (I.ok.hd hc) st (by have:n≤i:=hg; omega) fun h' eb=>⟨rfl,I.turned (t':=s.toks) (fun b o hb e=>eb b o hb e) f0 f1 f3 f4 f5⟩
 self:=fun _ _ _ _ _ st h=>wpAny_pyIter_rangeiter st h
end L2
namespace L2
open PySem PySem.Spec PyProof.Rows
section
variable {X:Cx}{tg:Expr}
theorem vC {pins:List (Addr × Obj)} {σ:St} {H:Hp} {s:Shared} {R:It→Hp→Prop} {E:Value→Shared→Prop} {lo hi:Int} {t u v:Tok} {tk:Nat} (I:Inv X pins σ H s) (h1:-(2 ^ 62)≤lo) (h2:lo<2 ^ 62) (h3:-(2 ^ 62)≤hi) (h4:hi<2 ^ 62)
  (q:R (Itr lo (hi-lo).toNat) H):wpAny (model X.prog X.w) X.A (pyIter (.ref s.heap.objs.size)) (PIE X pins σ tg R) E { s with heap:=s.heap.push { cls:=.type "range",data:=.fields #[.int lo t,.int hi u,.int 1 v] },toks:=tk }:=by
 refine wpAny_pyIter_range (IsRange.new ..) (small_one h1 h2 h3 h4) ?_
 have I1:Inv X pins σ H { s with heap:=s.heap.push { cls:=.type "range",data:=.fields #[.int lo t,.int hi u,.int 1 v] },toks:=tk }:=I.kept fun b o e=>Heap.get?_push_of_some _ e
 refine ⟨(s.heap.push { cls:=.type "range",data:=.fields #[.int lo t,.int hi u,.int 1 v] }).objs.size,[(s.heap.push { cls:=.type "range",data:=.fields #[.int lo t,.int hi u,.int 1 v] }).objs.size],_,_,H,rfl,
  I1.kept (t':=tk) fun b o e=>Heap.get?_push_of_some _ e,xG _ lo (hi-lo).toNat,?_,fun b hb=>?_,q⟩
 ·have e1:lo+((0:Nat):Int)*1=lo:=by simp
  have e2:(((hi-lo).toNat:Nat):Int)-((0:Nat):Int)=Builtin.Range.rangeSize lo hi 1:=by rw [rangeSize_one]; split<;>omega
  show IsRangeIter _ _ (lo+((0:Nat):Int)*1) ((((hi-lo).toNat:Nat):Int)-((0:Nat):Int)) 1
  rw [e1,e2]
  exact Heap.get?_push_size _ rfl
 ·have e:b=(s.heap.push { cls:=.type "range",data:=.fields #[.int lo t,.int hi u,.int 1 v] }).objs.size:=by simpa using hb
  subst e
  exact I1.fpOk (Nat.le_refl _) (I1.hok.fresh (Nat.le_refl _))
def aGe (ta:TA):TI:=fun σ H R=>ta σ H fun vs H1=>∃ j:Int,vs=[.int j]∧-(2 ^ 62)≤j∧j<2 ^ 62∧R (Itr 0 j.toNat) H1
def aGd (ta:TA):TI:=fun σ H R=>ta σ H fun vs H1=>∃ i j:Int,vs=[.int i,.int j]∧(-(2 ^ 62)≤i∧i<2 ^ 62∧-(2 ^ 62)≤j∧j<2 ^ 62)∧R (Itr i (j-i).toNat) H1
theorem ED {a:Expr} {ta:TA} {p pos:Pos} (hg:Gl X "range") (hm:X.mg "range" = none) (ha:PA X [a] ta) (hs:starEach [a] X.env=[(false,eval a X.env)]:=by rfl):PI X tg (.Call (.Name "range" p) [a] [] pos) (aGe ta):=by
 intro pins s σ H R I h
 refine Call_ (iM I hg hm boot_range (PyProof.Rows.callWith_type1 (thn (ha pos pins s σ H _ I h) fun us s1 ⟨vs,H1,I1,r1,q1⟩=>?_) hs rfl))
 obtain ⟨j,e,q1,q2,q⟩:=q1
 subst e
 cases r1 with
 | cons r rr =>
  cases rr
  obtain ⟨t,rfl⟩:=r
  exact call_range_1 (vC I1 (by omega) (by omega) q1 q2 (by simpa using q))
theorem EC {a b:Expr} {ta:TA} {p pos:Pos} (hg:Gl X "range") (hm:X.mg "range" = none) (ha:PA X [a,b] ta) (hs:starEach [a,b] X.env=[(false,eval a X.env),(false,eval b X.env)]:=by rfl) (hs2:starEach [b] X.env=[(false,eval b X.env)]:=by rfl) :
  PI X tg (.Call (.Name "range" p) [a,b] [] pos) (aGd ta):=by
 intro pins s σ H R I h
 refine Call_ (iM I hg hm boot_range (PyProof.Rows.callWith_type1 (thn (ha pos pins s σ H _ I h) fun us s1 ⟨vs,H1,I1,r1,q1⟩=>?_) (by rw [hs,hs2]) (by rw [hs2]; rfl)))
 obtain ⟨i,j,e,⟨q1,q2,q3,q4⟩,q⟩:=q1
 subst e
 cases r1 with
 | cons r rr =>
  cases rr with
  | cons r' rr =>
   cases rr
   obtain ⟨t,rfl⟩:=r
   obtain ⟨t',rfl⟩:=r'
   exact call_range_2 (vC I1 q1 q2 q3 q4 q)
def aIf (wi:TI) (g:TG) (tb:TS):TS:=fun D σ H=>wi σ H fun J H1=>∃ W:Nat→Nat→St→Hp→Prop,(∃ m,W 0 m σ H1)∧∀ i m σ H,W i m σ H →
 (J.stop i H∧D.nx σ H)∨(J.go i H∧∃ N:St→Hp→Prop,(∀ σ' H',N σ' H'→∃ m',m'<m∧W (i+1) m' σ' H')∧∀ x H',J.yld i H x H'→g x σ H' fun σ2 H2=>tb { D with nx:=N,ct:=N,bk:=D.nx } σ2 H2)
noncomputable def lH (fp:List Addr) (h:Heap):List (Addr × Obj):=fp.filterMap fun b=>(h.get? b).map fun o=>(b,o)
theorem gY {fp:List Addr} {h:Heap} {b:Addr} {o:Obj} (hb:b ∈ fp) (e:h.get? b=some o):(b,o) ∈ lH fp h:=List.mem_filterMap.mpr ⟨b,hb,by rw [e]; rfl⟩
theorem EI {fp:List Addr} {h:Heap} {p:Addr × Obj} (hp:p ∈ lH fp h):p.1 ∈ fp∧h.get? p.1=some p.2:=by
 obtain ⟨b,hb,e⟩:=List.mem_filterMap.mp hp
 cases q:h.get? b with
 | none=>rw [q] at e; cases e
 | some o =>
  rw [q] at e
  have e':(b,o)=p:=Option.some.inj e
  subst e'
  exact ⟨hb,q⟩
theorem Inv.pinned {pins:List (Addr × Obj)} {σ:St} {H:Hp} {s:Shared} {fp:List Addr} (I:Inv X pins σ H s) (hf:∀ b ∈ fp,pB X pins H b) (ho:∀ b ∈ fp,∃ o,s.heap.get? b=some o∧∀ v,o.data≠.cell v):Inv X (pins++lH fp s.heap) σ H s:=
 I.pins_of fun p hp=>(List.mem_append.mp hp).elim (fun z=>I.pin p (List.mem_append_right _ z)) fun z=>by
  obtain ⟨hb,e⟩:=EI z
  obtain ⟨f0,f1,f2,_⟩:=hf p.1 hb
  obtain ⟨o,e',d⟩:=ho p.1 hb
  rw [e] at e'; cases e'
  exact ⟨e,f0,f1,f2,d⟩
theorem Inv.unpinned {pins pl:List (Addr × Obj)} {σ:St} {H:Hp} {s:Shared} (I:Inv X (pins++pl) σ H s):Inv X pins σ H s:=I.pins_of fun p hp=>I.pin p (List.mem_append_right _ (List.mem_append_left _ hp))
theorem YO {iter:Expr} {body:List Stmt} {wi:TI} {g:TG} {tb:TS} {pos:Pos} (hp:PassesOwn (model X.prog X.w) X.A X.env X.xe) (hc:X.calm=true) (hi:PI X tg iter wi) (hg:PG X tg g) (hb:PSs X body tb)
  (hs:∀ x,foldedSetIterable iter X.env x=pure x:=by intro _; rfl):PS X (.For tg iter body [] pos) (aIf wi g tb):=by
 intro pins s σ H D I h
 refine wpAny_For (thn (hi pins s σ H _ I h) fun v s1 h1=>thn h1 fun itv s2 h2=>?_) hs
 obtain ⟨it,fp,tn,J,H2,e,I2,T,st2,f2,W,⟨m0,w0⟩,turn⟩:=h2
 subst e
 have stat:∀ {H':Hp},(∀ b ∈ fp,H' b=none)→∀ b ∈ fp,pB X pins H' b:=fun hn b hb=>⟨hn b hb,(f2 b hb).2⟩
 refine codeAny_forLoop_any (fun n s'=>∃ i σ' H',Inv X pins σ' H' s'∧tn i s'.heap∧(∀ b ∈ fp,H' b=none)∧W i n σ' H') ?_ m0 ⟨0,σ,H2,I2,st2,fun b hb=>(f2 b hb).1,w0⟩
 rintro n s3 ⟨i,σ3,H3,I3,st3,fr3,w3⟩
 rcases turn i n σ3 H3 w3 with ⟨stop,qn⟩|⟨go,N,hN,step⟩
 ·refine wpAny_passesOwn hp (thn (T.done X rfl rfl rfl hc i pins s3 σ3 H3 X.xe I3 (stat fr3) st3 stop) fun r s4 ⟨hr,I4⟩=>?_)
  subst hr
  exact wpAny_execs_nil ⟨σ3,H3,I4,qn⟩
 ·refine wpAny_passesOwn hp (thn (T.item X rfl rfl rfl hc i pins s3 σ3 H3 X.xe I3 (stat fr3) st3 go) fun r s4 ⟨u,hr,h4⟩=>?_)
  subst hr
  refine wpAny_passesOwn hp (thn h4 fun _ s5 ⟨x,H5,I5,r5,y5,st5,fr5⟩=>?_)
  have I5':=I5.pinned (stat fr5) (T.obj _ _ st5)
  refine wpAny_passesOwn hp (thn (hg _ s5 σ3 H5 x u _ I5' r5 (step x H5 y5)) fun _ s6 ⟨σ6,H6,I6,q6⟩=>?_)
  refine wpAny_passesOwn hp (thn (hb _ s6 σ6 H6 _ I6 q6) fun f s7 q7=>?_)
  have again:∀ {σ7:St} {H7:Hp},Inv X (pins++lH fp s5.heap) σ7 H7 s7→N σ7 H7→∃ m,m<n∧∃ i σ' H',Inv X pins σ' H' s7∧tn i s7.heap∧(∀ b ∈ fp,H' b=none)∧W i m σ' H':=fun {σ7 H7} I7 n7=>by
   obtain ⟨m',hm,w7⟩:=hN σ7 H7 n7
   refine ⟨m',hm,i+1,σ7,H7,I7.unpinned,T.keep _ _ _ st5 fun b hb o e=>(I7.pin (b,o) (List.mem_append_right _ (List.mem_append_right _ (gY hb e)))).1,fun b hb=>?_,w7⟩
   obtain ⟨o,e,d⟩:=T.obj _ _ st5 b hb
   exact (I7.pin (b,o) (List.mem_append_right _ (List.mem_append_right _ (gY hb e)))).2.1
  cases f with
  | next=>obtain ⟨σ7,H7,I7,n7⟩:=q7; exact again I7 n7
  | cont=>obtain ⟨σ7,H7,I7,n7⟩:=q7; exact again I7 n7
  | brk=>obtain ⟨σ7,H7,I7,q7⟩:=q7; exact ⟨σ7,H7,I7.unpinned,q7⟩
  | ret v=>obtain ⟨x7,σ7,H7,I7,r7,q7⟩:=q7; exact ⟨x7,σ7,H7,I7.unpinned,r7,q7⟩
end
end L2
namespace L2
open PySem PySem.Spec PyProof.Rows
abbrev R2:=V→V→Hp→VK→Prop
def OpR (X:Cx) (f:Value→Value→Sem Value) (r:R2):Prop:=
 ∀ (pins:List (Addr × Obj)) (s:Shared) (σ:St) (H:Hp) (x y:V) (v u:Value) (Q:VK),Inv X pins σ H s→RelV x v→RelV y u→r x y H Q →
  wpAny (model X.prog X.w) X.A (f v u) (EP X pins σ Q) X.xe s
def UnR (X:Cx) (f:Value→Sem Value) (r:V→Hp→VK→Prop):Prop:=
 ∀ (pins:List (Addr × Obj)) (s:Shared) (σ:St) (H:Hp) (x:V) (v:Value) (Q:VK),Inv X pins σ H s→RelV x v→r x H Q →
  wpAny (model X.prog X.w) X.A (f v) (EP X pins σ Q) X.xe s
def eC (X:Cx) (f:Value) (r:List V→Hp→VK→Prop):Prop:=
 ∀ (pins:List (Addr × Obj)) (s:Shared) (σ:St) (H:Hp) (xs:List V) (us:List Value) (Q:VK),Inv X pins σ H s→aS xs us→r xs H Q →
  wpAny (model X.prog X.w) X.A (call f us) (EP X pins σ Q) X.xe s
def aJH (X:Cx) (r:V→Hp→(Bool→Hp→Prop)→Prop):Prop:=
 ∀ (pins:List (Addr × Obj)) (s:Shared) (σ:St) (H:Hp) (x:V) (v:Value) (Q:Bool→Hp→Prop),Inv X pins σ H s→RelV x v→r x H Q →
  wpAny (model X.prog X.w) X.A (truthy v) (TP X pins σ Q) X.xe s
def tOp (r:R2) (ta tb:TE):TE:=fun σ H Q=>ta σ H fun x H1=>tb σ H1 fun y H2=>r x y H2 Q
def tUn (r:V→Hp→VK→Prop) (ta:TE):TE:=fun σ H Q=>ta σ H fun x H1=>r x H1 Q
noncomputable def rI (C:Int→Int→Prop) (g:Int→Int→V):R2:=fun x y H Q=>∃ i j,x=.int i∧y=.int j∧C i j∧Q (g i j) H
noncomputable def rI0 (g:Int→Int→V):R2:=fun x y H Q=>∃ i j,x=.int i∧y=.int j∧Q (g i j) H
noncomputable def rU (g:Int→V):V→Hp→VK→Prop:=fun x H Q=>∃ i,x=.int i∧Q (g i) H
section
variable {X:Cx}{a b c:Expr}{ta tb tc:TE}{pos:Pos}
theorem aAU (ha:PE X a ta) (hb:PE X b tb) {pins:List (Addr × Obj)} {s:Shared} {σ:St} {H:Hp} {R:V→V→Hp→Prop} (I:Inv X pins σ H s)
  (h:ta σ H fun x H1=>tb σ H1 fun y H2=>R x y H2) {Q:Value→Shared→Prop} {f:Value→Value→Sem Value}
  (hf:∀ v u s2 x y H2,Inv X pins σ H2 s2→RelV x v→RelV y u→R x y H2→wpAny (model X.prog X.w) X.A (f v u) Q X.xe s2) :
  wpAny (model X.prog X.w) X.A (eval a X.env) (fun v s₁=>wpAny (model X.prog X.w) X.A (eval b X.env) (fun u s₂=>wpAny (model X.prog X.w) X.A (f v u) Q X.xe s₂) X.xe s₁) X.xe s:=by
 refine thn (ha pins s σ H _ I h) fun v s1 ⟨x,H1,I1,r1,q1⟩=>?_
 refine thn (hb pins s1 σ H1 _ I1 q1) fun u s2 ⟨y,H2,I2,r2,q2⟩=>?_
 exact hf v u s2 x y H2 I2 r1 r2 q2
theorem TK {op:Operator} {r:R2} (ho:OpR X (binaryOp op) r) (ha:PE X a ta) (hb:PE X b tb):PE X (.BinOp a op b pos) (tOp r ta tb):=by
 intro pins s σ H Q I h
 exact wpAny_BinOp (aAU ha hb I h fun v u s2 x y H2 I2 rx ry q=>ho pins s2 σ H2 x y v u Q I2 rx ry q)
theorem aDL {op:UnaryOp} {r:V→Hp→VK→Prop} (ho:UnR X (unaryOp op) r) (ha:PE X a ta):PE X (.UnaryOp op a pos) (tUn r ta):=by
 intro pins s σ H Q I h
 exact UnaryOp_ (thn (ha pins s σ H _ I h) fun v s1 ⟨x,H1,I1,r1,q1⟩=>ho pins s1 σ H1 x v Q I1 r1 q1)
theorem opI {f:Value→Value→Sem Value} {C:Int→Int→Prop} {g:Int→Int→Int}
  (rule:∀ (i j:Int) (t u:Tok) (s:Shared) (Q:Value→Shared→Prop) (E:Value→Shared→Prop),C i j→Q (.int (g i j) s.toks) { s with toks:=s.toks+1 }→wpAny (model X.prog X.w) X.A (f (.int i t) (.int j u)) Q E s) :
  OpR X f (rI C fun i j=>.int (g i j)):=by
 intro pins s σ H x y v u Q I rx ry h
 obtain ⟨i,j,rfl,rfl,hc,q⟩:=h
 obtain ⟨t,rfl⟩:=rx
 obtain ⟨t',rfl⟩:=ry
 exact rule i j t t' s _ _ hc ⟨.int (g i j),H,I.tok _,⟨_,rfl⟩,q⟩
theorem aDT {f:Value→Value→Sem Value} {g:Int→Int→Int}
  (rule:∀ (i j:Int) (t u:Tok) (s:Shared) (Q:Value→Shared→Prop) (E:Value→Shared→Prop),Q (.int (g i j) s.toks) { s with toks:=s.toks+1 }→wpAny (model X.prog X.w) X.A (f (.int i t) (.int j u)) Q E s) :
  OpR X f (rI0 fun i j=>.int (g i j)):=by
 intro pins s σ H x y v u Q I rx ry h
 obtain ⟨i,j,rfl,rfl,q⟩:=h
 obtain ⟨t,rfl⟩:=rx
 obtain ⟨t',rfl⟩:=ry
 exact rule i j t t' s _ _ ⟨.int (g i j),H,I.tok _,⟨_,rfl⟩,q⟩
theorem QG {f:Value→Value→Sem Value} {g:Int→Int→Bool}
  (rule:∀ (i j:Int) (t u:Tok) (s:Shared) (Q:Value→Shared→Prop) (E:Value→Shared→Prop),Q (.bool (g i j)) s→wpAny (model X.prog X.w) X.A (f (.int i t) (.int j u)) Q E s) :
  OpR X f (rI0 fun i j=>.bl (g i j)):=by
 intro pins s σ H x y v u Q I rx ry h
 obtain ⟨i,j,rfl,rfl,q⟩:=h
 obtain ⟨t,rfl⟩:=rx
 obtain ⟨t',rfl⟩:=ry
 exact rule i j t t' s _ _ ⟨.bl (g i j),H,I,rfl,q⟩
def aJT (i j:Int):Prop:=0<j∧j<1073741824
def aJS (i j:Int):Prop:=0≤j∧j≤1000000∧i.natAbs<2 ^ 64
def aBr (i j:Int):Prop:=(-(2 ^ 64)<i∧i<2 ^ 64)∨(-(2 ^ 64)<j∧j<2 ^ 64)
theorem aBr.ok {i j:Int} (h:aBr i j):IntMulOk i j:=by
 rcases h with ⟨h1,h2⟩|⟨h1,h2⟩
 ·exact .of_left (intBits_le_64 h1 h2)
 ·exact .of_right (intBits_le_64 h1 h2)
theorem ZG:OpR X (binaryOp .Add) (rI0 fun i j=>.int (i+j)):=aDT fun _ _ _ _ _ _ _ q=>add_int q
theorem ZA:OpR X (binaryOp .Sub) (rI0 fun i j=>.int (i-j)):=aDT fun _ _ _ _ _ _ _ q=>sub_int q
theorem ZD:OpR X (binaryOp .Mult) (rI aBr fun i j=>.int (i*j)):=opI fun _ _ _ _ _ _ _ hc q=>mul_int q hc.ok
theorem PX:OpR X (binaryOp .FloorDiv) (rI aJT fun i j=>.int (i / j)):=opI fun i j _ _ _ _ _ hc q=>by
 have h1:(0:Int)<j:=hc.1
 have h2:j<1073741824:=hc.2
 exact floordiv_int (by omega) (by rw [Int.fdiv_eq_ediv_of_nonneg i (by omega)]; exact q) (.inl (PyProof.noPylong_small (by omega)))
theorem ZE:OpR X (binaryOp .Mod) (rI (fun _ j=>0<j) fun i j=>.int (i % j)):=opI fun i j _ _ _ _ _ hc q=>by
 have h1:(0:Int)<j:=hc
 exact mod_int' (by omega) (by rw [Int.fmod_eq_emod_of_nonneg i (by omega)]; exact q)
theorem ZC:OpR X (binaryOp .Pow) (rI aJS fun i j=>.int (i ^ j.toNat)):=opI fun _ _ _ _ _ _ _ hc q=>pow_int_small hc.1 hc.2.1 hc.2.2 q
theorem unI {f:Value→Sem Value} {g:Int→Int}
  (rule:∀ (i:Int) (t:Tok) (s:Shared) (Q:Value→Shared→Prop) (E:Value→Shared→Prop),Q (.int (g i) s.toks) { s with toks:=s.toks+1 }→wpAny (model X.prog X.w) X.A (f (.int i t)) Q E s) :
  UnR X f (rU fun i=>.int (g i)):=by
 intro pins s σ H x v Q I rx h
 obtain ⟨i,rfl,q⟩:=h
 obtain ⟨t,rfl⟩:=rx
 exact rule i t s _ _ ⟨.int (g i),H,I.tok _,⟨_,rfl⟩,q⟩
theorem XA:UnR X (unaryOp .USub) (rU fun i=>.int (-i)):=unI fun _ _ _ _ _ q=>neg_int q
end
noncomputable def xM:V→V→Bool
 | .non,.non=>true | .non,.int _=>true | .int _,.non=>true | .non,.bl _=>true | .bl _,.non=>true | .non,.str _=>true | .str _,.non=>true
 | .int _,.int _=>true | .bl _,.bl _=>true | .str _,.str _=>true | .byt _,.byt _=>true
 | .int _,.str _=>true | .str _,.int _=>true | .bl _,.str _=>true | .str _,.bl _=>true
 | _,_=>false
noncomputable def rEq:R2:=fun x y H Q=>xM x y=true∧Q (.bl (decide (x=y))) H
noncomputable def rNe:R2:=fun x y H Q=>xM x y=true∧Q (.bl (!decide (x=y))) H
theorem CL {i j:Int}:decide (V.int i=V.int j)=(i == j):=by
 rw [Bool.eq_iff_iff]
 simp
theorem KO {i j:Bool}:decide (V.bl i=V.bl j)=(i == j):=by
 rw [Bool.eq_iff_iff]
 simp
theorem tY {i j:Str}:decide (V.str i=V.str j)=(i == j):=by
 rw [Bool.eq_iff_iff]
 simp
theorem CM {i j:Array UInt8}:decide (V.byt i=V.byt j)=(i.toList == j.toList):=by
 rw [Bool.eq_iff_iff]
 cases i
 cases j
 simp
section
variable {X:Cx}{a b c:Expr}{ta tb tc:TE}{pos:Pos}
theorem aZ {pins:List (Addr × Obj)} {σ:St} {H:Hp} {s:Shared} {Q:VK} {k k':Bool} (I:Inv X pins σ H s) (q:Q (.bl k) H) (e:k=k'):EP X pins σ Q (.bool k') s:=by
 subst e
 exact ⟨.bl k,H,I,rfl,q⟩
theorem aDS:OpR X (compareOp .Eq) rEq:=by
 intro pins s σ H x y v u Q I rx ry h
 obtain ⟨hs,q⟩:=h
 cases x with
 | non =>
  cases rx
  cases y with
  | non=>cases ry; exact PySem.EqNone.eq_none_none (aZ I q (by simp))
  | bl j=>cases ry; exact PySem.EqNone.eq_none_bool (aZ I q (by simp))
  | int j=>obtain ⟨t',rfl⟩:=ry; exact PySem.EqNone.eq_none_int (aZ I q (by simp))
  | str j=>obtain ⟨t',rfl⟩:=ry; exact PySem.EqNone.eq_none_str (aZ I q (by simp))
  | _=>exact absurd (show false=true from hs) Bool.false_ne_true
 | bl i =>
  cases rx
  cases y with
  | non=>cases ry; exact PySem.EqNone.eq_bool_none (aZ I q (by simp))
  | bl j=>cases ry; exact eq_bool (aZ I q KO)
  | str j=>obtain ⟨t',rfl⟩:=ry; exact PySem.EqMixed.eq_bool_str (aZ I q (by simp))
  | _=>exact absurd (show false=true from hs) Bool.false_ne_true
 | int i =>
  obtain ⟨t,rfl⟩:=rx
  cases y with
  | non=>cases ry; exact PySem.EqNone.eq_int_none (aZ I q (by simp))
  | int j=>obtain ⟨t',rfl⟩:=ry; exact eq_int (aZ I q CL)
  | str j=>obtain ⟨t',rfl⟩:=ry; exact PySem.EqMixed.eq_int_str (aZ I q (by simp))
  | _=>exact absurd (show false=true from hs) Bool.false_ne_true
 | str i =>
  obtain ⟨t,rfl⟩:=rx
  cases y with
  | non=>cases ry; exact PySem.EqNone.eq_str_none (aZ I q (by simp))
  | bl j=>cases ry; exact PySem.EqMixed.eq_str_bool (aZ I q (by simp))
  | int j=>obtain ⟨t',rfl⟩:=ry; exact PySem.EqMixed.eq_str_int (aZ I q (by simp))
  | str j=>obtain ⟨t',rfl⟩:=ry; exact eq_str (aZ I q tY)
  | _=>exact absurd (show false=true from hs) Bool.false_ne_true
 | byt i =>
  obtain ⟨t,rfl⟩:=rx
  cases y with
  | byt j=>obtain ⟨t',rfl⟩:=ry; exact PySem.W.eq_bytes (aZ I q CM)
  | _=>exact absurd (show false=true from hs) Bool.false_ne_true
 | _=>cases y<;>exact absurd (show false=true from hs) Bool.false_ne_true
theorem aDN:OpR X (compareOp .NotEq) rNe:=by
 intro pins s σ H x y v u Q I rx ry h
 obtain ⟨hs,q⟩:=h
 cases x with
 | non =>
  cases rx
  cases y with
  | non=>cases ry; exact PySem.EqNone.ne_none_none (aZ I q (by simp))
  | bl j=>cases ry; exact PySem.EqNone.ne_none_bool (aZ I q (by simp))
  | int j=>obtain ⟨t',rfl⟩:=ry; exact PySem.EqNone.ne_none_int (aZ I q (by simp))
  | str j=>obtain ⟨t',rfl⟩:=ry; exact PySem.EqNone.ne_none_str (aZ I q (by simp))
  | _=>exact absurd (show false=true from hs) Bool.false_ne_true
 | bl i =>
  cases rx
  cases y with
  | non=>cases ry; exact PySem.EqNone.ne_bool_none (aZ I q (by simp))
  | bl j=>cases ry; exact ne_bool (aZ I q (congrArg not KO))
  | str j=>obtain ⟨t',rfl⟩:=ry; exact PySem.EqMixed.ne_bool_str (aZ I q (by simp))
  | _=>exact absurd (show false=true from hs) Bool.false_ne_true
 | int i =>
  obtain ⟨t,rfl⟩:=rx
  cases y with
  | non=>cases ry; exact PySem.EqNone.ne_int_none (aZ I q (by simp))
  | int j=>obtain ⟨t',rfl⟩:=ry; exact ne_int (aZ I q (congrArg not CL))
  | str j=>obtain ⟨t',rfl⟩:=ry; exact PySem.EqMixed.ne_int_str (aZ I q (by simp))
  | _=>exact absurd (show false=true from hs) Bool.false_ne_true
 | str i =>
  obtain ⟨t,rfl⟩:=rx
  cases y with
  | non=>cases ry; exact PySem.EqNone.ne_str_none (aZ I q (by simp))
  | bl j=>cases ry; exact PySem.EqMixed.ne_str_bool (aZ I q (by simp))
  | int j=>obtain ⟨t',rfl⟩:=ry; exact PySem.EqMixed.ne_str_int (aZ I q (by simp))
  | str j=>obtain ⟨t',rfl⟩:=ry; exact ne_str (aZ I q (congrArg not tY))
  | _=>exact absurd (show false=true from hs) Bool.false_ne_true
 | byt i =>
  obtain ⟨t,rfl⟩:=rx
  cases y with
  | byt j=>obtain ⟨t',rfl⟩:=ry; exact PySem.W.ne_bytes (aZ I q (congrArg not CM))
  | _=>exact absurd (show false=true from hs) Bool.false_ne_true
 | _=>cases y<;>exact absurd (show false=true from hs) Bool.false_ne_true
theorem aDO:OpR X (compareOp .Lt) (rI0 fun i j=>.bl (decide (i<j))):=QG fun _ _ _ _ _ _ _ q=>lt_int q
theorem aDP:OpR X (compareOp .LtE) (rI0 fun i j=>.bl (decide (i≤j))):=QG fun _ _ _ _ _ _ _ q=>le_int q
theorem aDQ:OpR X (compareOp .Gt) (rI0 fun i j=>.bl (decide (j<i))):=QG fun _ _ _ _ _ _ _ q=>gt_int q
theorem aDR:OpR X (compareOp .GtE) (rI0 fun i j=>.bl (decide (j≤i))):=QG fun _ _ _ _ _ _ _ q=>ge_int q
theorem ZF:OpR X (compareOp .Is) (fun x y H Q=>y=.non∧Q (.bl (decide (x=.non))) H):=by
 intro pins s σ H x y v u Q I rx ry h
 obtain ⟨rfl,q⟩:=h
 cases ry
 refine is_none_gen (aZ I q ?_)
 cases x<;>first
  | (cases rx; rfl)
  | (obtain ⟨t,rfl⟩:=rx; rfl)
theorem PV:OpR X (compareOp .IsNot) (fun x y H Q=>y=.non∧Q (.bl (!decide (x=.non))) H):=by
 intro pins s σ H x y v u Q I rx ry h
 obtain ⟨rfl,q⟩:=h
 cases ry
 refine isnot_none_gen (aZ I q ?_)
 cases x<;>first
  | (cases rx; rfl)
  | (obtain ⟨t,rfl⟩:=rx; rfl)
theorem IH (b:Expr) {op:CmpOp} (h:op≠.In:=by decide) (h2:op≠.NotIn:=by decide):behindInMarks op b=false:=by
 have e1:(op == CmpOp.In)=false:=by cases op<;>first|rfl|exact absurd rfl h
 have e2:(op == CmpOp.NotIn)=false:=by cases op<;>first|rfl|exact absurd rfl h2
 cases b<;>simp [behindInMarks,e1,e2]
theorem AB {op:CmpOp} {r:R2} (ho:OpR X (compareOp op) r) (ha:PE X a ta) (hb:PE X b tb) (hm:behindInMarks op b=false):PE X (.Compare a [op] [b] pos) (tOp r ta tb):=by
 intro pins s σ H Q I h
 exact wpAny_Compare1 (aAU ha hb I h fun v u s2 x y H2 I2 rx ry q=>ho pins s2 σ H2 x y v u Q I2 rx ry q) hm
noncomputable def GI (t:TE):TT:=fun σ H Q=>t σ H fun x H'=>∃ k,x=.bl k∧Q k H'
theorem zX {op:CmpOp} {r:R2} (ho:OpR X (compareOp op) r) (ha:PE X a ta) (hb:PE X b tb) (hm:behindInMarks op b=false):PT X (.Compare a [op] [b] pos) (GI (tOp r ta tb)):=by
 intro pins s σ H Q I h
 refine wpAny_isTrue_Compare1 (thn (ha pins s σ H _ I h) fun v s1 ⟨x,H1,I1,r1,q1⟩=>thn (hb pins s1 σ H1 _ I1 q1) fun u s2 ⟨y,H2,I2,r2,q2⟩ =>
  thn (ho pins s2 σ H2 x y v u _ I2 r1 r2 q2) fun c s3 ⟨z,H3,I3,r3,k,e,q3⟩=>?_) hm
 subst e
 cases r3
 exact wpAny_truthy_bool ⟨H3,I3,q3⟩
def xI (r r':R2) (ta tb tc:TE):TE:=fun σ H Q=>ta σ H fun x H1=>tb σ H1 fun y H2=>r x y H2 fun z H3=>∃ k,z=.bl k ∧
 (if k=true then tc σ H3 fun w' H4=>r' y w' H4 Q else Q (.bl false) H3)
theorem vG {op op':CmpOp} {r r':R2} (ho:OpR X (compareOp op) r) (ho':OpR X (compareOp op') r') (ha:PE X a ta) (hb:PE X b tb) (hc:PE X c tc)
  (hm:lastMarks [op,op'] [b,c]=false:=by with_unfolding_all rfl):PE X (.Compare a [op,op'] [b,c] pos) (xI r r' ta tb tc):=by
 intro pins s σ H Q I h
 refine Compare_chain (thn (ha pins s σ H _ I h) fun v s1 ⟨x,H1,I1,r1,q1⟩=>chain_link (thn (hb pins s1 σ H1 _ I1 q1) fun u s2 ⟨y,H2,I2,r2,q2⟩ =>
  thn (ho pins s2 σ H2 x y v u _ I2 r1 r2 q2) fun d s3 ⟨z,H3,I3,r3,k,e,q3⟩=>?_)) hm
 subst e
 cases r3
 refine wpAny_truthy_bool ?_
 cases k with
 | false=>exact ite_ff ⟨.bl false,H3,I3,rfl,q3⟩
 | true=>exact ite_tt (chain_last (thn (hc pins s3 σ H3 _ I3 q3) fun w' s4 ⟨z',H4,I4,r4,q4⟩=>ho' pins s4 σ H4 y z' u w' Q I4 r2 r4 q4))
theorem vE {op op':CmpOp} {r r':R2} (ho:OpR X (compareOp op) r) (ho':OpR X (compareOp op') r') (ha:PE X a ta) (hb:PE X b tb) (hc:PE X c tc)
  (hm:lastMarks [op,op'] [b,c]=false:=by with_unfolding_all rfl):PT X (.Compare a [op,op'] [b,c] pos) (GI (xI r r' ta tb tc)):=by
 intro pins s σ H Q I h
 refine isTrue_chain (thn (ha pins s σ H _ I h) fun v s1 ⟨x,H1,I1,r1,q1⟩=>test_link (thn (hb pins s1 σ H1 _ I1 q1) fun u s2 ⟨y,H2,I2,r2,q2⟩ =>
  thn (ho pins s2 σ H2 x y v u _ I2 r1 r2 q2) fun d s3 ⟨z,H3,I3,r3,k,e,q3⟩=>?_)) hm
 subst e
 cases r3
 refine wpAny_truthy_bool ?_
 cases k with
 | false =>
  obtain ⟨k',e',q'⟩:=q3
  cases e'
  exact ite_ff ⟨H3,I3,q'⟩
 | true =>
  refine ite_tt (test_last (thn (hc pins s3 σ H3 _ I3 q3) fun w' s4 ⟨z',H4,I4,r4,q4⟩=>thn (ho' pins s4 σ H4 y z' u w' _ I4 r2 r4 q4) fun d' s5 ⟨z2,H5,I5,r5,k2,e2,q5⟩=>?_))
  subst e2
  cases r5
  exact wpAny_truthy_bool ⟨H5,I5,q5⟩
def aAW (K:PySem.W.Frag) (x:V) (H:Hp) (k:Bool):Prop:=
 match x with
 | .non=>k=false
 | .bl b=>k=b
 | .int i=>k=(i != 0)
 | .str y=>y.length≤sizeLine∧k=((y.length:Int) != 0)
 | .byt y=>y.size≤sizeLine∧k=((y.size:Int) != 0)
 | .ref p=>(∃ xs,SqL K H p xs∧k=!xs.isEmpty)∨(∃ xs,SqT K H p xs∧k=!xs.isEmpty)∨∃ kvs,H p=some (.dK kvs)∧k=!kvs.isEmpty
 | _=>False
theorem yR {κ:Type} {kvs:List (κ × V)} {vs:List (κ × Value)} (r:KV kvs vs):(!vs.isEmpty)=!kvs.isEmpty:=by
 cases r<;>rfl
theorem nY {xs:List V} {its:List Value} (r:aS xs its):(!its.toArray.isEmpty)=!xs.isEmpty:=by
 cases r<;>simp
theorem jW:(sizeLine:Nat)<2 ^ 63:=by rw [sizeLine_eq]; decide
theorem GG:aJH X (fun x H Q=>∃ k,aAW X.K x H k∧Q k H):=by
 intro pins s σ H x v Q I rx h
 obtain ⟨k,e,q⟩:=h
 have hl:=jW
 have hs:sizeLine=16777216:=sizeLine_eq
 cases x with
 | non =>
  cases rx
  have e':k=false:=e
  subst e'
  exact truthy_none ⟨H,I,q⟩
 | bl b =>
  cases rx
  have e':k=b:=e
  subst e'
  exact wpAny_truthy_bool ⟨H,I,q⟩
 | int i =>
  obtain ⟨t,rfl⟩:=rx
  have e':k=(i != 0):=e
  subst e'
  exact PySem.P.truthy_int ⟨H,I,q⟩
 | str y =>
  obtain ⟨t,rfl⟩:=rx
  obtain ⟨hy,e'⟩:y.length≤sizeLine∧k=((y.length:Int) != 0):=e
  subst e'
  exact PySem.P.truthy_str (by omega) ⟨H,I.tok _,q⟩
 | byt y =>
  obtain ⟨t,rfl⟩:=rx
  obtain ⟨hy,e'⟩:y.size≤sizeLine∧k=((y.size:Int) != 0):=e
  subst e'
  exact PySem.W.truthy_bytes (by omega) ⟨H,I.tok _,q⟩
 | ref p =>
  cases rx
  have e':(∃ xs,SqL X.K H p xs∧k=!xs.isEmpty)∨(∃ xs,SqT X.K H p xs∧k=!xs.isEmpty)∨∃ kvs,H p=some (.dK kvs)∧k=!kvs.isEmpty:=e
  rcases e' with ⟨xs,hx,e'⟩|⟨xs,hx,e'⟩|⟨kvs,hx,e'⟩
  ·subst e'
   obtain ⟨its,r,pl,hz⟩:=I.list hx
   have hlen:=r.length
   exact wpAny_truthy_list pl.isList (by simp only [List.size_toArray]; omega) ⟨H,I.tok _,by rw [nY r]; exact q⟩
  ·subst e'
   obtain ⟨its,r,pl,hz⟩:=I.tuple hx
   have hlen:=r.length
   exact truthy_tuple pl (by simp only [List.size_toArray]; omega) ⟨H,I.tok _,by rw [nY r]; exact q⟩
  ·subst e'
   obtain ⟨hz,hS,vs,r,m⟩:kvs.length≤sizeLine∧(p == sysModules)=false∧∃ vs,KV kvs vs∧s.heap.DictOf (cJ X.prog X.w) p vs:=I.hok p _ hx
   have hlen:kvs.length=vs.length:=Paired.length r
   exact wpAny_truthy_dict hS m (by omega) ⟨H,I.tok _,by rw [yR r]; exact q⟩
 | _=>exact (show False from e).elim
theorem HA (ha:PE X a ta) (he:∀ whole,isTrue a X.env whole=(do let v ← whole; standAt a.pos; holding [v] (truthy v))) :
  PT X a (fun σ H Q=>ta σ H fun x H'=>∃ k,aAW X.K x H' k∧Q k H'):=by
 intro pins s σ H Q I h
 exact isTrue_plain (thn (ha pins s σ H _ I h) fun v s1 ⟨x,H1,I1,r1,q1⟩=>GG pins s1 σ H1 x v Q I1 r1 q1) (he _)
theorem yB:OpR X (binaryOp .Add) (fun x y H Q=>∃ i j,x=.str i∧y=.str j∧i.length+j.length≤sizeLine∧Q (.str (i++j)) H):=by
 intro pins s σ H x y v u Q I rx ry h
 obtain ⟨i,j,rfl,rfl,hz,q⟩:=h
 obtain ⟨t,rfl⟩:=rx
 obtain ⟨t',rfl⟩:=ry
 exact add_str (fun t' tk=>⟨.str (i++j),H,I.tok _,⟨_,rfl⟩,q⟩) hz
theorem vals1 {x:V} {us:List Value} (r:aS [x] us):∃ u,us=[u]∧RelV x u:=by
 cases r with
 | cons r1 r2=>cases r2; exact ⟨_,rfl,r1⟩
theorem vals2 {x y:V} {us:List Value} (r:aS [x,y] us):∃ u w',us=[u,w']∧RelV x u∧RelV y w':=by
 cases r with
 | cons r1 r2 =>
  cases r2 with
  | cons r3 r4=>cases r4; exact ⟨_,_,rfl,r1,r3⟩
theorem FT (hc:X.calm=true):eC X (.builtin "max") (fun xs H Q=>∃ i j,xs=[.int i,.int j]∧Q (.int (if j > i then j else i)) H):=by
 intro pins s σ H xs us Q I r h
 obtain ⟨i,j,rfl,q⟩:=h
 obtain ⟨u,w',rfl,⟨t,rfl⟩,⟨t',rfl⟩⟩:=vals2 r
 refine max_two_ints (I.ok.hd hc) fun h' tk k=>⟨_,H,I.kept k,?_,q⟩
 by_cases hj:j > i
 ·rw [if_pos hj,if_pos hj]; exact ⟨_,rfl⟩
 ·rw [if_neg hj,if_neg hj]; exact ⟨_,rfl⟩
theorem FS (hc:X.calm=true):eC X (.builtin "min") (fun xs H Q=>∃ i j,xs=[.int i,.int j]∧Q (.int (if j<i then j else i)) H):=by
 intro pins s σ H xs us Q I r h
 obtain ⟨i,j,rfl,q⟩:=h
 obtain ⟨u,w',rfl,⟨t,rfl⟩,⟨t',rfl⟩⟩:=vals2 r
 refine min_two_ints (I.ok.hd hc) fun h' tk k=>⟨_,H,I.kept k,?_,q⟩
 by_cases hj:j<i
 ·rw [if_pos hj,if_pos hj]; exact ⟨_,rfl⟩
 ·rw [if_neg hj,if_neg hj]; exact ⟨_,rfl⟩
theorem qM:eC X (.type "int") (fun xs H Q=>(∃ i,xs=[.int i]∧Q (.int i) H)∨∃ k,xs=[.bl k]∧Q (.int (if k then 1 else 0)) H):=by
 intro pins s σ H xs us Q I r h
 rcases h with ⟨i,rfl,q⟩|⟨k,rfl,q⟩
 ·obtain ⟨u,rfl,t,rfl⟩:=vals1 r
  exact call_int_int ⟨.int i,H,I,⟨_,rfl⟩,q⟩
 ·obtain ⟨u,rfl,r1⟩:=vals1 r
  cases r1
  exact call_int_bool ⟨.int (if k then 1 else 0),H,I.tok _,⟨_,rfl⟩,q⟩
end
end L2
namespace L2
open PySem PySem.Spec PyProof.Rows
structure ObjM (h:Heap) (x dx C:Addr) (mA:Str→Option Value):Prop where
 obj:h.get? x=some (PySem.W.instObj C dx)
 ns:h.Ns1 dx mA
 ne:dx≠x
theorem EO {h:Heap} {dx:Addr} {mA:Str→Option Value} (n:h.Ns1 dx mA):∃ od,h.get? dx=some od∧∀ name,PySem.W.lookIn name od=some (mA name):=by
 obtain ⟨o,es,ep,ho,hd,hk,_,hm⟩:=n
 refine ⟨o,ho,fun name=>?_⟩
 have e:=hm name
 unfold nsFind findBy at e
 rw [← Array.find?_toList] at e
 unfold PySem.W.lookIn
 rw [hd]
 dsimp only
 split
 ·rename_i y q
  rw [q] at e
  exact congrArg some e
 ·rename_i q
  rw [q] at e
  have a:es.toList.any (·.refKey)=false:=by
   rw [List.any_eq_false]
   intro y hy
   obtain ⟨z,t,hkey⟩:=hk y (Array.mem_toList_iff.mp hy)
   simp [DictEntry.refKey,hkey]
  have a':¬ es.toList.any (·.refKey)=true:=by rw [a]; exact Bool.false_ne_true
  rw [if_neg a']
  exact congrArg some e
theorem ObjM.look {h:Heap} {x dx C:Addr} {mA:Str→Option Value} (I:ObjM h x dx C mA):∃ od,PySem.W.InstAt h x (PySem.W.instObj C dx) C (some od)∧∀ name,PySem.W.lookIn name od=some (mA name):=
 let ⟨od,ho,hl⟩:=EO I.ns
 ⟨od,⟨I.obj,rfl,rfl,ho⟩,hl⟩
section
variable {prog:Program}{w:World}{A:Around}{E:Value→Shared→Prop}{s:Shared}{K:PySem.W.Frag}{x dx C f:Addr}{mA:Str→Option Value}{name:Str}{v:Value}
theorem get_map {expr:Bool} {Q:Value→Shared→Prop} (X:K.In s.heap) (I:ObjM s.heap x dx C mA) (hg:PySem.W.plainGet K C name=true) (hh:PySem.W.hasDictIn K C=true)
  (ha:PySem.W.findIn K (.ref C) name=some none) (hv:mA name=some v) (hv':PySem.W.handedIn v=true) (h:Q v { s with toks:=s.toks+1 }) :
  wpAny (model prog w) A (getAttr (.ref x) name expr) Q E s:=by
 obtain ⟨od,J,hl⟩:=I.look
 exact PySem.W.get_value X J (PySem.W.plainGet_of hg).1 (PySem.W.findObj_own hh ha rfl (by rw [hl,hv])) hv' h
theorem JR {pl:Sem Bool} {Q:Value × List Value→Shared→Prop} (X:K.In s.heap) (I:ObjM s.heap x dx C mA) (hg:PySem.W.plainGet K C name=true)
  (hf:PySem.W.findIn K (.ref C) name=some (some (.ref f))) (ht:PySem.W.isFn K (.ref f)=true) (hv:mA name=none) (h:Q (.ref f,[.ref x]) s) :
  wpAny (model prog w) A (getMethod (.ref x) name pl) Q E s:=by
 obtain ⟨od,J,hl⟩:=I.look
 exact PySem.W.method_fn X J (PySem.W.plainGet_of hg).1 (PySem.W.plainGet_of hg).2 hf (beq_iff_eq.mp ht) (by show (PySem.W.lookIn name od).map (·.isSome)=some false; rw [hl,hv]; rfl) h
theorem NW {ns:List Str} {Q:Unit→Shared→Prop} (X:K.In s.heap) (I:ObjM s.heap x dx C mA)
  (hs:PySem.W.findIn K (.ref C) "__setattr__" = some (some (.builtin "object.__setattr__"))) (hp:PySem.W.plainOver K C=true) (ht:PySem.W.takerIn K C name=some none) (hh:PySem.W.hasDictIn K C=true)
  (hw:PySem.Within mA ns) (hsz:ns.length≤sizeLine)
  (h:∀ h',ObjM h' x dx C (fun y=>if y=name then some v else mA y)→Heap.SameBut dx s.heap h'→Q () { s with heap:=h',toks:=s.toks+2 }) :
  wpAny (model prog w) A (setAttr (.ref x) name v) Q E s:=by
 obtain ⟨od,J,hl⟩:=I.look
 refine PySem.W.set_plain X J hs (PySem.W.osa_open (s:={ s with toks:=s.toks+1 }) (r:=none) X J hp ht fun b=>?_)
 obtain ⟨cd,hc,hd'⟩:=PySem.W.any_some hh
 have hx:s.heap.get? x=some ⟨.ref C,some dx,.plain,#[]⟩:=I.obj
 refine wpAny_bind (wpAny_pure (wpAny_bind (wpAny_bind (wpAny_loadPart hx (wpAny_bind (PySem.W.Looks.here (s:={ s with toks:=s.toks+1 }) (PySem.W.looks_clsIn X hc) ?_))))))
 rw [hd']
 refine wpAny_pure (a:=some dx) (wpAny_bind (wpAny_pure (wpAny_bind ?_)))
 refine wpAny_nsSet1 (s:={ s with toks:=s.toks+1 }) I.ns fun h' hn2 hs2=>?_
 obtain ⟨oD,esD,epD,hoD,hdD,hcD⟩:=hn2.count (PySem.Within.cons name v hw)
 refine wpAny_bind (wpAny_lookBehind hoD (by rw [hdD]; exact pastItsLine_dict (Nat.le_trans hcD (by rw [List.length_cons]; omega))) ?_)
 exact wpAny_pure (h _ ⟨(hs2.2 _ (Ne.symm I.ne)).trans I.obj,hn2,I.ne⟩ hs2)
theorem IP {R:Result→Shared→Prop} {vs:List Value} {kw:List (Str × Value)} (X:K.In s.heap) (hm:PySem.W.makesIn K C=true)
  (hi:PySem.W.findIn K (.ref C) "__init__" = some (some (.ref f))) (hf:PySem.W.typeIn K (.ref f)=some (.type "function"))
  (h:codeAny (model prog w) (A.under (.builtin "type.__call__" ⟨.ref C::vs,kw⟩)) (.call (.ref f) ⟨.ref (s.heap.objs.size+1)::vs,kw⟩) (PySem.W.InitBack (s.heap.objs.size+1) R)
   {s with heap:=(s.heap.push PySem.W.emptyDict).push (PySem.W.instObj C s.heap.objs.size) }) :
  codeAny (model prog w) A (.call (.ref C) ⟨vs,kw⟩) R s:=by
 obtain ⟨hh,g,d,t,os⟩:=s
 exact PySem.W.make_core (PySem.W.makes_of X hm) (PySem.W.looks_findIn X hi) (fun self=>PySem.W.bind_fn X self hf) (.inl rfl) h
end
noncomputable def iB (f:Str) (v:V):List (Str × V)→List (Str × V)
 | []=>[(f,v)]
 | (g,x)::r=>if g=f then (g,v)::r else (g,x)::iB f v r
theorem lY (f g:Str) (v:V):∀ fs:List (Str × V),(iB f v fs).lookup g=if g=f then some v else fs.lookup g
 | []=>by
  show List.lookup g [(f,v)]=_
  by_cases h:g=f
  ·have hb:(g == f)=true:=beq_iff_eq.mpr h
   simp only [List.lookup,hb,if_pos h]
  ·have hb:(g == f)=false:=beq_eq_false_iff_ne.mpr h
   simp only [List.lookup,hb,if_neg h]
 | (k,x)::r=>by
  have ih:=lY f g v r
  rw [show iB f v ((k,x)::r)=(if k=f then (k,v)::r else (k,x)::iB f v r) from rfl]
  by_cases hk:k=f
  ·rw [if_pos hk]
   by_cases h:g=k
   ·have hb:(g == k)=true:=beq_iff_eq.mpr h
    simp only [List.lookup,hb,if_pos (h.trans hk)]
   ·have hb:(g == k)=false:=beq_eq_false_iff_ne.mpr h
    simp only [List.lookup,hb,if_neg (fun e:g=f=>h (e.trans hk.symm))]
  ·rw [if_neg hk]
   by_cases h:g=k
   ·have hb:(g == k)=true:=beq_iff_eq.mpr h
    simp only [List.lookup,hb,if_neg (fun e:g=f=>hk (h.symm.trans e))]
   ·have hb:(g == k)=false:=beq_eq_false_iff_ne.mpr h
    simp only [List.lookup,hb]
    exact ih
theorem lN (f:Str) (v:V):∀ fs:List (Str × V),f ∈ (iB f v fs).map (·.1)∧∀ g,g ∈ fs.map (·.1)→g ∈ (iB f v fs).map (·.1)
 | []=>⟨by simp [iB],fun g h=>by simp at h⟩
 | (k,x)::r=>by
  obtain ⟨i1,i2⟩:=lN f v r
  rw [show iB f v ((k,x)::r)=(if k=f then (k,v)::r else (k,x)::iB f v r) from rfl]
  by_cases hk:k=f
  ·rw [if_pos hk]
   subst hk
   exact ⟨by simp,fun g h=>by simpa using h⟩
  ·rw [if_neg hk]
   refine ⟨?_,fun g h=>?_⟩
   ·rw [List.map_cons]
    exact List.mem_cons_of_mem _ i1
   ·rw [List.map_cons] at h ⊢
    rcases List.mem_cons.mp h with e|e
    ·exact List.mem_cons.mpr (.inl e)
    ·exact List.mem_cons_of_mem _ (i2 g e)
theorem mB (f:Str) (v:V):∀ fs:List (Str × V),(iB f v fs).length≤fs.length+1
 | []=>by simp [iB]
 | (k,x)::r=>by
  have ih:=mB f v r
  rw [show iB f v ((k,x)::r)=(if k=f then (k,v)::r else (k,x)::iB f v r) from rfl]
  by_cases hk:k=f
  ·rw [if_pos hk,List.length_cons,List.length_cons]; omega
  ·rw [if_neg hk,List.length_cons,List.length_cons]; omega
theorem jM.some_of {v:V} {o:Option Value} (r:jM (some v) o):∃ u,o=some u∧RelV v u:=by
 cases o with
 | none=>exact (show False from r).elim
 | some u=>exact ⟨u,rfl,r⟩
theorem jM.none_of {o:Option Value} (r:jM none o):o=none:=by
 cases o with
 | none=>rfl
 | some u=>exact (show False from r).elim
theorem FA {v:V} {u:Value} (r:RelV v u):PySem.W.handedIn u=true:=by
 cases v with
 | non=>cases (show u=Value.none from r); rfl
 | bl b=>cases (show u=Value.bool b from r); rfl
 | int i=>obtain ⟨t,e⟩:=(show ∃ t,u=Value.int i t from r); cases e; rfl
 | str x=>obtain ⟨t,e⟩:=(show ∃ t,u=Value.str x t from r); cases e; rfl
 | byt b=>obtain ⟨t,e⟩:=(show ∃ t,u=Value.bytes b t from r); cases e; rfl
 | flt b=>obtain ⟨t,e⟩:=(show ∃ t,u=Value.float b t from r); cases e; rfl
 | ref a=>cases (show u=Value.ref a from r); rfl
 | ty n=>cases (show u=Value.type n from r); rfl
section
variable {P:Program}{w:World}{H H':Hp}{h h':Heap}{a C dx:Addr}{fs fs':List (Str × V)}
theorem mW (hok:HOk P w H h) (e:H a=some (.ins C dx fs)):∃ mA,ObjM h a dx C mA∧(∀ f,jM (fs.lookup f) (mA f))∧PySem.Within mA (fs.map (·.1))∧fs.length≤1000∧H dx=some (.own a):=by
 obtain ⟨d,z,ne,ob,mA,n,r,q⟩:=(show bU P w H h a (.ins C dx fs) from hok a _ e)
 exact ⟨mA,⟨ob,n,ne⟩,r,q,z,d⟩
end
structure Cls (K:PySem.W.Frag) (C:Addr):Prop where
 pg:PySem.W.plainGet K C Str.empty=true
 hd:PySem.W.hasDictIn K C=true
 po:PySem.W.plainOver K C=true
 sa:PySem.W.findIn K (.ref C) "__setattr__" = some (some (.builtin "object.__setattr__"))
theorem Cls.get {K:PySem.W.Frag} {C:Addr} (c:Cls K C) (f:Str):PySem.W.plainGet K C f=true:=c.pg
def dZ (K:PySem.W.Frag) (C:Addr) (f:Str):Prop:=PySem.W.findIn K (.ref C) f=some none
theorem dZ.taker {K:PySem.W.Frag} {C:Addr} {f:Str} (n:dZ K C f):PySem.W.takerIn K C f=some none:=by
 unfold PySem.W.takerIn
 rw [show PySem.W.findIn K (.ref C) f=some none from n]
 rfl
structure Con (K:PySem.W.Frag) (C:Addr) (f:Str) (v:V) (u:Value):Prop where
 at_:PySem.W.findIn K (.ref C) f=some (some u)
 rel:RelV v u
 get:PySem.W.specialIn K u "__get__" = some none
 cp:PySem.W.copiedNames.contains f=false
structure Meth (K:PySem.W.Frag) (C:Addr) (m:Str) (f:Addr):Prop where
 at_:PySem.W.findIn K (.ref C) m=some (some (.ref f))
 fn:PySem.W.isFn K (.ref f)=true
 kp:PySem.W.keepIn K (.ref f)=true
section
variable {X:Cx}{pins:List (Addr × Obj)}{σ:St}{H:Hp}{s:Shared}{a C dx:Addr}{fs:List (Str × V)}{f:Str}{v:V}{A:Around}{E:Value→Shared→Prop}
theorem yV {b:Bool} {Q:Value→Shared→Prop} (I:Inv X pins σ H s) (e:H a=some (.ins C dx fs)) (c:Cls X.K C) (n:dZ X.K C f) (l:fs.lookup f=some v)
  (h:∀ u s',Inv X pins σ H s'→RelV v u→Q u s'):wpAny (model X.prog X.w) A (getAttr (.ref a) f b) Q E s:=by
 obtain ⟨mA,O,r,_,_,_⟩:=mW I.hok e
 obtain ⟨u,hu,ru⟩:=jM.some_of (v:=v) (o:=mA f) (by rw [← l]; exact r f)
 exact get_map I.kIn O (c.get f) c.hd n hu (FA ru) (h u _ (I.tok _) ru)
theorem oE {m:Str} {g:Addr} {pl:Sem Bool} {Q:Value × List Value→Shared→Prop} (I:Inv X pins σ H s) (e:H a=some (.ins C dx fs)) (c:Cls X.K C) (k:Meth X.K C m g) (l:fs.lookup m=none)
  (h:Q (.ref g,[.ref a]) s):wpAny (model X.prog X.w) A (getMethod (.ref a) m pl) Q E s:=by
 obtain ⟨mA,O,r,_,_,_⟩:=mW I.hok e
 have hn:mA m=none:=jM.none_of (by rw [← l]; exact r m)
 exact JR I.kIn O (c.get m) k.at_ k.fn hn h
theorem xK {y:V} {u:Value} {Q:Unit→Shared→Prop} (I:Inv X pins σ H s) (e:H a=some (.ins C dx fs)) (c:Cls X.K C) (n:dZ X.K C f) (hl:fs.length<1000) (ry:RelV y u)
  (h:∀ s',Inv X pins σ (upd H a (.ins C dx (iB f y fs))) s'→Q () s'):wpAny (model X.prog X.w) A (setAttr (.ref a) f u) Q E s:=by
 obtain ⟨mA,O,r,wi,_,ho⟩:=mW I.hok e
 have hz:(fs.map (·.1)).length≤sizeLine:=by rw [List.length_map,sizeLine_eq]; omega
 refine NW I.kIn O c.sa c.po n.taker c.hd wi hz fun h' O' sb=>h _ ?_
 have hd:∃ o,h'.get? dx=some o:=let ⟨o,_,_,e',_⟩:=O'.ns; ⟨o,e'⟩
 refine I.write (x:=a) (e:=dx) (by rw [e]; exact True.intro) (.inr ho) (fun b q hb z=>(sb.2 b hb).trans z) hd ?_
 refine ⟨by rw [aM O.ne]; exact ho,?_,O.ne,O'.obj,_,O'.ns,fun g=>?_,fun g hg=>?_⟩
 ·have:=mB f y fs; omega
 ·show jM ((iB f y fs).lookup g) (if g=f then some u else mA g)
  rw [lY]
  by_cases q:g=f
  ·rw [if_pos q,if_pos q]; exact ry
  ·rw [if_neg q,if_neg q]; exact r g
 ·by_cases q:g=f
  ·rw [q]; exact (lN f y fs).1
  ·refine (lN f y fs).2 g (wi g fun z=>hg ?_)
   show (if g=f then some u else mA g)=none
   rw [if_neg q]; exact z
theorem Inv.made (I:Inv X pins σ H s):Inv X pins σ (upd (upd H s.heap.objs.size (.own (s.heap.objs.size+1))) (s.heap.objs.size+1) (.ins C s.heap.objs.size []))
  {s with heap:=(s.heap.push PySem.W.emptyDict).push (PySem.W.instObj C s.heap.objs.size) }:=by
 have e1:(s.heap.push PySem.W.emptyDict).get? s.heap.objs.size=some PySem.W.emptyDict:=Heap.get?_push_size s.heap rfl
 have e2:((s.heap.push PySem.W.emptyDict).push (PySem.W.instObj C s.heap.objs.size)).get? (s.heap.objs.size+1)=some (PySem.W.instObj C s.heap.objs.size):=by
  have:=Heap.get?_push_size (s.heap.push PySem.W.emptyDict) (o:=PySem.W.instObj C s.heap.objs.size) rfl
  rwa [Heap.size_push] at this
 have e3:(s.heap.push PySem.W.emptyDict).Ns s.heap.objs.size (fun _=>none):=⟨PySem.W.emptyDict,#[],_,e1,rfl,(fun e he=>absurd he (by simp)),fun _=>rfl⟩
 have I1:=I.laid (a:=s.heap.objs.size) (o:=.own (s.heap.objs.size+1)) (h':=s.heap.push PySem.W.emptyDict) (t':=s.toks) (fun b u q=>Heap.get?_push_of_some _ q) (Nat.le_refl _) ⟨_,e1⟩
 refine I1.laid (a:=s.heap.objs.size+1) (o:=.ins C s.heap.objs.size []) (t':=s.toks) (fun b u q=>Heap.get?_push_of_some _ q) (Nat.le_of_eq (Heap.size_push _ _)) ?_
 have ne:s.heap.objs.size≠s.heap.objs.size+1:=Nat.ne_of_lt (Nat.lt_succ_self _)
 refine ⟨by rw [aM ne,aJ],Nat.zero_le _,ne,e2,fun _=>none,(Heap.Ns1.of_empty e3).at fun o q=>Heap.get?_push_of_some _ q,fun _=>True.intro,fun y hy=>absurd rfl hy⟩
theorem SH {prog:Program} {w:World} {env:Env} {e:Expr} {f:Str} {pos:Pos} {s:Shared} {Q:Value→Shared→Prop} (hb:attributeBase e f env (eval e env)=eval e env)
  (h:wpAny (model prog w) A (eval e env) (fun o s₁=>wpAny (model prog w) A (getAttr o f true) Q E s₁) E s):wpAny (model prog w) A (eval (.Attribute e f pos) env) Q E s:=
 Attribute_any_ h (by rw [arm_eval_Attribute,hb])
end
def aIg (K:PySem.W.Frag) (ta:TE) (f:Str):TE:=fun σ H Q=>ta σ H fun x H1=>∃ a C dx fs v,x=.ref a∧H1 a=some (.ins C dx fs)∧Cls K C∧dZ K C f∧fs.lookup f=some v∧Q v H1
def aIr (K:PySem.W.Frag) (ta tv:TE) (f:Str):TS:=fun D σ H=>tv σ H fun y H1=>ta σ H1 fun x H2=>∃ a C dx fs,x=.ref a∧H2 a=some (.ins C dx fs)∧Cls K C∧dZ K C f∧fs.length<1000 ∧
 D.nx σ (upd H2 a (.ins C dx (iB f y fs)))
section
variable {X:Cx}{o e value:Expr}{f:Str}{pos pos' tpos:Pos}{ta tv:TE}
theorem YZ (he:PE X e ta) (hb:attributeBase e f X.env (eval e X.env)=eval e X.env):PE X (.Attribute e f pos) (aIg X.K ta f):=by
 intro pins s σ H Q I h
 refine SH hb (thn (he pins s σ H _ I h) fun u s1 ⟨x,H1,I1,rx,a,C,dx,fs,v,ex,ea,c,n,l,q⟩=>?_)
 subst ex
 obtain rfl:u=Value.ref a:=rx
 exact yV I1 ea c n l fun u' s2 I2 ru=>⟨v,H1,I2,ru,q⟩
theorem YQ (ha:PE X o ta) (hv:PE X value tv) (hs:swapsWith value (some (.Attribute o f pos')) pos.line X.env=pure false):PS X (.Assign [.Attribute o f pos'] value pos) (aIr X.K ta tv f):=by
 intro pins s σ H D I h
 refine plainObj_wpAny_Assign_Attribute (thn (hv pins s σ H _ I h) fun u s1 ⟨y,H1,I1,ry,q⟩=>thn (ha pins s1 σ H1 _ I1 q) fun ov s2 ⟨x,H2,I2,rx,a,C,dx,fs,ex,ea,c,n,l,q2⟩=>?_) hs
 subst ex
 obtain rfl:ov=Value.ref a:=rx
 exact xK I2 ea c n l ry fun s3 I3=>⟨σ,_,I3,q2⟩
end
section
variable {X:Cx}{pins:List (Addr × Obj)}{σ:St}{H:Hp}{s:Shared}{A:Around}{E:Value→Shared→Prop}{Q:Value→Shared→Prop}{c:Value}{b:Bool}
inductive TyOf (K:PySem.W.Frag) (H:Hp):V→Value→Prop where
 | non:TyOf K H .non (.type "NoneType")
 | bl (x:Bool):TyOf K H (.bl x) (.type "bool")
 | int (i:Int):TyOf K H (.int i) (.type "int")
 | str (x:Str):TyOf K H (.str x) (.type "str")
 | flt (x:UInt64):TyOf K H (.flt x) (.type "float")
 | lst {a:Addr} {xs:List V} (e:H a=some (.lst xs)):TyOf K H (.ref a) (.type "list")
 | frz {a:Addr} {o:Obj} {xs:List V} (e:H a=some (.frz o (.lst xs))):TyOf K H (.ref a) (.type "list")
 | tup {a:Addr} {xs:List V} (e:H a=some (.tup xs)):TyOf K H (.ref a) (.type "tuple")
 | dK {a:Addr} {kvs:List (Key × V)} (e:H a=some (.dK kvs)):TyOf K H (.ref a) (.type "dict")
 | dT {a:Addr} {kvs:List (List Key × V)} (e:H a=some (.dT kvs)):TyOf K H (.ref a) (.type "dict")
 | ins {a C dx:Addr} {fs:List (Str × V)} (e:H a=some (.ins C dx fs)) (cl:Cls K C) (ha:PySem.W.findIn K (.ref C) "__class__" = some (some (.builtin "object.__class__")))
   (hn:PySem.W.specialIn K (.builtin "object.__class__") "__get__" = some (some (.builtin "getset_descriptor.__get__"))) (htk:PySem.W.takesIn K (.builtin "object.__class__")=some true)
   (hm:PySem.W.mroIn K C (.type "object")=some true):TyOf K H (.ref a) (.ref C)
theorem gM {x:V} {u t:Value} (I:Inv X pins σ H s) (rx:RelV x u) (ty:TyOf X.K H x t) (e:PySem.W.kitOne X.K t c=some b) (h:∀ tk,Q (.bool b) { s with toks:=tk }) :
  wpAny (model X.prog X.w) A (call (.builtin "isinstance") [u,c]) Q E s:=by
 cases ty with
 | non=>cases (show u=Value.none from rx); exact PySem.W.kia_one PySem.W.kitx_none I.kIn True.intro e (fun z=>nomatch z) h
 | bl y=>cases (show u=Value.bool y from rx); exact PySem.W.kia_one PySem.W.kitx_bool I.kIn True.intro e (fun z=>nomatch z) h
 | int i=>obtain ⟨t,q⟩:=(show ∃ t,u=Value.int i t from rx); cases q; exact PySem.W.kia_one PySem.W.kitx_int I.kIn True.intro e (fun z=>nomatch z) h
 | str y=>obtain ⟨t,q⟩:=(show ∃ t,u=Value.str y t from rx); cases q; exact PySem.W.kia_one PySem.W.kitx_str I.kIn True.intro e (fun z=>nomatch z) h
 | flt y=>obtain ⟨t,q⟩:=(show ∃ t,u=Value.float y t from rx); cases q; exact PySem.W.kia_one PySem.W.kitx_float I.kIn True.intro e (fun z=>nomatch z) h
 | @lst a xs ea =>
  cases (show u=Value.ref a from rx)
  obtain ⟨_,_,n,_,h1⟩:=(show bU X.prog X.w H s.heap a (.lst xs) from I.hok a _ ea)
  exact PySem.W.kia_one PySem.W.kitx_list I.kIn ⟨_,h1,rfl⟩ e (fun z=>nomatch z) h
 | @frz a ob xs ea =>
  cases (show u=Value.ref a from rx)
  obtain ⟨_,_,_,n,_,h1⟩:=(show bU X.prog X.w H s.heap a (.frz ob (.lst xs)) from I.hok a _ ea)
  exact PySem.W.kia_one PySem.W.kitx_list I.kIn ⟨_,h1,rfl⟩ e (fun z=>nomatch z) h
 | @tup a xs ea =>
  cases (show u=Value.ref a from rx)
  obtain ⟨_,_,_,p⟩:=(show bU X.prog X.w H s.heap a (.tup xs) from I.hok a _ ea)
  obtain ⟨o,h1,h2,_⟩:=p
  exact PySem.W.kia_one PySem.W.kitx_tuple I.kIn ⟨o,h1,h2⟩ e (fun z=>nomatch z) h
 | @dK a kvs ea =>
  cases (show u=Value.ref a from rx)
  obtain ⟨_,_,vs,_,p⟩:=(show bU X.prog X.w H s.heap a (.dK kvs) from I.hok a _ ea)
  obtain ⟨o,es,ep,h1,h2,_⟩:=p
  exact PySem.W.kia_one PySem.W.kitx_dict I.kIn ⟨o,h1,h2.1⟩ e (fun z=>nomatch z) h
 | @dT a kvs ea =>
  cases (show u=Value.ref a from rx)
  obtain ⟨_,_,xs,_,o,es,ep,h1,h2,_⟩:=(show bU X.prog X.w H s.heap a (.dT kvs) from I.hok a _ ea)
  exact PySem.W.kia_one PySem.W.kitx_dict I.kIn ⟨o,h1,h2.1⟩ e (fun z=>nomatch z) h
 | @ins a C dx fs ea cl ha hn htk hm =>
  cases (show u=Value.ref a from rx)
  obtain ⟨mA,O,_⟩:=mW I.hok ea
  obtain ⟨od,J,_⟩:=O.look
  exact PySem.W.kia_one (PySem.W.kitx_own (cl.get _) cl.hd ha hn htk hm) I.kIn J e (fun z=>nomatch z) h
end
end L2
namespace L2
open PySem PySem.Spec PyProof.Rows
structure Room (k:Nat) (A:Around):Prop where
 hd:A.handled=none
 dp:A.depth+3*k+5<recursionLimit
 un:A.units+16*k+200<cLine
theorem Room.mono {j k:Nat} {A:Around} (r:Room k A) (h:j≤k):Room j A:=⟨r.hd,by have:=r.dp; omega,by have:=r.un; omega⟩
theorem Room.deeper {k:Nat} {A:Around} (r:Room (k+1) A) (env:Env):Room k (A.deeper env):=
 ⟨r.hd,by have:=r.dp; show A.depth+1+3*k+5<_; omega,by have:=r.un; show A.units+3+16*k+200<_; omega⟩
theorem yJ {A:Around} {C:Addr} {us:List Value} {kw:List (Str × Value)}:(A.under (.builtin "type.__call__" ⟨.ref C::us,kw⟩)).depth=A.depth+1:=by
 first|rfl|simp [Around.under,Code.weight,Code.isCreation,Code.isGuard,Code.isCaller,Code.frames,Code.isFrame,guardIds]
theorem yI {A:Around} {C:Addr} {us:List Value} {kw:List (Str × Value)}:(A.under (.builtin "type.__call__" ⟨.ref C::us,kw⟩)).units=A.units+1:=by
 first|rfl|simp [Around.under,Code.cUnits,Code.frames,Code.isFrame]
theorem Room.make {k:Nat} {A:Around} (r:Room (k+1) A) (C:Addr) (us:List Value) (kw:List (Str × Value)):Room k (A.under (.builtin "type.__call__" ⟨.ref C::us,kw⟩)):=
 ⟨r.hd,by have:=r.dp; rw [yJ]; omega,by have:=r.un; rw [yI]; omega⟩
theorem Room.depth {k:Nat} {A:Around} (r:Room k A):A.depth<recursionLimit:=by have:=r.dp; omega
theorem Room.units {k:Nat} {A:Around} (r:Room k A):A.units+64<cLine:=by have:=r.un; omega
def GJ:TA:=fun _ H Q=>Q [] H
def iE (ta:TE) (tr:TA):TA:=fun σ H Q=>ta σ H fun x H1=>tr σ H1 fun xs H2=>Q (x::xs) H2
section
variable {X:Cx}{e:Expr}{es:List Expr}{te:TE}{t:TA}{pos:Pos}
theorem eY:PA X [] GJ:=fun _ _ _ _ H Q I h=>Calls.spliced_nil ⟨[],H,I,.nil,h⟩
theorem bB (ha:PE X e te) (hr:PA X es t) (hs:starEach (e::es) X.env=(false,eval e X.env)::starEach es X.env:=by rfl):PA X (e::es) (iE te t):=by
 intro pos pins s σ H Q I h
 rw [hs]
 show wpAny _ _ (spliced ((false,eval e X.env)::backTo pos (starEach es X.env))) _ _ s
 refine Calls.spliced_cons (thn (ha pins s σ H _ I h) fun u s1 ⟨x,H1,I1,r1,q1⟩=>?_)
 exact thn (hr pos pins s1 σ H1 _ I1 q1) fun us s2 ⟨xs,H2,I2,r2,q2⟩=>⟨x::xs,H2,I2,.cons r1 r2,q2⟩
def aIa (t:TA):TE:=fun σ H Q=>t σ H fun xs H1=>xs.length≤sizeLine∧∀ p,H1 p=none→Q (.ref p) (upd H1 p (.tup xs))
def aCl (t:TA):TE:=fun σ H Q=>t σ H fun xs H1=>xs.length≤sizeLine∧∀ p,H1 p=none→Q (.ref p) (upd H1 p (.lst xs))
theorem YU {x1} (h:PA X es t):PE X (.Tuple es x1 pos) (aIa t):=by
 intro pins s σ H Q I hq
 refine wpAny_Tuple_spliced (thn (h pos pins s σ H _ I hq) fun us s1 ⟨xs,H1,I1,r,z,q⟩=>⟨by rw [← r.length]; exact z,?_⟩)
 have hf:H1 s1.heap.objs.size=none:=I1.hok.fresh (Nat.le_refl _)
 refine ⟨.ref s1.heap.objs.size,upd H1 s1.heap.objs.size (.tup xs),I1.laid (t':=s1.toks) (fun b u e=>Heap.get?_push_of_some _ e) (Nat.le_refl _) ?_,rfl,q _ hf⟩
 exact ⟨z,us,r,⟨_,Heap.get?_push_size _ rfl,rfl,_,rfl⟩⟩
theorem xX (h:PA X es t):PE X (.List es pos) (aCl t):=by
 intro pins s σ H Q I hq
 refine wpAny_List_spliced (thn (h pos pins s σ H _ I hq) fun us s1 ⟨xs,H1,I1,r,z,q⟩=>⟨by rw [← r.length]; exact z,?_⟩)
 have hf:H1 s1.heap.objs.size=none:=I1.hok.fresh (Nat.le_refl _)
 refine ⟨.ref s1.heap.objs.size,upd H1 s1.heap.objs.size (.lst xs),I1.laid (t':=s1.toks) (fun b u e=>Heap.get?_push_of_some _ e) (Nat.le_refl _) ?_,rfl,q _ hf⟩
 exact ⟨z,us,0,r,Heap.get?_push_size _ rfl⟩
end
abbrev Sp:=List V→Hp→VK→XK→Prop
abbrev CXT:=List Env→Hp→Shared→XK→Value→Shared→Prop
structure Env0 (P:Program) (w:World) (K:PySem.W.Frag) (mg:Str→Option Value) (base:Heap) (A:Around) (outer:List Env) (s:Shared) (H:Hp):Prop where
 frames:A.frames=some outer
 mod:Mod K mg base
 bs:∀ b o,base.get? b=some o→s.heap.get? b=some o∧H b=none
 bsz:base.objs.size≤s.heap.objs.size
 funs:s.heap.FunFrames base outer
 frf:∀ b ∈ frs outer,H b=none
 hok:HOk P w H s.heap
 bare:AllBare s.gens
def CE (outer:List Env) (P:Program) (w:World) (H:Hp) (s:Shared) (Q:VK) (u:Value) (s':Shared):Prop:=
 ∃ v H',s'.os=s.os∧AllBare s'.gens∧Un (frs outer) [] H H' s.heap s'.heap∧HOk P w H' s'.heap∧RelV v u∧Q v H'
def CR (CX:CXT) (outer:List Env) (P:Program) (w:World) (H:Hp) (s:Shared) (Q:VK) (E:XK) (r:Result) (s':Shared):Prop:=
 match r with
 | .ok (.ret u)=>CE outer P w H s Q u s'
 | .ok _=>False
 | .error e=>CX outer H s E e s'
structure FnOk (P:Program) (w:World) (K:PySem.W.Frag) (mg:Str→Option Value) (base:Heap) (CX:CXT) (k:Nat) (f:Addr) (fd:FuncData) (ps:List Str) (sp:Sp):Prop where
 len:∀ vs H Q E,sp vs H Q E→vs.length=ps.length
 run:∀ (A:Around) (outer:List Env) (s:Shared) (H:Hp) (args:Args) (us:List Value) (vs:List V) (Q:VK) (E:XK),Room k A→Env0 P w K mg base A outer s H→BindsTo s fd args (ps.zip us)→aS vs us→sp vs H Q E →
  codeAny (model P w) A (.call (.ref f) args) (CR CX outer P w H s Q E) s
theorem FnOk.mono {P:Program} {w:World} {K:PySem.W.Frag} {mg:Str→Option Value} {base:Heap} {CX:CXT} {j k:Nat} {f:Addr} {fd:FuncData} {ps:List Str} {sp:Sp} (F:FnOk P w K mg base CX j f fd ps sp) (h:j≤k) :
  FnOk P w K mg base CX k f fd ps sp:=⟨F.len,fun A outer s H args us vs Q E hr=>F.run A outer s H args us vs Q E (hr.mono h)⟩
theorem FnOk.imp {P:Program} {w:World} {K:PySem.W.Frag} {mg:Str→Option Value} {base:Heap} {CX:CXT} {k:Nat} {f:Addr} {fd:FuncData} {ps:List Str} {sp sp':Sp} (F:FnOk P w K mg base CX k f fd ps sp)
  (h:∀ vs H Q E,sp' vs H Q E→sp vs H Q E):FnOk P w K mg base CX k f fd ps sp':=
 ⟨fun vs H Q E q=>F.len vs H Q E (h _ _ _ _ q),fun A outer s H args us vs Q E hr he hb hv hs=>F.run A outer s H args us vs Q E hr he hb hv (h _ _ _ _ hs)⟩
theorem Env0.make {P:Program} {w:World} {K:PySem.W.Frag} {mg:Str→Option Value} {base:Heap} {A:Around} {outer:List Env} {s:Shared} {H:Hp} (e:Env0 P w K mg base A outer s H) (C:Addr) (us:List Value) (kw:List (Str × Value)) :
  Env0 P w K mg base (A.under (.builtin "type.__call__" ⟨.ref C::us,kw⟩)) outer s H:=⟨by first|exact e.frames|(simpa [Around.under,Code.envs,Code.isFrame,pushEnvs] using e.frames),e.mod,e.bs,e.bsz,e.funs,e.frf,e.hok,e.bare⟩
section
variable {X:Cx}{pins:List (Addr × Obj)}{σ:St}{H:Hp}{s s':Shared}
theorem Inv.env0 (I:Inv X pins σ H s):Env0 X.prog X.w X.K X.mg X.base X.A X.stack s H:=
 ⟨I.ok.frames,I.ok.mod,I.bs,Nat.le_trans I.ok.bsz I.sz,I.stack,I.stkFree,I.hok,I.bare⟩
theorem Inv.after {Q:VK} {u:Value} (I:Inv X pins σ H s) (h:CE X.stack X.prog X.w H s Q u s'):EP X pins σ Q u s':=by
 obtain ⟨v,H',os,bare,un,hok,r,q⟩:=h
 obtain ⟨hh,g,d,t,os'⟩:=s'
 obtain rfl:os'=s.os:=os
 exact ⟨v,H',I.call (h':=hh) (g':=g) (d':=d) (t':=t) (ch:=[]) un hok bare (fun b z=>absurd z (by simp)),r,q⟩
end
def uU (sp:Sp) (dvs:List V) (E:XK) (t:TA):TE:=fun σ H Q=>t σ H fun vs H1=>sp (vs++dvs) H1 Q E
def Binds (K:PySem.W.Frag) (fd:FuncData) (ps:List Str) (ds:List Value):Prop:=
 ∀ (s:Shared) (us:List Value),K.In s.heap→(us++ds).length=ps.length→BindsTo s fd ⟨us,[]⟩ (ps.zip (us++ds))
theorem Binds.all {K:PySem.W.Frag} {fd:FuncData} {ps:List Str} (h:∀ us:List Value,us.length=ps.length→bindArgs fd ⟨us,[]⟩=pure (ps.zip us)):Binds K fd ps []:=fun s us _ hl=>by
 rw [List.append_nil] at hl ⊢
 exact .of_eq (h us hl)
def fT (CX:CXT) (X:Cx) (E:XK):Prop:=∀ (pins:List (Addr × Obj)) (σ:St) (H:Hp) (s:Shared) (e:Value) (s':Shared),Inv X pins σ H s→CX X.stack H s E e s'→X.xe e s'
section
variable {X:Cx}{CX:CXT}{k:Nat}{f C:Addr}{fd:FuncData}{ps:List Str}{sp:Sp}{dvs:List V}{ds:List Value}{E:XK}{x m:Str}{p pos apos:Pos}{e o:Expr}{es:List Expr}{ta:TE}{t:TA}
theorem rQ {pins:List (Addr × Obj)} {σ:St} {H:Hp} {s:Shared} {Q:VK} {us:List Value} {vs:List V} (F:FnOk X.prog X.w X.K X.mg X.base CX k f fd ps sp) (hr:Room k X.A) (hb:Binds X.K fd ps ds) (hd:aS dvs ds) (hx:fT CX X E)
  (I:Inv X pins σ H s) (r:aS vs us) (h:sp (vs++dvs) H Q E):wpAny (model X.prog X.w) X.A (call (.ref f) us) (EP X pins σ Q) X.xe s:=by
 have r2:aS (vs++dvs) (us++ds):=r.append hd
 have hl:(us++ds).length=ps.length:=by rw [← r2.length]; exact F.len _ _ _ _ h
 refine wpAny_call (codeAny_mono (F.run X.A X.stack s H ⟨us,[]⟩ (us++ds) (vs++dvs) Q E hr I.env0 (hb s us I.kIn hl) r2 h) fun r s' hq=>?_)
 cases r with
 | error e=>exact hx pins σ H s e s' I hq
 | ok fl =>
  cases fl with
  | ret u=>exact I.after hq
  | next=>exact False.elim hq
  | brk=>exact False.elim hq
  | cont=>exact False.elim hq
theorem AC (F:FnOk X.prog X.w X.K X.mg X.base CX k f fd ps sp) (hr:Room k X.A) (hg:Gl X x) (hm:X.mg x=some (.ref f)) (hk:PySem.W.keepIn X.K (.ref f)=true) (hb:Binds X.K fd ps ds) (hd:aS dvs ds) (hx:fT CX X E)
  (ha:PA X (e::es) t) (hdb:(x == ("__debug__":Str))=false:=by decide) (he:starEach (e::es) X.env=(false,eval e X.env)::starEach es X.env:=by rfl) (hpl:(backTo pos (starEach es X.env)).any (·.1)=false:=by rfl) :
  PE X (.Call (.Name x p) (e::es) [] pos) (uU sp dvs E t):=by
 intro pins s σ H Q I h
 refine wpAny_Call_Name_kw (eO I hg hm ?_ hdb)
 refine PySem.W.callWith_K (h₀:=X.base) I.ok.mod.kin hk (thn (ha pos pins s σ H _ I h) fun us s1 ⟨vs,H1,I1,r,q⟩=>⟨I1.kIn,?_⟩) he hpl
 exact rQ F hr hb hd hx I1 r q
theorem vH (F:FnOk X.prog X.w X.K X.mg X.base CX k f fd ps sp) (hr:Room k X.A) (hg:Gl X x) (hm:X.mg x=some (.ref f)) (hk:PySem.W.keepIn X.K (.ref f)=true) (hb:Binds X.K fd ps ds) (hd:aS dvs ds) (hx:fT CX X E)
  (hdb:(x == ("__debug__":Str))=false:=by decide):PE X (.Call (.Name x p) [] [] pos) (uU sp dvs E GJ):=by
 intro pins s σ H Q I h
 refine wpAny_Call_Name_kw (eO I hg hm ?_ hdb)
 exact PySem.W.callWith_K0 I.kIn hk (rQ (us:=[]) F hr hb hd hx I .nil h)
structure Mk (K:PySem.W.Frag) (C f:Addr):Prop where
 makes:PySem.W.makesIn K C=true
 init:PySem.W.findIn K (.ref C) "__init__" = some (some (.ref f))
 fn:PySem.W.isFn K (.ref f)=true
 kp:PySem.W.keepIn K (.ref C)=true
end
section
variable {X:Cx}{CX:CXT}{k:Nat}{f C:Addr}{fd:FuncData}{ps ks:List Str}{sp:Sp}{E:XK}{x m:Str}{p pos apos kpos:Pos}{e o:Expr}{es:List Expr}{kws:List Keyword}{te ta:TE}{t tk:TA}{nm:Option Str}
structure KBinds (K:PySem.W.Frag) (fd:FuncData) (ps ks:List Str) (g:List Value→List Value→List Value) (gV:List V→List V→List V):Prop where
 to:∀ (s:Shared) (us ws:List Value),K.In s.heap→(g us ws).length=ps.length→BindsTo s fd ⟨us,ks.zip ws⟩ (ps.zip (g us ws))
 rel:∀ {vs:List V} {us:List Value} {zs:List V} {ws:List Value},aS vs us→aS zs ws→aS (gV vs zs) (g us ws)
variable {g:List Value→List Value→List Value}{gV:List V→List V→List V}
end
structure FnScope (N P:List Str) (sc:Scope):Prop where
 kind:sc.kind=.function
 co:sc.isCoroutine=false
 gen:sc.isGenerator=false
 nd:N.Nodup
 pre:N.take P.length=P
 par:∀ x ∈ P,sc.names.lookup x=some .local∨sc.names.lookup x=some .cell
 nofree:∀ y ∈ sc.names,y.2≠.free
theorem qQ {kindOf:Str→Option NameKind} {x:Str}:∀ {binds:List (Str × Value)} {m:Str→Option Value},(∀ v,(x,v) ∉ binds)→bindL kindOf binds m x=m x
 | [],_,_=>rfl
 | (n,v)::r,m,h=>by
  unfold bindL
  rw [qQ fun w hw=>h w (List.mem_cons_of_mem _ hw)]
  split
  ·have:x≠n:=by rintro rfl; exact h v List.mem_cons_self
   simp [this]
  ·rfl
theorem qS {kindOf:Str→Option NameKind} {x:Str}:∀ {binds:List (Str × Value)} {m:Str→Option Value},(∀ v,(x,v) ∉ binds)→bindC kindOf binds m x=m x
 | [],_,_=>rfl
 | (n,v)::r,m,h=>by
  unfold bindC
  rw [qS fun w hw=>h w (List.mem_cons_of_mem _ hw)]
  split
  ·rfl
  ·have:x≠n:=by rintro rfl; exact h v List.mem_cons_self
   simp [this]
theorem qR {kindOf:Str→Option NameKind} {x:Str} {v:Value}:∀ {P:List Str} {vs:List Value} {i:Nat} {m:Str→Option Value},P.Nodup→P[i]?=some x→vs[i]?=some v→kindOf x=some .local →
  bindL kindOf (P.zip vs) m x=some v
 | [],_,_,_,_,h,_,_=>by simp at h
 | _::_,[],_,_,_,_,h,_=>by simp at h
 | p::P,w::vs,0,m,nd,h1,h2,hk=>by
  simp at h1 h2; subst h1; subst h2
  show bindL kindOf ((p,w)::P.zip vs) m p=_
  unfold bindL
  rw [qQ fun v hv=>(List.nodup_cons.mp nd).1 (List.of_mem_zip hv).1,if_pos hk]
  simp
 | p::P,w::vs,i+1,m,nd,h1,h2,hk=>by
  show bindL kindOf ((p,w)::P.zip vs) m x=_
  unfold bindL
  exact qR (i:=i) (List.nodup_cons.mp nd).2 (by simpa using h1) (by simpa using h2) hk
theorem qT {kindOf:Str→Option NameKind} {x:Str} {v:Value}:∀ {P:List Str} {vs:List Value} {i:Nat} {m:Str→Option Value},P.Nodup→P[i]?=some x→vs[i]?=some v→kindOf x≠some .local →
  bindC kindOf (P.zip vs) m x=some v
 | [],_,_,_,_,h,_,_=>by simp at h
 | _::_,[],_,_,_,_,h,_=>by simp at h
 | p::P,w::vs,0,m,nd,h1,h2,hk=>by
  simp at h1 h2; subst h1; subst h2
  show bindC kindOf ((p,w)::P.zip vs) m p=_
  unfold bindC
  rw [qS fun v hv=>(List.nodup_cons.mp nd).1 (List.of_mem_zip hv).1,if_neg hk]
  simp
 | p::P,w::vs,i+1,m,nd,h1,h2,hk=>by
  show bindC kindOf ((p,w)::P.zip vs) m x=_
  unfold bindC
  exact qT (i:=i) (List.nodup_cons.mp nd).2 (by simpa using h1) (by simpa using h2) hk
noncomputable def start (N:List Str) (vs:List V):St:=vs.map some++List.replicate (N.length-vs.length) none
noncomputable def kW (CX:CXT) (P:Program) (w:World) (K:PySem.W.Frag) (mg:Str→Option Value) (base:Heap) (N:List Str) (qual:Str) (scope:Scope) (f:Addr) (cd:Value) (A:Around) (outer:List Env) (s:Shared) (H:Hp) (E:XK):Cx where
 prog:=P
 w:=w
 K:=K
 mg:=mg
 base:=base
 A:=A.deeper (envOfC qual scope s.heap.objs.size f cd)
 N:=N
 s₀:=s
 H₀:=H
 env:=envOfC qual scope s.heap.objs.size f cd
 outer:=outer
 stack:=envOfC qual scope s.heap.objs.size f cd::outer
 ex:=[]
 calm:=true
 fn:=fun _=>true
 pn:=[]
 xe:=fun e s'=>wpAny (model P w) (A.deeper (envOfC qual scope s.heap.objs.size f cd)) (leaving (envOfC qual scope s.heap.objs.size f cd) e) (fun _ s''=>CX outer H s E e s'') (fun e' s''=>CX outer H s E e' s'') s'
theorem wV {sc:Scope} {n:Nat} {x:Str} (h:sc.names.lookup x=some .cell):∃ c,(cellsFrom n sc.names []).lookup x=some c:=by
 have q:=PySem.W.cellsFrom_some sc.names n [] (.inl h)
 exact Option.isSome_iff_exists.mp q
theorem qB {CX:CXT} {P:Program} {w:World} {K:PySem.W.Frag} {mg:Str→Option Value} {base:Heap} {N ps:List Str} {qual:Str} {scope:Scope} {f:Addr} {cd:Value} {A:Around} {outer:List Env} {s s1:Shared} {H:Hp} {E:XK} {us:List Value} {vs:List V}
  (S:FnScope N ps scope) (hd:A.handled=none) (e0:Env0 P w K mg base A outer s H) (hl:vs.length=ps.length) (r:aS vs us)
  (x:InCallC s s.heap.objs.size (bindL (envOfC qual scope s.heap.objs.size f cd).kindOf (ps.zip us) fun _=>none) (cellsFrom (s.heap.objs.size+1) scope.names []) (bindC (envOfC qual scope s.heap.objs.size f cd).kindOf (ps.zip us) fun _=>none) s1) :
  Inv (kW CX P w K mg base N qual scope f cd A outer s H E) [] (start N vs) H s1:=by
 have hpl:ps.length≤N.length:=by have:=congrArg List.length S.pre; rw [List.length_take] at this; omega
 obtain ⟨h1,tk,rfl,hk⟩:=x.done
 have noA:∀ b:Addr,b ∉ (kW CX P w K mg base N qual scope f cd A outer s H E).ex:=fun b z=>absurd (show b ∈ ([]:List Addr) from z) (by simp)
 refine ⟨⟨e0.mod,S.kind,rfl,rfl,Nat.le_refl _,fun y z c h1 h2=>?_,fun y hy=>?_,fun y c _ h=>?_,fun _=>hd,Around.frames_deeper e0.frames,.inr ⟨rfl,rfl⟩,fun b z=>absurd z (noA b),e0.bs,e0.bsz,fun b _ _=>noA b,fun b z=>absurd z (noA b),e0.funs,e0.frf⟩,
  rfl,e0.bare,Un.kept hk,⟨_,x.toInCall.ns,fun i y v h1 h2 h3=>?_⟩,fun y c h=>⟨_,x.cell y c h⟩,e0.hok.fresh (Nat.le_refl _),fun y c h=>?_,fun p hp=>absurd (show p ∈ ([]:List (Addr × Obj)) from hp) (by simp),e0.hok.kept hk,?_⟩
 ·exact name_of_addr x.apart (PySem.mem_of_lookup h1) (PySem.mem_of_lookup h2)
 ·have hy:scope.names.lookup y=some .cell∨scope.names.lookup y=some .free:=hy
  rcases hy with hy|hy
  ·exact wV hy
  ·exact absurd rfl (S.nofree _ (PySem.mem_of_lookup hy))
 ·exact Nat.le_of_lt (x.above y c (PySem.mem_of_lookup h))
 ·have hi:i<vs.length:=by
   unfold start at h2
   by_cases hi:i<vs.length
   ·exact hi
   ·rw [List.getElem?_append_right (by simpa using hi)] at h2
    rw [List.getElem?_replicate] at h2
    split at h2<;>cases h2
  have ha:vs[i]?=some v:=by
   unfold start at h2
   rw [List.getElem?_append_left (by simpa using hi),List.getElem?_map] at h2
   cases e:vs[i]? with
   | none=>rw [e] at h2; cases h2
   | some a=>rw [e] at h2; cases h2; rfl
  obtain ⟨u,hu,rv⟩:=r.get ha
  have hp:ps[i]?=some y:=by
   rw [← S.pre,List.getElem?_take_of_lt (by omega)]; exact h1
  have ndP:ps.Nodup:=by rw [← S.pre]; exact S.nd.sublist (List.take_sublist _ _)
  refine ⟨u,rv,?_⟩
  rcases S.par y (List.mem_of_getElem? hp) with k|k
  ·exact .inl ⟨k,qR ndP hp hu k⟩
  ·obtain ⟨c,e⟩:=wV (n:=s.heap.objs.size+1) k
   refine .inr ⟨.inl k,c,e,?_⟩
   have q:=x.cell y c e
   rw [qT ndP hp hu (by show scope.names.lookup y≠_; rw [k]; decide)] at q
   exact q
 ·exact e0.hok.fresh (Nat.le_of_lt (x.above y c (PySem.mem_of_lookup h)))
 ·unfold start
  show _=N.length
  rw [List.length_append,List.length_map,List.length_replicate]
  omega
theorem VM {CX:CXT} {P:Program} {w:World} {K:PySem.W.Frag} {mg:Str→Option Value} {base:Heap} {k:Nat} {f:Addr} {name qual:Str} {params:Arguments} {body:List Stmt} {scope:Scope} {dV kV doc pm cdv ct oc:Value} {an od:Option Addr}
  {osl:Array (Option Value)} {N ps:List Str} {sp:Sp} (lk:K.lookup f=some ⟨oc,od,.func (PySem.W.fnOf name qual params body scope dV kV doc pm an cdv ct),osl⟩) (hcd:PySem.W.codeIn K cdv qual=true) (S:FnScope N ps scope)
  (len:∀ vs H Q E,sp vs H Q E→vs.length=ps.length)
  (hbody:∀ (A:Around) (outer:List Env) (s:Shared) (H:Hp) (vs:List V) (Q:VK) (E:XK),Room k (A.deeper (envOfC qual scope s.heap.objs.size f cdv))→sp vs H Q E →
   ∃ t,PSs (kW CX P w K mg base N qual scope f cdv A outer s H E) body t∧t { nx:=fun _ H'=>Q .non H',rt:=Q } (start N vs) H) :
  FnOk P w K mg base CX (k+1) f (PySem.W.fnOf name qual params body scope dV kV doc pm an cdv ct) ps sp:=by
 refine ⟨len,fun A outer s H args us vs Q E hr e0 hb r hsp=>?_⟩
 have hl:=len _ _ _ _ hsp
 have KX:K.In s.heap:=e0.mod.kin.keeps fun b o e=>(e0.bs b o e).1
 have lim:s.heap.NoLimit:=e0.mod.nolimit.keeps fun b o e=>(e0.bs b o e).1
 have hkind:∀ y ∈ ps.zip us,scope.names.lookup y.1=some .local∨(scope.names.lookup y.1=some .cell∧((cellsFrom (s.heap.objs.size+1) scope.names []).lookup y.1).isSome=true):=fun ⟨n,v⟩ hy=>by
  rcases S.par n (List.of_mem_zip hy).1 with q|q
  ·exact .inl q
  ·exact .inr ⟨q,PySem.W.cellsFrom_some _ _ _ (.inl q)⟩
 refine codeAny_call_function hr.depth (KX _ _ lk) rfl S.co S.gen rfl (PySem.W.codeRec_of KX hcd) (hb _ _ _ _ ?_)
 refine wpAny_newFunctionEnv_cells S.kind hkind fun env he s1 x=>?_
 subst he
 refine ⟨lim.keeps x.toInCall.keep,codeAny_func ?_⟩
 obtain ⟨t,ht,hq⟩:=hbody A outer s H vs Q E (hr.deeper _) hsp
 have I:Inv (kW CX P w K mg base N qual scope f cdv A outer s H E) [] (start N vs) H s1:=qB S hr.hd e0 hl r x
 refine wpAny_mono (ht [] s1 (start N vs) H _ I hq) (fun fl s' hs=>?_) fun e s' hs=>hs
 have fin:∀ {σ':St} {H':Hp} {v:V} {u:Value},Inv (kW CX P w K mg base N qual scope f cdv A outer s H E) [] σ' H' s'→RelV v u→Q v H'→CE outer P w H s Q u s':=
  fun {σ' H' v u} J rv q=>⟨v,H',J.os,J.bare,J.base,J.hok,rv,q⟩
 cases fl with
 | ret u =>
  obtain ⟨v,σ',H',J,rv,q⟩:=hs
  exact fin J rv q
 | next =>
  obtain ⟨σ',H',J,q⟩:=hs
  exact fin (v:=V.non) (u:=Value.none) J rfl q
 | brk =>
  obtain ⟨_,_,_,q⟩:=hs
  exact False.elim q
 | cont =>
  obtain ⟨_,_,_,q⟩:=hs
  exact False.elim q
end L2
namespace L2
open PySem PySem.Spec PyProof.Rows
section
variable {X:Cx}{x:Str}{p pos:Pos}{e:Expr}{es:List Expr}{t:TA}{id T:String}{r:List V→Hp→VK→Prop}
def tCB (r:List V→Hp→VK→Prop) (t:TA):TE:=fun σ H Q=>t σ H fun vs H1=>r vs H1 Q
theorem dM (hc:eC X (.builtin id) r) (hg:Gl X x) (hm:X.mg x=none) (hv:bootBuiltins x=some (.builtin id)) (ha:PA X (e::es) t) (hn:x≠"__name__":=by decide) (hdb:(x == ("__debug__":Str))=false:=by decide)
  (he:starEach (e::es) X.env=(false,eval e X.env)::starEach es X.env:=by rfl) (hpl:(backTo pos (starEach es X.env)).any (·.1)=false:=by rfl):PE X (.Call (.Name x p) (e::es) [] pos) (tCB r t):=by
 intro pins s σ H Q I h
 refine wpAny_Call_Name_kw (iM I hg hm hv ?_ hn hdb)
 exact PyProof.Rows.callWith_builtin1 (thn (ha pos pins s σ H _ I h) fun us s1 ⟨vs,H1,I1,r1,q1⟩=>hc pins s1 σ H1 vs us Q I1 r1 q1) he hpl
theorem lJ (hc:eC X (.type T) r) (hg:Gl X x) (hm:X.mg x=none) (hv:bootBuiltins x=some (.type T)) (ha:PA X (e::es) t) (hn:x≠"__name__":=by decide) (hdb:(x == ("__debug__":Str))=false:=by decide)
  (he:starEach (e::es) X.env=(false,eval e X.env)::starEach es X.env:=by rfl) (hpl:(backTo pos (starEach es X.env)).any (·.1)=false:=by rfl):PE X (.Call (.Name x p) (e::es) [] pos) (tCB r t):=by
 intro pins s σ H Q I h
 refine wpAny_Call_Name_kw (iM I hg hm hv ?_ hn hdb)
 exact PyProof.Rows.callWith_type1 (thn (ha pos pins s σ H _ I h) fun us s1 ⟨vs,H1,I1,r1,q1⟩=>hc pins s1 σ H1 vs us Q I1 r1 q1) he hpl
end
end L2
namespace HT
open PySem PyProof.Rows
section
open PySem.SeqAt
open PySem.AutoSeq1 (wpAny_loadPart')
open PySem.MeetsSeq PySem.MeetsSeq2 PySem.MeetsSeq3
end
section
variable {prog:Program}{w:World}{A:Around}{E:Value→Shared→Prop}{s:Shared}
theorem SF {t b:Addr} {vs ws:List Value} {Q:Value→Shared→Prop} (ht:IsTup s.heap t vs.toArray) (hb:IsTup s.heap b ws.toArray) (hv:vs≠[])
  (h1:ws=[]→Q (.ref t) s) (h2:ws≠[]→Q (.ref s.heap.objs.size) { s with heap:=s.heap.push { cls:=.type "tuple",data:=.seq (vs++ws).toArray } })
  (hsz:vs.length+ws.length≤sizeLine):wpAny (model prog w) A (binaryOp .Add (.ref t) (.ref b)) Q E s:=by
 obtain ⟨⟨cls,dd,data,sl⟩,ho,hc,n,hd⟩:=id ht
 obtain ⟨⟨cls2,dd2,data2,sl2⟩,ho2,hc2,n2,hd2⟩:=id hb
 simp only at hc hd hc2 hd2
 subst hc hd hc2 hd2
 have e:vs.toArray++ws.toArray=(vs++ws).toArray:=by simp
 by_cases hw:ws=[]
 ·exact concat_meets ⟨_,ho,rfl⟩ ⟨_,ho2,rfl⟩ noFill_tuple_add seq_tuple_add PySem.F.slot_tuple_add PySem.F.entry_tuple_add (PySem.F.args_tuple_add_2 _ _)
   (tuple_addW1 t b vs.toArray ws.toArray n n2 dd dd2 sl sl2 (by simpa using hv) (by simp [hw])) ⟨ho,ho2,h1 hw⟩
 ·refine concat_meets ⟨_,ho,rfl⟩ ⟨_,ho2,rfl⟩ noFill_tuple_add seq_tuple_add PySem.F.slot_tuple_add PySem.F.entry_tuple_add (PySem.F.args_tuple_add_2 _ _)
   (tuple_addW2 t b vs.toArray ws.toArray n n2 dd dd2 sl sl2 (by simpa using hv) (by simpa using hw) (by rw [List.size_toArray,List.size_toArray]; exact hsz)) ⟨ho,ho2,?_⟩
  rw [e]
  exact h2 hw
noncomputable def sIx (n d:Nat):Option Int→Nat
 | none=>d
 | some v=>if v<0 then (v+(n:Int)).toNat else min v.toNat n
theorem XZ (n d:Nat) (hd:d≤n) (o:Option Int):sIx n d o≤n:=by
 cases o with
 | none=>exact hd
 | some v =>
  show (if v<0 then (v+(n:Int)).toNat else min v.toNat n)≤n
  by_cases hv:v<0
  ·rw [if_pos hv]; omega
  ·rw [if_neg hv]; exact Nat.min_le_right _ _
theorem CP (v:Int) (n d:Nat):(if v<0 then max (v+(n:Int)) 0 else min v (n:Int))=((sIx n d (some v):Nat):Int):=by
 show (if v<0 then max (v+(n:Int)) 0 else min v (n:Int))=(((if v<0 then (v+(n:Int)).toNat else min v.toNat n):Nat):Int)
 by_cases hv:v<0
 ·simp only [if_pos hv]; omega
 ·simp only [if_neg hv]; omega
theorem zN (lo hi:Option Int) (n:Nat):Builtin.Slice.sliceAdjust lo hi 1 (n:Int)=(((sIx n 0 lo:Nat):Int),((sIx n n hi:Nat):Int)):=by
 have h1:¬ ((1:Int)<0):=by omega
 unfold Builtin.Slice.sliceAdjust
 simp only [h1,if_false]
 refine Prod.ext ?_ ?_
 ·cases lo with
  | none=>rfl
  | some v=>exact CP v n 0
 ·cases hi with
  | none=>rfl
  | some v=>exact CP v n n
theorem xW (i j:Nat):Builtin.Slice.slicePlaces (i:Int) (j:Int) 1=j-i:=by
 unfold Builtin.Slice.slicePlaces
 have h1:(1:Int) > 0:=by omega
 simp only [h1,if_true,Int.ediv_one]
 split<;>omega
theorem nO {v:Value} {o:Option Int} {Q:Option Int→Shared→Prop} (p:IsPart v o) (h:Q o s):wpAny (model prog w) A (Builtin.Slice.slicePartIndex v) Q E s:=by
 cases p with
 | none=>exact slicePart_none h
 | int i t=>exact slicePart_int h
theorem lC {sl:Addr} {vl vu:Value} {lo hi:Option Int} {n:Nat} {Q:Int × Int × Nat→Shared→Prop} (hs:s.heap.IsSliceOf sl vl vu .none) (pl:IsPart vl lo) (pu:IsPart vu hi)
  (h:Q (((sIx n 0 lo:Nat):Int),1,sIx n n hi-sIx n 0 lo) s):wpAny (model prog w) A (Builtin.Slice.sliceApplied (.ref sl) (pure (n:Int))) Q E s:=by
 obtain ⟨os,hos,hcs,hds⟩:=id hs
 unfold Builtin.Slice.sliceApplied Builtin.Slice.sliceFields
 refine wpAny_bind (wpAny_bind (wpAny_field hos hds (x:=vl) rfl (wpAny_bind (wpAny_field hos hds (x:=vu) rfl (wpAny_bind (wpAny_field hos hds (x:=.none) rfl (wpAny_pure ?_)))))))
 refine wpAny_bind (slicePart_none ?_)
 show wpAny _ _ (if ((1:Int) == 0)=true then _ else _) _ _ s
 rw [if_neg (by decide)]
 refine wpAny_bind (nO pl (wpAny_bind (nO pu (wpAny_bind (wpAny_pure ?_)))))
 show wpAny _ _ (match Builtin.Slice.sliceAdjust lo hi 1 (n:Int) with|(lo,hi)=>pure (lo,(1:Int),Builtin.Slice.slicePlaces lo hi 1)) _ _ s
 rw [zN lo hi n]
 show wpAny _ _ (pure (((sIx n 0 lo:Nat):Int),(1:Int),Builtin.Slice.slicePlaces ((sIx n 0 lo:Nat):Int) ((sIx n n hi:Nat):Int) 1)) _ _ s
 rw [xW]
 exact wpAny_pure h
theorem HE (xs:Array Value) (i k:Nat):((List.range k).filterMap fun (m:Nat)=>xs[((i:Int)+(m:Int)*1).toNat]?).toArray=((xs.toList.drop i).take k).toArray:=by
 have e:(fun (m:Nat)=>xs[((i:Int)+(m:Int)*1).toNat]?)=fun m=>xs[i+m]?:=by
  funext m
  have:((i:Int)+(m:Int)*1).toNat=i+m:=by omega
  rw [this]
 rw [e]
 have:=pick_run xs i k
 rw [List.filterMap_map] at this
 have e2:((fun x=>xs[x]?) ∘ fun x=>i+x)=fun m=>xs[i+m]?:=rfl
 rw [e2] at this
 rw [this]
theorem kR {t sl:Addr} {items:Array Value} {vl vu:Value} {lo hi:Option Int} {Q:Value→Shared→Prop} (ht:IsTup s.heap t items) (hs:s.heap.IsSliceOf sl vl vu .none) (pl:IsPart vl lo) (pu:IsPart vu hi)
  (hw:¬ (sIx items.size 0 lo=0∧sIx items.size items.size hi=items.size))
  (h:Q (.ref s.heap.objs.size) { s with heap:=s.heap.push { cls:=.type "tuple",data:=.seq ((items.toList.drop (sIx items.size 0 lo)).take (sIx items.size items.size hi-sIx items.size 0 lo)).toArray } })
  (hsz:items.size≤sizeLine):wpAny (model prog w) A (getItem (.ref t) (.ref sl)) Q E s:=by
 have htake:sizeOk (.seq ((items.toList.drop (sIx items.size 0 lo)).take (sIx items.size items.size hi-sIx items.size 0 lo)).toArray):=by
  show ((items.toList.drop (sIx items.size 0 lo)).take (sIx items.size items.size hi-sIx items.size 0 lo)).toArray.size≤sizeLine
  rw [List.size_toArray,List.length_take,List.length_drop,Array.length_toList]
  omega
 have hj:sIx items.size items.size hi≤items.size:=XZ _ _ (Nat.le_refl _) hi
 obtain ⟨os,hos,hcs,hds⟩:=id hs
 have hTs:s.TypeIs (.ref sl) "slice":=⟨os,hos,hcs⟩
 unfold getItem
 try with_reducible refine wpAny_holding ?_
 first|refine wpAny_bind (wpAny_pure ?_)|skip
 refine wpAny_bind (wpAny_sequenceKey ht.typeIs (by decide) ?_)
 refine wpAny_bind (wpAny_callSpecial?_slot (name:=Str.ofString "__getitem__") ht.typeIs PyProof.Rows.slot_tuple_getitem
  (wpAny_call_entry PyProof.Rows.slot_tuple_getitem ht.typeIs entry_tuple_getitem ?_ (args_tuple_getitem _ _)))
 show wpAny _ _ (Builtin.Tuple.tupleItemsOf (.ref t) >>= _) _ _ s
 refine wpAny_bind (tupleItemsOf_ ht ?_)
 refine wpAny_bind (wpAny_typeOf hTs ?_)
 rw [if_pos (by decide)]
 refine wpAny_bind (lC hs pl pu ?_)
 have hno:¬ ((((sIx items.size 0 lo:Nat):Int) == 0&&(1:Int) == 1&&(sIx items.size items.size hi-sIx items.size 0 lo) == items.size)=true):=by
  intro q
  rw [Bool.and_eq_true,Bool.and_eq_true] at q
  have q1:((sIx items.size 0 lo:Nat):Int)=0:=eq_of_beq q.1.1
  have q2:sIx items.size items.size hi-sIx items.size 0 lo=items.size:=eq_of_beq q.2
  exact hw ⟨by omega,by omega⟩
 show wpAny _ _ (if (((sIx items.size 0 lo:Nat):Int) == 0&&(1:Int) == 1&&(sIx items.size items.size hi-sIx items.size 0 lo) == items.size)=true then _ else _) _ _ s
 rw [if_neg hno,HE]
 first
  | exact wpAny_bind (m:=Builtin.Tuple.tupleExact _) (wpAny_newObj_type (wpAny_pure ⟨_,rfl,wpAny_pure h⟩) htake)
  | exact wpAny_bind (m:=Builtin.Tuple.tupleExact _) (wpAny_newObj_type (wpAny_bind (wpAny_pure (wpAny_pure ⟨_,rfl,wpAny_pure h⟩))) htake)
  | exact wpAny_bind (wpAny_bind (m:=Builtin.Tuple.tupleExact _) (wpAny_newObj_type (wpAny_pure (wpAny_pure ⟨_,rfl,wpAny_pure h⟩)) htake))
  | exact wpAny_bind (wpAny_bind (m:=Builtin.Tuple.tupleExact _) (wpAny_newObj_type (wpAny_pure ⟨_,rfl,wpAny_pure h⟩) htake))
end
end HT
namespace L2
open PySem PySem.Spec PyProof.Rows
abbrev TO:=St→Hp→(Option Int→Hp→Prop)→Prop
def PO (X:Cx) (e:Option Expr) (t:TO):Prop:=
 ∀ (pins:List (Addr × Obj)) (s:Shared) (σ:St) (H:Hp) (Q:Option Int→Hp→Prop),Inv X pins σ H s→t σ H Q →
  wpAny (model X.prog X.w) X.A (evalPart e X.env) (fun u s'=>∃ o H',Inv X pins σ H' s'∧IsPart u o∧Q o H') X.xe s
noncomputable def NK:TO:=fun _ H Q=>Q none H
noncomputable def aCj (t:TE):TO:=fun σ H Q=>t σ H fun x H1=>∃ i,x=.int i∧Q (some i) H1
section
variable {X:Cx}{e:Expr}{te:TE}{lo hi:Option Expr}{tl th:TO}{pos p2:Pos}
theorem PB:PO X none NK:=by
 intro pins s σ H Q I h
 rw [evalPart_none]
 exact wpAny_pure ⟨none,H,I,.none,h⟩
theorem OZ (h:PE X e te):PO X (some e) (aCj te):=by
 intro pins s σ H Q I hw
 rw [evalPart_some]
 refine thn (h pins s σ H _ I hw) fun u s1 ⟨x,H1,I1,r1,q1⟩=>?_
 obtain ⟨i,rfl,q⟩:=q1
 obtain ⟨t,rfl⟩:=r1
 exact ⟨some i,H1,I1,.int i t,q⟩
def SlR (X:Cx) (r:V→Option Int→Option Int→Hp→VK→Prop):Prop:=
 ∀ (pins:List (Addr × Obj)) (s:Shared) (σ:St) (H:Hp) (x:V) (v vl vu:Value) (lo hi:Option Int) (sl:Addr) (Q:VK),Inv X pins σ H s→RelV x v→s.heap.IsSliceOf sl vl vu .none→IsPart vl lo→IsPart vu hi→r x lo hi H Q →
  ∃ T id,typeLookup (.type T) "__getitem__" = pure (some (.builtin id))∧s.TypeIs v T∧wpAny (model X.prog X.w) X.A (getItem v (.ref sl)) (EP X pins σ Q) X.xe s
def tSl (r:V→Option Int→Option Int→Hp→VK→Prop) (te:TE) (tl th:TO):TE:=fun σ H Q=>te σ H fun x H1=>tl σ H1 fun l H2=>th σ H2 fun u H3=>r x l u H3 Q
theorem nQ {r:V→Option Int→Option Int→Hp→VK→Prop} (hr:SlR X r) (he:PE X e te) (hl:PO X lo tl) (hu:PO X hi th):PE X (.Subscript e (.Slice lo hi none p2) pos) (tSl r te tl th):=by
 intro pins s σ H Q I h
 refine Subscript_ (thn (he pins s σ H _ I h) fun v s1 ⟨x,H1,I1,r1,q1⟩=>?_)
 refine wpAny_Slice (thn (hl pins s1 σ H1 _ I1 q1) fun vl s2 ⟨l,H2,I2,pl,q2⟩=>thn (hu pins s2 σ H2 _ I2 q2) fun vu s3 ⟨u,H3,I3,pu,q3⟩=>?_)
 rw [evalPart_none]
 refine wpAny_pure ?_
 have I4:Inv X pins σ H3 { s3 with heap:=s3.heap.push { cls:=.type "slice",data:=.fields #[vl,vu,.none] } }:=I3.kept (t':=s3.toks) fun b ob q=>Heap.get?_push_of_some _ q
 obtain ⟨T,id,hT,ht,hg⟩:=hr pins { s3 with heap:=s3.heap.push { cls:=.type "slice",data:=.fields #[vl,vu,.none] } } σ H3 x v vl vu l u s3.heap.objs.size Q I4 r1 (Heap.IsSliceOf.new ..) pl pu q3
 show wpAny (model X.prog X.w) X.A (subscriptTail e (.Slice lo hi none p2) v (.ref s3.heap.objs.size)) (EP X pins σ Q) X.xe { s3 with heap:=s3.heap.push { cls:=.type "slice",data:=.fields #[vl,vu,.none] } }
 exact tail_any (ops:=[.ref s3.heap.objs.size,v]) ht hT hg (by with_unfolding_all rfl)
noncomputable def wK (xs:List V) (lo hi:Option Int):List V:=(xs.drop (HT.sIx xs.length 0 lo)).take (HT.sIx xs.length xs.length hi-HT.sIx xs.length 0 lo)
theorem mI (xs:List V) (lo hi:Option Int):(wK xs lo hi).length≤xs.length:=by
 unfold wK
 rw [List.length_take,List.length_drop]
 omega
noncomputable def aID (K:PySem.W.Frag):V→Option Int→Option Int→Hp→VK→Prop:=fun x lo hi H Q=>∃ a xs,x=.ref a∧SqT K H a xs ∧
 ¬ (HT.sIx xs.length 0 lo=0∧HT.sIx xs.length xs.length hi=xs.length)∧∀ p,H p=none→Q (.ref p) (upd H p (.tup (wK xs lo hi)))
theorem XY:SlR X (aID X.K):=by
 intro pins s σ H x v vl vu lo hi sl Q I rx hs pl pu h
 obtain ⟨a,xs,rfl,hx,hw,q⟩:=h
 cases rx
 obtain ⟨its,r,ht,hz⟩:=I.tuple hx
 have hlen:its.toArray.size=xs.length:=by rw [List.size_toArray]; exact r.length.symm
 refine ⟨"tuple",_,PyProof.Rows.slot_tuple_getitem.lookup,ht.typeIs,?_⟩
 refine HT.kR ht hs pl pu (by rw [hlen]; exact hw) ?_ (by rw [hlen]; exact hz)
 rw [hlen]
 refine ⟨.ref s.heap.objs.size,_,I.laid (t':=s.toks) (o:=.tup (wK xs lo hi)) (fun b ob q=>Heap.get?_push_of_some _ q) (Nat.le_refl _) ?_,rfl,q _ (I.hok.fresh (Nat.le_refl _))⟩
 exact ⟨Nat.le_trans (mI xs lo hi) hz,_,(r.drop (HT.sIx xs.length 0 lo)).take (HT.sIx xs.length xs.length hi-HT.sIx xs.length 0 lo),IsTup.new _ _⟩
noncomputable def aDH (K:PySem.W.Frag):R2:=fun x y H Q=>∃ a b xs ys,x=.ref a∧y=.ref b∧SqT K H a xs∧SqT K H b ys∧xs≠[]∧xs.length+ys.length≤sizeLine ∧
 (ys=[]→Q (.ref a) H)∧(ys≠[]→∀ p,H p=none→Q (.ref p) (upd H p (.tup (xs++ys))))
theorem aS.nil_iff {xs:List V} {us:List Value} (r:aS xs us):us=[]↔xs=[]:=by
 cases r with
 | nil=>simp
 | cons _ _=>simp
theorem PY:OpR X (binaryOp .Add) (aDH X.K):=by
 intro pins s σ H x y v u Q I rx ry h
 obtain ⟨a,b,xs,ys,rfl,rfl,ha,hb,hx,hz,q1,q2⟩:=h
 cases rx
 cases ry
 obtain ⟨its,r1,p1,_⟩:=I.tuple ha
 obtain ⟨its2,r2,p2,_⟩:=I.tuple hb
 refine HT.SF p1 p2 (fun z=>hx (r1.nil_iff.mp z)) (fun z=>⟨.ref a,H,I,rfl,q1 (r2.nil_iff.mp z)⟩) (fun z=>?_) (by rw [← r1.length,← r2.length]; exact hz)
 refine ⟨.ref s.heap.objs.size,_,I.laid (t':=s.toks) (o:=.tup (xs++ys)) (fun b ob q=>Heap.get?_push_of_some _ q) (Nat.le_refl _) ?_,rfl,q2 (fun w=>z (r2.nil_iff.mpr w)) _ (I.hok.fresh (Nat.le_refl _))⟩
 exact ⟨by rw [List.length_append]; exact hz,_,r1.append r2,IsTup.new _ _⟩
end
end L2
namespace L2
open PySem PySem.Spec PyProof.Rows
noncomputable def ixN (n:Nat) (i:Int):Option Nat:=if 0≤i then (if i<n then some i.toNat else none) else if -(n:Int)≤i then some (i+n).toNat else none
noncomputable def atI {α:Type} (xs:List α) (i:Int):Option α:=(ixN xs.length i).bind fun j=>xs[j]?
theorem AK {n:Nat} {i:Int} {j:Nat} (h:ixN n i=some j):seqIndex? i n=some j∧j<n∧-(n:Int)≤i∧i<n:=by
 unfold ixN at h
 by_cases h0:0≤i
 ·rw [if_pos h0] at h
  by_cases h1:i<n
  ·rw [if_pos h1] at h
   have e:i.toNat=j:=Option.some.inj h
   exact ⟨by rw [seqIndex_of h0 h1,e],by omega,by omega,h1⟩
  ·rw [if_neg h1] at h; cases h
 ·rw [if_neg h0] at h
  by_cases h1:-(n:Int)≤i
  ·rw [if_pos h1] at h
   have e:(i+n).toNat=j:=Option.some.inj h
   exact ⟨by rw [seqIndex_neg (by omega) h1,e],by omega,h1,by omega⟩
  ·rw [if_neg h1] at h; cases h
theorem uG {α:Type} {xs:List α} {i:Int} {v:α} (h:atI xs i=some v):∃ j,seqIndex? i xs.length=some j∧xs[j]?=some v∧j<xs.length∧-(xs.length:Int)≤i∧i<xs.length:=by
 unfold atI at h
 cases e:ixN xs.length i with
 | none=>rw [e] at h; cases h
 | some j =>
  rw [e] at h
  obtain ⟨h1,h2,h3,h4⟩:=AK e
  exact ⟨j,h1,h,h2,h3,h4⟩
theorem SI {α:Type} {xs:List α} {j:Nat} {v:α} (h:xs[j]?=some v):atI xs (j:Int)=some v:=by
 have hj:j<xs.length:=(List.getElem?_eq_some_iff.mp h).1
 have e:ixN xs.length (j:Int)=some j:=by
  unfold ixN
  rw [if_pos (by omega),if_pos (by omega)]; simp
 unfold atI; rw [e]; exact h
def kZ (b:Expr):Prop:=∀ o i,subscripted b false o i=operate [o,i] (getItem o i)
def IxR (X:Cx) (r:R2):Prop:=
 ∀ (value slice:Expr) (pins:List (Addr × Obj)) (s:Shared) (σ:St) (H:Hp) (x y:V) (v u:Value) (Q:VK),Inv X pins σ H s→RelV x v→RelV y u→r x y H Q →
  subscripted slice false v u=operate [v,u] (getItem v u)→wpAny (model X.prog X.w) X.A (subscriptTail value slice v u) (EP X pins σ Q) X.xe s
def MtR (X:Cx) (id:String) (r:V→List V→Hp→VK→Prop):Prop:=
 ∀ (pins:List (Addr × Obj)) (s:Shared) (σ:St) (H:Hp) (x:V) (xs:List V) (v:Value) (us:List Value) (Q:VK),Inv X pins σ H s→RelV x v→aS xs us→r x xs H Q →
  wpAny (model X.prog X.w) X.A (call (.builtin id) (v::us)) (EP X pins σ Q) X.xe s
section
variable {X:Cx}{a b:Expr}{ta tb:TE}{pos:Pos}
theorem IxR.or {r r':R2} (h:IxR X r) (h':IxR X r'):IxR X (fun x y H Q=>r x y H Q∨r' x y H Q):=by
 intro value slice pins s σ H x y v u Q I rx ry q hs
 rcases q with q|q
 ·exact h value slice pins s σ H x y v u Q I rx ry q hs
 ·exact h' value slice pins s σ H x y v u Q I rx ry q hs
theorem HG {r:R2} (hr:IxR X r) (ha:PE X a ta) (hb:PE X b tb) (hs:kZ b):PE X (.Subscript a b pos) (tOp r ta tb):=by
 intro pins s σ H Q I h
 exact Subscript_ (aAU ha hb I h fun v u s2 x y H2 I2 rx ry q=>hr a b pins s2 σ H2 x y v u Q I2 rx ry q (hs _ _))
noncomputable def YD (K:PySem.W.Frag):R2:=fun x y H Q=>∃ p xs i v,x=.ref p∧y=.int i∧SqL K H p xs∧atI xs i=some v∧Q v H
noncomputable def aDC (K:PySem.W.Frag):R2:=fun x y H Q=>∃ p xs i v,x=.ref p∧y=.int i∧SqT K H p xs∧atI xs i=some v∧Q v H
noncomputable def aDD:R2:=fun x y H Q=>∃ z i c,x=.str z∧y=.int i∧z.length≤sizeLine∧atI z.cps.toList i=some c∧Q (.str ⟨#[c]⟩) H
theorem AJ:IxR X (YD X.K):=by
 intro value slice pins s σ H x y v u Q I rx ry h hs
 obtain ⟨p,xs,i,z,rfl,rfl,hq,he,q⟩:=h
 cases rx
 obtain ⟨t,rfl⟩:=ry
 obtain ⟨its,r,pl,hz⟩:=I.list hq
 obtain ⟨j,h1,h2,h3,h4,h5⟩:=uG he
 obtain ⟨w,ew,rw'⟩:=r.get h2
 have hl:=r.length
 have hn:=jW
 have fin:EP X pins σ Q w s:=⟨z,H,I,rw',q⟩
 by_cases h0:0≤i
 ·have hj:i.toNat=j:=by
   rw [seqIndex_of h0 h5] at h1
   exact Option.some.inj h1
  exact item_listR pl.isList h0 (by omega) (by rw [hj]; simpa using ew) fin hs
 ·have hj:(i+(its.toArray.size:Int)).toNat=j:=by
   rw [seqIndex_neg (by omega) h4] at h1
   rw [List.size_toArray,← hl]
   exact Option.some.inj h1
  exact subscriptTail_builtinR (x:=w) pl.isList.typeIs slot_list_getitem.lookup
   (wpAny_getItem_list_neg (Q:=fun r s'=>r=w∧EP X pins σ Q r s') pl.isList (by omega) (by rw [List.size_toArray]<;>omega) (by omega) (by rw [hj]; simpa using ew) ⟨rfl,fin⟩) hs
theorem aAm:IxR X (aDC X.K):=by
 intro value slice pins s σ H x y v u Q I rx ry h hs
 obtain ⟨p,xs,i,z,rfl,rfl,hq,he,q⟩:=h
 cases rx
 obtain ⟨t,rfl⟩:=ry
 obtain ⟨its,r,pl,hz⟩:=I.tuple hq
 obtain ⟨j,h1,h2,h3,h4,h5⟩:=uG he
 obtain ⟨w,ew,rw'⟩:=r.get h2
 have hl:=r.length
 have hn:=jW
 have fin:EP X pins σ Q w s:=⟨z,H,I,rw',q⟩
 exact subscriptTail_builtinR (x:=w) pl.typeIs slot_tuple_getitem.lookup
  (getItem_tuple (j:=j) (Q:=fun r s'=>r=w∧EP X pins σ Q r s') pl (by omega) (by omega) (by rw [List.size_toArray,← hl]; exact h1) (by simpa using ew) ⟨rfl,fin⟩) hs
theorem aAn:IxR X aDD:=by
 intro value slice pins s σ H x y v u Q I rx ry h hs
 obtain ⟨z,i,c,rfl,rfl,hz,he,q⟩:=h
 obtain ⟨t,rfl⟩:=rx
 obtain ⟨t',rfl⟩:=ry
 obtain ⟨j,h1,h2,h3,h4,h5⟩:=uG he
 have hl:z.cps.toList.length=z.length:=by simp [Str.length]
 rw [hl] at h1 h4 h5
 have hn:=jW
 exact tail_any (typeIs_str s z t) slot_str_getitem.lookup (getItem_str (c:=c) (by
  have e1:decide (i < -(2 ^ 63:Int))=false:=decide_eq_false (by omega)
  have e2:decide (i ≥ 2 ^ 63)=false:=decide_eq_false (by omega)
  rw [e1,e2,Bool.or_false]) (by rw [h1]; simpa using h2) ⟨.str ⟨#[c]⟩,H,I.tok _,⟨_,rfl⟩,q⟩) hs
noncomputable def rIx (K:PySem.W.Frag):R2:=fun x y H Q=>YD K x y H Q∨aDC K x y H Q∨aDD x y H Q
theorem JE:IxR X (rIx X.K):=AJ.or (aAm.or aAn)
theorem yH (its:List Value) (n j:Nat) (u:Value):Obj.mapSeq (·.setIfInBounds j u) { cls:=.type "list",data:=.seq its.toArray n } = { cls:=.type "list",data:=.seq (its.set j u).toArray n }:=by
 simp [Obj.mapSeq]
theorem Inv.lst {pins:List (Addr × Obj)} {σ:St} {H:Hp} {s:Shared} {p:Addr} {xs:List V} (I:Inv X pins σ H s) (h:H p=some (.lst xs)) :
  ∃ (its:List Value) (n:Nat),aS xs its∧s.heap.get? p=some { cls:=.type "list",data:=.seq its.toArray n }∧xs.length≤sizeLine:=by
 obtain ⟨z,its,n,r,e⟩:=I.hok p _ h
 exact ⟨its,n,r,e,z⟩
theorem Inv.lstUpd {pins:List (Addr × Obj)} {σ:St} {H:Hp} {s:Shared} {p:Addr} {xs ys:List V} {its its':List Value} {n n':Nat} {f:Obj→Obj} (I:Inv X pins σ H s) (h:H p=some (.lst xs))
  (ho:s.heap.get? p=some { cls:=.type "list",data:=.seq its.toArray n }) (hf:f { cls:=.type "list",data:=.seq its.toArray n } = { cls:=.type "list",data:=.seq its'.toArray n' }) (r:aS ys its') (hz:ys.length≤sizeLine) (t:Nat) :
  Inv X pins σ (upd H p (.lst ys)) { s with heap:=s.heap.update p f,toks:=t }:=by
 have e:(s.heap.update p f).get? p=some { cls:=.type "list",data:=.seq its'.toArray n' }:=by
  rw [Heap.get?_update_self f ho (by rw [hf]<;>rfl),hf]
 refine I.write (x:=p) (e:=p) (by rw [h]; trivial) (.inl rfl) (fun b u hb q=>(Heap.get?_update_other _ _ (Ne.symm hb)).trans q) ⟨_,e⟩ ?_
 exact ⟨hz,its',n',r,e⟩
noncomputable def aDB:V→V→V→Hp→(Hp→Prop)→Prop:=fun o i v H Q=>∃ p xs k j,o=.ref p∧i=.int k∧H p=some (.lst xs)∧ixN xs.length k=some j∧Q (upd H p (.lst (xs.set j v)))
theorem set_list:aHe X aDB:=by
 intro pins s σ H o i v ov iv u Q I ro ri rv h
 obtain ⟨p,xs,k,j,rfl,rfl,hp,hj,q⟩:=h
 cases ro
 obtain ⟨t,rfl⟩:=ri
 obtain ⟨its,n,r,ho,hz⟩:=I.lst hp
 obtain ⟨h1,h2,h3,h4⟩:=AK hj
 have hl:=r.length
 have hn:=jW
 have I':Inv X pins σ (upd H p (.lst (xs.set j v))) { s with heap:=s.heap.update p (Obj.mapSeq (·.setIfInBounds j u)) }:=
  I.lstUpd hp ho (yH its n j u) (r.set rv j) (by rw [List.length_set]; exact hz) s.toks
 by_cases h0:0≤k
 ·have hk:k.toNat=j:=by
   rw [seqIndex_of h0 h4] at h1
   exact Option.some.inj h1
  exact PySem.W.ki_setAt ho h0 (by omega) (by rw [List.size_toArray,← hl]; exact h4) (by rw [hk]; exact ⟨_,I',q⟩)
 ·have hk:(k+(its.toArray.size:Int)).toNat=j:=by
   rw [seqIndex_neg (by omega) h3] at h1
   rw [List.size_toArray,← hl]
   exact Option.some.inj h1
  exact PySem.W.ki_setBack ho (by omega) (by rw [List.size_toArray,← hl]; exact h3) (by omega) (by rw [hk]; exact ⟨_,I',q⟩)
theorem rN (lo hi:Option Int) (n:Nat):(sliceBounds lo hi none n).1=((HT.sIx n 0 lo:Nat):Int)∧(sliceBounds lo hi none n).2.1=((HT.sIx n n hi:Nat):Int)∧(sliceBounds lo hi none n).2.2=1:=by
 refine ⟨?_,?_,rfl⟩
 ·cases lo with
  | none=>simp [sliceBounds,HT.sIx]
  | some i =>
   simp only [sliceBounds,HT.sIx,Option.getD_none,show (1:Int) > 0 by decide,if_true]
   by_cases h:i<0
   ·simp only [h,if_true]<;>omega
   ·simp only [h,if_false]<;>omega
 ·cases hi with
  | none=>simp [sliceBounds,HT.sIx]
  | some i =>
   simp only [sliceBounds,HT.sIx,Option.getD_none,show (1:Int) > 0 by decide,if_true]
   by_cases h:i<0
   ·simp only [h,if_true]<;>omega
   ·simp only [h,if_false]<;>omega
theorem pE (its:List Value) (lo hi:Option Int):slicePick its.toArray lo hi none=((its.drop (HT.sIx its.length 0 lo)).take (HT.sIx its.length its.length hi-HT.sIx its.length 0 lo)).toArray:=by
 obtain ⟨h1,h2,h3⟩:=rN lo hi its.toArray.size
 unfold slicePick
 rw [h1,h2,h3]
 simp only [sliceRange_one,pick_run,List.size_toArray]<;>rfl
noncomputable def aIE (K:PySem.W.Frag):V→Option Int→Option Int→Hp→VK→Prop:=fun x lo hi H Q=>∃ a xs,x=.ref a∧SqL K H a xs∧∀ p,H p=none→Q (.ref p) (upd H p (.lst (wK xs lo hi)))
theorem zT:SlR X (aIE X.K):=by
 intro pins s σ H x v vl vu lo hi sl Q I rx hs pl pu h
 obtain ⟨a,xs,rfl,hx,q⟩:=h
 cases rx
 obtain ⟨its,r,ht,hz⟩:=I.list hx
 have hlen:=r.length
 refine ⟨"list",_,slot_list_getitem.lookup,ht.isList.typeIs,?_⟩
 refine wpAny_getItem_list_slice ht.isList hs pl pu .none (by simp) ?_ (by rw [List.size_toArray]<;>omega)
 rw [pE,← hlen]
 refine ⟨.ref s.heap.objs.size,_,I.laid (t':=s.toks) (o:=.lst (wK xs lo hi)) (fun b ob q=>Heap.get?_push_of_some _ q) (Nat.le_refl _) ?_,rfl,q _ (I.hok.fresh (Nat.le_refl _))⟩
 exact ⟨Nat.le_trans (mI xs lo hi) hz,_,0,(r.drop (HT.sIx xs.length 0 lo)).take (HT.sIx xs.length xs.length hi-HT.sIx xs.length 0 lo),Heap.get?_push_size _ rfl⟩
theorem fJ:eC X (.builtin "len") (fun xs H Q=>∃ p ys,xs=[.ref p]∧(SqL X.K H p ys∨SqT X.K H p ys)∧Q (.int ys.length) H):=by
 intro pins s σ H xs us Q I r h
 obtain ⟨p,ys,rfl,hq,q⟩:=h
 obtain ⟨u,rfl,rx⟩:=vals1 r
 cases rx
 have hn:=jW
 rcases hq with hq|hq
 ·obtain ⟨its,r',pl,hz⟩:=I.list hq
  have hlen:=r'.length
  exact Calls.call_len_list pl.isList (by simp only [List.size_toArray]<;>omega) ⟨.int ys.length,H,I.tok _,⟨s.toks+1,by rw [List.size_toArray,hlen]⟩,q⟩
 ·obtain ⟨its,r',pl,hz⟩:=I.tuple hq
  have hlen:=r'.length
  exact len_tuple pl (by simp only [List.size_toArray]<;>omega) ⟨.int ys.length,H,I.tok _,⟨s.toks+1,by rw [List.size_toArray,hlen]⟩,q⟩
theorem uD:eC X (.builtin "len") (fun xs H Q=>∃ z,xs=[.str z]∧z.length≤sizeLine∧Q (.int z.length) H):=by
 intro pins s σ H xs us Q I r h
 obtain ⟨z,rfl,hz,q⟩:=h
 obtain ⟨u,rfl,t,rfl⟩:=vals1 r
 have hn:=jW
 exact len_str (by omega) ⟨.int z.length,H,I.tok _,⟨_,rfl⟩,q⟩
theorem hZ:eC X (.type "list") (fun xs H Q=>∃ p ys,xs=[.ref p]∧(SqL X.K H p ys∨SqT X.K H p ys)∧∀ l,H l=none→Q (.ref l) (upd H l (.lst ys))):=by
 intro pins s σ H xs us Q I r h
 obtain ⟨p,ys,rfl,hq,q⟩:=h
 obtain ⟨u,rfl,rx⟩:=vals1 r
 cases rx
 have fin:∀ (its:List Value),aS ys its→ys.length≤sizeLine→∀ (h':Heap) (c':Nat),(∀ b o',s.heap.get? b=some o'→h'.get? b=some o') →
   h'.get? s.heap.objs.size=some { cls:=.type "list",dict:=none,data:=.seq its.toArray c',slots:=#[] }→EP X pins σ Q (.ref s.heap.objs.size) { s with heap:=h' }:=fun its r' hz h' c' kp e =>
  ⟨.ref s.heap.objs.size,_,I.laid (t':=s.toks) kp (Nat.le_refl _) (show bU X.prog X.w _ h' _ (.lst ys) from ⟨hz,its,c',r',e⟩),rfl,q _ (I.hok.fresh (Nat.le_refl _))⟩
 rcases hq with hq|hq
 ·obtain ⟨its,r',pl,hz⟩:=I.list hq
  have hlen:=r'.length
  obtain ⟨o,ho,hc,n,hd⟩:=pl.isList
  exact call_list_seq p (.inl rfl) ho hc hd (fun h' c' kp e=>fin its r' hz h' c' kp e) (by simp only [List.size_toArray]<;>omega)
 ·obtain ⟨its,r',pl,hz⟩:=I.tuple hq
  have hlen:=r'.length
  obtain ⟨o,ho,hc,n,hd⟩:=pl
  exact call_list_seq p (.inr rfl) ho hc hd (fun h' c' kp e=>fin its r' hz h' c' kp e) (by simp only [List.size_toArray]<;>omega)
theorem jR:eC X (.type "tuple") (fun xs H Q=>∃ p ys,xs=[.ref p]∧((SqL X.K H p ys∧∀ l,H l=none→Q (.ref l) (upd H l (.tup ys)))∨(SqT X.K H p ys∧Q (.ref p) H))):=by
 intro pins s σ H xs us Q I r h
 obtain ⟨p,ys,rfl,h⟩:=h
 obtain ⟨u,rfl,rx⟩:=vals1 r
 cases rx
 rcases h with ⟨hq,q⟩|⟨hq,q⟩
 ·obtain ⟨its,r',pl,hz⟩:=I.list hq
  have hlen:=r'.length
  refine call_tuple_list pl.isList (fun h' kp=>?_) (by simp only [List.size_toArray]<;>omega)
  have I1:Inv X pins σ H { s with heap:=h' }:=I.kept (t':=s.toks) kp
  have I2:Inv X pins σ (upd H h'.objs.size (.tup ys)) { s with heap:=h'.push { cls:=.type "tuple",data:=.seq its.toArray } }:=
   I1.laid (t':=s.toks) (fun b o e=>Heap.get?_push_of_some _ e) (Nat.le_refl _) (show bU X.prog X.w _ _ _ (.tup ys) from ⟨hz,its,r',IsTup.new _ _⟩)
  exact ⟨.ref h'.objs.size,_,I2,rfl,q _ (I1.hok.fresh (Nat.le_refl _))⟩
 ·obtain ⟨its,r',pl,hz⟩:=I.tuple hq
  exact call_tuple_same pl ⟨.ref p,H,I,rfl,q⟩
def tyV (K:PySem.W.Frag) (T:String) (x:V) (H:Hp):Prop:=match x with
 | .str _=>T = "str"
 | .int _=>T = "int"
 | .ref p=>(T = "list"∧∃ xs,SqL K H p xs)∨(T = "tuple"∧∃ o,K.lookup p=some o∧o.cls=.type "tuple"∧o.dict=none) ∨
   (T = "dict"∧((∃ kvs,H p=some (.dK kvs))∨∃ kvs,H p=some (.dT kvs)))∨(T = "set"∧∃ S n,H p=some (.set S n))
 | _=>False
theorem XD {pins:List (Addr × Obj)} {σ:St} {H:Hp} {s:Shared} {T:String} {x:V} {v:Value} (I:Inv X pins σ H s) (r:RelV x v) (ty:tyV X.K T x H) :
  s.TypeIs v T∧∀ a,v=.ref a→∃ ob,s.heap.get? a=some ob∧ob.dict=none:=by
 cases x with
 | str z =>
  obtain ⟨t,rfl⟩:=r
  cases (show T = "str" from ty)
  exact ⟨typeIs_str s z t,fun _ e=>nomatch e⟩
 | int i =>
  obtain ⟨t,rfl⟩:=r
  cases (show T = "int" from ty)
  exact ⟨typeIs_int s i t,fun _ e=>nomatch e⟩
 | ref p =>
  cases r
  rcases ty with ⟨rfl,xs,hq⟩|⟨rfl,o,hk,hc,hd⟩|⟨rfl,hk⟩|⟨rfl,S,n,hk⟩
  ·obtain ⟨its,_,pl,_⟩:=I.list hq
   refine ⟨pl.isList.typeIs,fun a e=>?_⟩
   cases e
   obtain ⟨o,n,e,c,hd,_⟩:=pl
   exact ⟨o,e,hd⟩
  ·refine ⟨⟨o,I.kIn p o hk,hc⟩,fun a e=>?_⟩
   cases e
   exact ⟨o,I.kIn _ o hk,hd⟩
  ·have z:∃ o,s.heap.get? p=some o∧o.ExactDict:=by
    rcases hk with ⟨kvs,hk⟩|⟨kvs,hk⟩
    ·obtain ⟨_,_,_,_,o,_,_,e,ex,_⟩:=I.hok p _ hk
     exact ⟨o,e,ex⟩
    ·obtain ⟨_,_,_,_,o,_,_,e,ex,_⟩:=I.hok p _ hk
     exact ⟨o,e,ex⟩
   obtain ⟨o,e,ex⟩:=z
   refine ⟨⟨o,e,ex.1⟩,fun a e2=>?_⟩
   cases e2
   exact ⟨o,e,ex.2.1⟩
  ·obtain ⟨o,_,_,_,e,ex,_⟩:=I.hok p _ hk
   refine ⟨⟨o,e,ex.1⟩,fun a e2=>?_⟩
   cases e2
   exact ⟨o,e,ex.2.1⟩
 | _=>exact False.elim ty
def tBM (K:PySem.W.Frag) (T:String) (r:V→List V→Hp→VK→Prop) (to:TE) (t:TA):TE:=fun σ H Q=>to σ H fun x H1=>tyV K T x H1∧t σ H1 fun xs H2=>r x xs H2 Q
variable {o e:Expr}{es:List Expr}{to:TE}{t:TA}{name:Str}{apos cpos:Pos}{T id:String}{r:V→List V→Hp→VK→Prop}
theorem HL (pa:PlainAttrs T) (slot:Slot T name id) (hty:typeOf (.builtin id)=pure (.type "method_descriptor")) (hm:MtR X id r) (ho:PE X o to) (ha:PA X (e::es) t)
  (hbase:attributeBase o name X.env (eval o X.env)=eval o X.env:=by rfl)
  (hfew:((backTo cpos (starEach (e::es) X.env)).all (fun x=>!x.1)&&(backToKw cpos (keywordEach [] X.env)).all (fun x=>x.1.isSome)
   && decide ((e::es).length+([]:List Keyword).length+(if ([]:List Keyword).isEmpty then 0 else 1)<30))=true:=by rfl)
  (hline:(apos.endLine == cpos.line)=true:=by rfl) (hs:starEach (e::es) X.env=(false,eval e X.env)::starEach es X.env:=by rfl) (hplain:(backTo cpos (starEach es X.env)).any (·.1)=false:=by rfl) :
  PE X (.Call (.Attribute o name apos) (e::es) [] cpos) (tBM X.K T r to t):=by
 intro pins s σ H Q I h
 refine wpAny_Call_method_late hbase hfew hline rfl (thn (ho pins s σ H _ I h) fun v s1 ⟨x,H1,I1,r1,ty,q1⟩=>?_)
 obtain ⟨h1,h2⟩:=XD I1 r1 ty
 refine ⟨T,id,pa,slot,hty,h1,h2,?_⟩
 have hA:=ha cpos pins s1 σ H1 _ I1 q1
 rw [hs] at hA ⊢
 refine Calls.callWith_builtin (by show (false || (backTo cpos (starEach es X.env)).any (·.1))=false; rw [hplain]<;>rfl) (Calls.evalArgs_plain ?_)
 exact thn hA fun us s2 ⟨vs,H2,I2,r2,q2⟩=>hm pins s2 σ H2 x vs v us Q I2 r1 r2 q2
end
end L2
namespace L2
open PySem PySem.Spec PyProof.Rows
def MtM (X:Cx) (id:String) (r:V→List V→Hp→VK→Prop):Prop:=
 ∀ (pins:List (Addr × Obj)) (s:Shared) (σ:St) (H:Hp) (x:V) (xs:List V) (v:Value) (us:List Value) (Q:VK),Inv X pins σ H s→RelV x v→aS xs us→r x xs H Q →
  wpAny (model X.prog X.w) X.A (call (.builtin id) (v::us)) (EP X pins σ Q) X.xe s
theorem aS.one:∀ {x:V} {us:List Value},aS [x] us→∃ u,us=[u]∧RelV x u
 | _,_,.cons r .nil=>⟨_,rfl,r⟩
theorem aS.two:∀ {x y:V} {us:List Value},aS [x,y] us→∃ u v,us=[u,v]∧RelV x u∧RelV y v
 | _,_,_,.cons r (.cons q .nil)=>⟨_,_,rfl,r,q⟩
theorem aS.reverse {xs:List V} {us:List Value} (h:aS xs us):aS xs.reverse us.reverse:=by
 induction h with
 | nil=>exact .nil
 | cons r t ih=>rw [List.reverse_cons,List.reverse_cons]; exact aS.append ih (.cons r .nil)
section
variable {X:Cx}{pins:List (Addr × Obj)}{σ:St}{H:Hp}{s:Shared}{l b:Addr}{xs ys zs:List V}
theorem Inv.lset {its its':List Value} {n:Nat} {f:Array Value→Array Value} {t':Nat} (I:Inv X pins σ H s) (hH:H l=some (.lst xs))
  (e:s.heap.get? l=some { cls:=.type "list",data:=.seq its.toArray n }) (hf:f its.toArray=its'.toArray) (hv:aS ys its') (hz:ys.length≤sizeLine) :
  Inv X pins σ (upd H l (.lst ys)) { s with heap:=s.heap.update l (Obj.mapSeq f),toks:=t' }:=by
 have q:=PySem.IsL.update e f
 rw [hf] at q
 refine I.write (x:=l) (e:=l) (by rw [hH]; exact trivial) (.inl rfl) (fun b' u hb hu=>(Heap.get?_update_other s.heap (Obj.mapSeq f) (Ne.symm hb)).trans hu) ⟨_,q⟩ ?_
 exact ⟨hz,its',_,hv,q⟩
theorem Inv.lnew {its:List Value} {t':Nat} (I:Inv X pins σ H s) (hv:aS ys its) (hz:ys.length≤sizeLine) :
  Inv X pins σ (upd H s.heap.objs.size (.lst ys)) { s with heap:=s.heap.push { cls:=.type "list",data:=.seq its.toArray },toks:=t' }:=
 I.laid (fun _ _ q=>Heap.get?_push_of_some _ q) (Nat.le_refl _) ⟨hz,its,0,hv,Heap.get?_push_size _ rfl⟩
theorem Inv.fresh (I:Inv X pins σ H s):H s.heap.objs.size=none:=I.hok.fresh (Nat.le_refl _)
theorem Inv.lstM (I:Inv X pins σ H s) (hH:H l=some (.lst xs)):xs.length≤sizeLine∧∃ (its:List Value) (n:Nat),aS xs its∧xs.length=its.length∧s.heap.get? l=some { cls:=.type "list",data:=.seq its.toArray n }:=by
 obtain ⟨z,its,n,r,e⟩:=I.hok l _ hH
 exact ⟨z,its,n,r,r.length,e⟩
theorem IG {n:Nat} (h:n≤sizeLine):Builtin.List.listTooLong n=false:=by
 unfold Builtin.List.listTooLong
 exact decide_eq_false (by omega)
end
section
variable {X:Cx}
noncomputable def NZ:V→List V→Hp→VK→Prop:=fun x vs H Q=>∃ l xs y,x=.ref l∧vs=[y]∧H l=some (.lst xs)∧xs.length<sizeLine∧Q .non (upd H l (.lst (xs++[y])))
theorem pW:MtM X "list.append" NZ:=by
 intro pins s σ H x vs v us Q I rx rv h
 obtain ⟨l,xs,y,rfl,rfl,hH,hz,q⟩:=h
 cases rx
 obtain ⟨u,rfl,ru⟩:=rv.one
 obtain ⟨z,its,n,r,hl,e⟩:=I.lstM hH
 refine call_meets F.slot_list_append ⟨_,e,rfl⟩ F.entry_list_append (F.args_list_append_2 _ _) (PySem.list_append l its.toArray n u (by rw [List.size_toArray]; omega)) ⟨e,?_⟩
 refine ⟨.non,_,I.lset (its':=its++[u]) hH e (by simp) (r.append (.cons ru .nil)) ?_,rfl,q⟩
 rw [List.length_append,List.length_singleton]
 omega
noncomputable def NY:V→List V→Hp→VK→Prop:=fun x vs H Q=>∃ l b xs zs,x=.ref l∧vs=[.ref b]∧H l=some (.lst xs)∧H b=some (.lst zs)∧xs.length+zs.length≤sizeLine∧Q .non (upd H l (.lst (xs++zs)))
theorem aBs:MtM X "list.extend" NY:=by
 intro pins s σ H x vs v us Q I rx rv h
 obtain ⟨l,b,xs,zs,rfl,rfl,hH,hB,hz,q⟩:=h
 cases rx
 obtain ⟨u,rfl,ru⟩:=rv.one
 cases ru
 obtain ⟨z,its,n,r,hl,e⟩:=I.lstM hH
 obtain ⟨z2,its2,n2,r2,hl2,e2⟩:=I.lstM hB
 have hsz:its.toArray.size+its2.toArray.size≤sizeLine:=by rw [List.size_toArray,List.size_toArray]; omega
 have hlong:¬ (!its.toArray.isEmpty&&Builtin.List.listTooLong (its.toArray.size+its2.toArray.size))=true:=by
  rw [IG hsz,Bool.and_false]
  exact Bool.false_ne_true
 refine call_meets F.slot_list_extend ⟨_,e,rfl⟩ F.entry_list_extend (F.args_list_extend_2 _ _)
  (AutoSeq1.list_extend_list_list_0 l its.toArray n b its2.toArray n2 hlong (by rw [List.size_toArray]; omega) (by omega)) ⟨e,e2,?_⟩
 refine ⟨.non,_,I.lset (its':=its++its2) hH e (by simp) (r.append r2) ?_,rfl,q⟩
 rw [List.length_append]
 omega
noncomputable def aDI:R2:=fun x y H Q=>∃ l b xs zs,x=.ref l∧y=.ref b∧H l=some (.lst xs)∧H b=some (.lst zs)∧xs.length+zs.length≤sizeLine∧∀ p,H p=none→Q (.ref p) (upd H p (.lst (xs++zs)))
theorem HS:OpR X (binaryOp .Add) aDI:=by
 intro pins s σ H x y v u Q I rx ry h
 obtain ⟨l,b,xs,zs,rfl,rfl,hH,hB,hz,q⟩:=h
 cases rx
 cases ry
 obtain ⟨z,its,n,r,hl,e⟩:=I.lstM hH
 obtain ⟨z2,its2,n2,r2,hl2,e2⟩:=I.lstM hB
 refine PySem.P.add_list e e2 ?_ (by rw [List.size_toArray,List.size_toArray]; omega)
 have ea:its.toArray++its2.toArray=(its++its2).toArray:=by simp
 rw [ea]
 exact ⟨.ref _,_,I.lnew (t':=s.toks) (r.append r2) (by rw [List.length_append]; omega),rfl,q _ I.fresh⟩
end
section
variable {prog:Program}{w:World}{A:Around}{E:Value→Shared→Prop}{s:Shared}
end
section
variable {X:Cx}
end
end L2
namespace Att
open PySem PySem.W PySem.Calls PyProof.Rows
theorem mO {P:Params} {h:Heap}:∀ (ns:List Int) (vs:List Value),WellAll P h vs (ns.map WData.int)→IntsAre vs ns:=by
 intro ns
 induction ns with
 | nil =>
  intro vs w
  rw [List.map_nil] at w
  cases w
  exact .nil
 | cons n ns ih =>
  intro vs w
  rw [List.map_cons] at w
  cases w with
  | cons a b =>
   cases a
   exact .cons _ _ (ih _ b)
theorem DW {l:OpenLaw} {n:Nat} (hn:l.most=some n) {P:Params} {h:Heap} {args:List WData} {vals:List Value}
  (hpre:l.row.toRowW.claim.pre args=true) (hwl:WellAll P h vals args) :
  ∃ a vs ns,vals=[Value.ref a]∧args=[WData.list (ns.map WData.int)]∧h.get? a=some { cls:=.type "list",data:=.seq vs.toArray }∧IntsAre vs ns∧ns.length≤n:=by
 have hsh:WShape.hasAll [] args [.list .int]=true:=(pre_splitW hpre).1
 have hc:l.pre.holds [] { args:=args }=true:=(pre_splitW hpre).2
 obtain ⟨d,r,rfl,h1,h2⟩:=hasAllW_cons hsh
 obtain rfl:=hasAllW_nil h2
 obtain ⟨xs,rfl,h3⟩:=hasW_list h1
 obtain ⟨ns,rfl⟩:=items_int h3
 have hlen:ns.length≤n:=by
  unfold OpenLaw.pre at hc
  have h4:(WTm.not (.lt (.lit (.int (n:Int))) (.len (.arg 0)))).holds [] { args:=[.list (ns.map .int)] }=true:=by
   have h4:=(holds_andW hc).1
   rw [hn] at h4
   exact h4
  have h5:=condW_of h4 (w_not (w_lt w_lit (w_len_list (w_arg rfl))))
  rw [List.length_map] at h5
  refine Nat.le_of_not_lt fun q=>?_
  have q':(n:Int)<((ns.length:Nat):Int):=by omega
  first
   | (rw [decide_eq_true q'] at h5; exact absurd h5 (by decide))
   | (simp at h5; omega)
 cases hwl with
 | cons w1 w2 =>
  cases w2
  cases w1 with
  | list ho hall=>exact ⟨_,_,ns,rfl,rfl,ho,mO ns _ hall,hlen⟩
theorem EB (l:OpenLaw) (args:List WData):l.row.toRowW.claim.post args (.bool true) args=true:=
 postW_of (r:=l.row.toRowW) (X:=(true == true))
  (show WShape.has [] (.bool true) .bool=true by first|rfl|decide|simp [WShape.has,WShape.arms,WShape.armsAll])
  (show (WTm.eq .res (.lit (.bool true))).value [] { args:=args,res:=some (.bool true),after:=args }=some (.bool (true == true)) from w_eq_bool (w_res rfl) w_lit) rfl
theorem xB {l:OpenLaw} {n:Nat} {q:Program} {loose:List Str} {XP:(Str→Option Value)→Heap→Prop} {YP:World→Heap→Prop} {d:DefRec}
  (hn:l.most=some n) (hdf:d.params.defaults=[])
  (call:∀ (w:World) (s₀ s₁:Shared) (mg mb:Str→Option Value) (fa:Addr) (o:Obj) (pm cd doc:Value) (a:Addr) (vs:List Value) (ns:List Int),
   Ground q loose [] XP w s₀ mg mb s₁.heap→YP w s₁.heap →
   s₁.heap.get? fa=some o→o.data=.func (docDef d.name d.params d.body d.scope pm cd doc)→s₁.heap.CodeRec cd d.name→mg d.name=some (.ref fa) →
   s₁.heap.get? a=some { cls:=.type "list",data:=.seq vs.toArray }→IntsAre vs ns→ns.length≤n→s₁.gens=#[] →
   codeAny (model l.prog w) callerA (.call (.ref fa) ⟨[.ref a],[]⟩) (fun r s'=>r=.ok (.ret (.bool true))∧OldK s₁.heap s'.heap∧s'.os=s₁.os∧AllBare s'.gens) s₁) :
  WalkO q loose XP YP l.row.toRowW d [] (fun f vs=>PySem.call f vs):=by
 intro w s₀ s₁ mg mb G Y fa o pm cd doc dV kV ho hd hcd hD hmg hg args vals as hpre hlay hrd hwl hlo
 obtain rfl:dV=.none:=Dflts.none hD hdf
 obtain rfl:kV=.none:=Dflts.noKw hD
 obtain ⟨a,vs,ns,rfl,rfl,hobj,hints,hlen⟩:=DW hn hpre hwl
 refine enter_call (codeAny_mono (call w s₀ s₁ mg mb fa o pm cd doc a vs ns G Y ho (fd_plain hd) hcd hmg hobj hints hlen hg) fun r s' hq=>?_)
 obtain ⟨rfl,h2,h3,h4⟩:=hq
 exact ⟨.inl ⟨.bool true,.bool true,[],rfl,fun _=>rfl,.bool true,EB l _,fun _=>⟨List.Pairwise.nil,fun _ hm=>(nomatch hm)⟩⟩,h2,h3,h4⟩
section
variable {prog:Program}{w:World}{A:Around}{E:Value→Shared→Prop}{s:Shared}{K:Frag}
end
end Att
namespace L2
open PySem PySem.Spec PyProof.Rows
theorem pL:∀ {vs:List Value} {ns:List Int},IntsAre vs ns→aS (ns.map V.int) vs
 | _,_,.nil=>.nil
 | _,_,.cons n t h=>.cons ⟨t,rfl⟩ (pL h)
def aBh (H:Hp):Prop:=∀ b,H b=none∨∃ o xs,H b=some (.frz o (.lst xs))
theorem IX {P:Program} {w:World} {K:PySem.W.Frag} {mg mb:Str→Option Value} {CX:CXT} {k:Nat} {fa a:Addr} {fd:FuncData} {x:Str} {sp:Sp} {s₁:Shared} {vs:List Value} {ns:List Int}
  (KX:K.In s₁.heap) (hns:s₁.heap.Ns mainGlobals mg) (hb:s₁.heap.Ns builtinsNs mb) (hbb:∀ x:Str,x≠"__name__"→mb x=bootBuiltins x) (hlim:s₁.heap.NoLimit) (hg:s₁.gens=#[])
  (ha:s₁.heap.get? a=some { cls:=.type "list",data:=.seq vs.toArray }) (hi:IntsAre vs ns) (hl:ns.length≤sizeLine) (hr:Room k callerA)
  (F:∀ base:Heap,K.In base→base.Ns mainGlobals mg→FnOk P w K mg base CX k fa fd [x] sp) (hbind:∀ (s:Shared) (u:Value),BindsTo s fd ⟨[u],[]⟩ [(x,u)])
  (hsp:∀ H:Hp,aBh H→SqL K H a (ns.map V.int)→sp [.ref a] H (fun v _=>v=.bl true) fun _ _ _=>False)
  (hCX:∀ H e s',CX [] H s₁ (fun _ _ _=>False) e s'→False) :
  codeAny (model P w) callerA (.call (.ref fa) ⟨[.ref a],[]⟩) (fun r s'=>r=.ok (.ret (.bool true))∧OldK s₁.heap s'.heap∧s'.os=s₁.os∧AllBare s'.gens) s₁:=by
 have rv:=pL hi
 have lenV:=hi.length
 have core:∀ H:Hp,aBh H→SqL K H a (ns.map V.int)→HOk P w H s₁.heap→(∀ b,H b≠none→b=a)→(H a≠none→K.lookup a=none) →
   codeAny (model P w) callerA (.call (.ref fa) ⟨[.ref a],[]⟩) (fun r s'=>r=.ok (.ret (.bool true))∧OldK s₁.heap s'.heap∧s'.os=s₁.os∧AllBare s'.gens) s₁:=by
  intro H hO hS hok hA hK
  have kY:∀ {b:Addr} {o:Obj},s₁.heap.get? b=some o→H b=none→(sJ s₁.heap H).get? b=some o:=fun e n=>JQ e n
  have noA:∀ {b:Addr} {o:Obj} {es:Array DictEntry} {ep:Nat},s₁.heap.get? b=some o→o.data=.dict es ep→H b=none:=fun {b o es ep} e d=>by
   cases q:H b with
   | none=>rfl
   | some u =>
    have e':b=a:=hA b (by rw [q]; simp)
    subst e'
    rw [ha] at e; cases e
    have d':Data.seq vs.toArray _=Data.dict es ep:=d
    cases d'
  have nsK:∀ {b:Addr} {m:Str→Option Value},s₁.heap.Ns b m→(sJ s₁.heap H).Ns b m:=fun {b m} ⟨o,es,ep,e,d,r⟩=>⟨o,es,ep,kY e (noA e d),d,r⟩
  have hKb:K.In (sJ s₁.heap H):=fun b o e=>kY (KX b o e) (by
   cases q:H b with
   | none=>rfl
   | some u =>
    have e':b=a:=hA b (by rw [q]; simp)
    subst e'
    rw [hK (by rw [q]; simp)] at e; cases e)
  have hM:Mod K mg (sJ s₁.heap H):=⟨hKb,nsK hns,⟨mb,nsK hb,hbb⟩,let ⟨mc,h1,h2⟩:=hlim; ⟨mc,nsK h1,h2⟩⟩
  have e0:Env0 P w K mg (sJ s₁.heap H) callerA [] s₁ H:=⟨rfl,hM,fun b o e=>QJ e,Nat.le_of_eq (EY _ _),trivial,fun b hb=>absurd (show b ∈ ([]:List Addr) from hb) (by simp),hok,.of_eq hg⟩
  refine codeAny_mono ((F _ hKb (nsK hns)).run callerA [] s₁ H ⟨[.ref a],[]⟩ [.ref a] [.ref a] _ _ hr e0 (hbind s₁ (.ref a)) (.cons rfl .nil) (hsp H hO hS)) fun r s' h=>?_
  cases r with
  | error e=>exact (hCX H e s' h).elim
  | ok fl =>
   cases fl with
   | next=>exact False.elim h
   | brk=>exact False.elim h
   | cont=>exact False.elim h
   | ret u =>
    obtain ⟨v,H',os,bare,un,hok',r',q⟩:=h
    have q':v=.bl true:=q
    subst q'
    obtain rfl:u=Value.bool true:=r'
    refine ⟨rfl,OldK.of_keep fun b o e=>?_,os,bare⟩
    cases q:H b with
    | none=>exact un.keep b o e q (by intro z; exact absurd (show b ∈ ([]:List Addr) from z) (by simp)) (by simp)
    | some u =>
     rcases hO b with z|⟨ob,xs,z⟩
     ·rw [q] at z; cases z
     ·have z2:=un.frzs b ob _ z
      obtain ⟨e1,_⟩:=hok b _ z
      obtain ⟨e2,_⟩:=hok' b _ z2
      rw [e] at e1; cases e1
      exact e2
 cases hk:K.lookup a with
 | some o =>
  have e:=KX a o hk
  rw [ha] at e
  cases e
  refine core (fun _=>none) (fun _=>.inl rfl) (.inr ⟨_,vs.toArray,_,hk,rfl,rfl,rfl,by rw [List.size_toArray,lenV]; exact hl,by simpa using rv⟩) (fun b u z=>by have z':(none:Option HO)=some u:=z; cases z') (fun b z=>absurd rfl z) fun z=>absurd rfl z
 | none =>
  refine core (fun b=>if b=a then some (.frz { cls:=.type "list",data:=.seq vs.toArray } (.lst (ns.map V.int))) else none) (fun b=>?_) (.inl (.inr ⟨{ cls:=.type "list",data:=.seq vs.toArray },if_pos rfl⟩)) (fun b u z=>?_) (fun b z=>?_) fun _=>hk
  ·by_cases hb:b=a
   ·exact .inr ⟨_,_,if_pos hb⟩
   ·exact .inl (if_neg hb)
  ·by_cases hb:b=a
   ·have z':=(if_pos hb).symm.trans z
    cases z'
    subst hb
    exact ⟨ha,by rw [List.length_map]; exact hl,vs,_,rv,ha⟩
   ·have z':=(if_neg hb).symm.trans z
    cases z'
  ·by_cases hb:b=a
   ·exact hb
   ·exact absurd (if_neg hb) z
end L2
namespace L2
open PySem PySem.Spec PyProof.Rows
theorem NH {l:PySem.W.OpenLaw} {n k:Nat} {q:Program} {loose:List Str} {XP:(Str→Option Value)→Heap→Prop} {YP:World→Heap→Prop} {d:DefRec} {K:Params→PySem.W.Frag} {CX:World→CXT} {sp:World→Sp} {x:Str}
  (hn:l.most=some n) (hn2:n≤sizeLine) (hdf:d.params.defaults=[]) (hr:Room k callerA)
  (hY:∀ (w:World) (h:Heap),YP w h→(K w.params).In h)
  (F:∀ (w:World) (mg:Str→Option Value) (fa:Addr) (h:Heap),(K w.params).In h→h.Ns mainGlobals mg→mg d.name=some (.ref fa) →
   ∃ fd:FuncData,(∀ (s:Shared) (u:Value),BindsTo s fd ⟨[u],[]⟩ [(x,u)]) ∧
    ∀ base:Heap,(K w.params).In base→base.Ns mainGlobals mg→FnOk l.prog w (K w.params) mg base (CX w) k fa fd [x] (sp w))
  (hsp:∀ (w:World) (H:Hp) (a:Addr) (ns:List Int),ns.length≤n→aBh H→SqL (K w.params) H a (ns.map V.int)→sp w [.ref a] H (fun v _=>v=.bl true) fun _ _ _=>False)
  (hCX:∀ (w:World) (H:Hp) (s:Shared) (e:Value) (s':Shared),CX w [] H s (fun _ _ _=>False) e s'→False) :
  PySem.W.WalkO q loose XP YP l.row.toRowW d [] (fun f vs=>PySem.call f vs):=by
 refine Att.xB hn hdf fun w s₀ s₁ mg mb fa o pm cd doc a vs ns G Y ho hd hcd hmg hobj hints hlen hg=>?_
 have KX:=hY w _ Y
 obtain ⟨fd,hb,hF⟩:=F w mg fa _ KX G.T.g hmg
 exact IX KX G.T.g G.T.b G.T.builtins G.T.nolimit hg hobj hints (Nat.le_trans hlen hn2) hr hF hb (fun H hO hS=>hsp w H a ns hlen hO hS) fun H e s'=>hCX w H s₁ e s'
end L2
namespace L2
open PySem PySem.Spec PyProof.Rows
noncomputable def inClass (s:Stmt) (j:Nat):Stmt:=match s with
 | .ClassDef _ _ _ body _ _ _ _ _ _ _=>body.getD j (.Pass ⟨0,0,0,0⟩)
 | _=>.Pass ⟨0,0,0,0⟩
noncomputable def fI (s:Stmt):Arguments:=match s with
 | .FunctionDef _ a _ _ _ _ _ _ _ _=>a
 | _=>{ posonlyargs:=[],args:=[],vararg:=none,kwonlyargs:=[],kw_defaults:=[],kwarg:=none,defaults:=[] }
noncomputable def bN (s:Stmt):List Stmt:=match s with
 | .FunctionDef _ _ b _ _ _ _ _ _ _=>b
 | _=>[]
noncomputable def aC (s:Stmt):Scope:=match s with
 | .FunctionDef _ _ _ _ _ _ sc _ _ _=>sc
 | _=>{ kind:=.function,names:=[],isGenerator:=false,isCoroutine:=false }
abbrev CX0:CXT:=fun _ _ _ _ _ _=>False
abbrev E0:XK:=fun _ _ _=>False
structure Fun (K:PySem.W.Frag) (x qual:Str) (st:Stmt) (f:Addr) (fd:FuncData):Prop where
 ex:∃ (oc:Value) (od:Option Addr) (kV doc pm:Value) (an:Option Addr) (cdv ct:Value) (osl:Array (Option Value)),
  fd=PySem.W.fnOf x qual (fI st) (bN st) (aC st) .none kV doc pm an cdv ct∧K.lookup f=some ⟨oc,od,.func fd,osl⟩∧PySem.W.codeIn K cdv qual=true
 kp:PySem.W.keepIn K (.ref f)=true
section
variable {P:Program}{w:World}{K:PySem.W.Frag}{mg:Str→Option Value}{base:Heap}
theorem Fun.binds {x qual:Str} {st:Stmt} {f:Addr} {fd:FuncData} {ps:List Str} (F:Fun K x qual st f fd)
  (h:∀ (kV doc pm:Value) (an:Option Addr) (cdv ct:Value) (us:List Value),us.length=ps.length→bindArgs (PySem.W.fnOf x qual (fI st) (bN st) (aC st) .none kV doc pm an cdv ct) ⟨us,[]⟩=pure (ps.zip us)):Binds K fd ps []:=by
 obtain ⟨oc,od,kV,doc,pm,an,cdv,ct,osl,rfl,lk,hcd⟩:=F.ex
 exact .all (h kV doc pm an cdv ct)
end
theorem VL {A:Around} {k:Nat} (hr:Room k A):A.units+1<cLine:=Nat.lt_of_le_of_lt (Nat.add_le_add_left (by decide:1≤64) _) hr.units
section
variable {X:Cx}
theorem pv (i:Nat) {x:Str} {pos:Pos} (hN:X.N[i]?=some x:=by rfl) (hv:Vis X.env.scope x:=by first|exact Or.inl rfl|exact Or.inr (Or.inl rfl)|exact Or.inr (Or.inr rfl)) (hd:(x == ("__debug__":Str))=false:=by decide)
  (hcd:(x == ("__classdict__":Str))=false:=by decide):PE X (.Name x pos) (rL i):=lI hN hv hd hcd
end
theorem pG {A B:Prop} (h:B):if false=true then A else B:=by
 rw [if_neg Bool.false_ne_true]
 exact h
theorem EV {A B:Prop} (h:A):if true=true then A else B:=by
 rw [if_pos rfl]
 exact h
theorem aFZ {c A B:Prop} [Decidable c] (hc:c) (h:B):if (!decide c)=true then A else B:=by
 rw [decide_eq_true hc]
 exact pG h
def aG (H H':Hp):Prop:=∀ b o,H b=some o→H' b=some o
theorem aG.refl (H:Hp):aG H H:=fun _ _ h=>h
theorem aG.trans {H H1 H2:Hp} (a:aG H H1) (b:aG H1 H2):aG H H2:=fun c o h=>b c o (a c o h)
theorem aG.free {H H':Hp} (e:aG H H') {l:Addr} (h:H' l=Option.none):H l=Option.none:=by
 cases q:H l with
 | none=>rfl
 | some o =>
  rw [e l o q] at h
  cases h
end L2
namespace L2
open PySem PySem.Spec PyProof.Rows
end L2
namespace L2
open PySem PySem.Spec PyProof.Rows
end L2
namespace L2
open PySem PySem.Spec PyProof.Rows
end L2
namespace L2
open PySem PySem.Spec PyProof.Rows
end L2
namespace L2
open PySem PySem.Spec PyProof.Rows
end L2
namespace L2
open PySem PySem.Spec PyProof.Rows
end L2
namespace L2
open PySem PySem.Spec PyProof.Rows
end L2
namespace L2
open PySem PySem.Spec PyProof.Rows
end L2
namespace L2
open PySem PySem.Spec PyProof.Rows
end L2
namespace L2
open PySem PySem.Spec PyProof.Rows
end L2
namespace L2
open PySem PySem.Spec PyProof.Rows
section
variable {κ:Type}[DecidableEq κ]
noncomputable def lA (kvs:List (κ × V)) (k:κ):Option V:=(kvs.find? fun kv=>decide (kv.1=k)).map (·.2)
noncomputable def putK (kvs:List (κ × V)) (k:κ) (v:V):List (κ × V):=
 if (kvs.any fun kv=>decide (kv.1=k))=true then kvs.map (fun kv=>if kv.1=k then (kv.1,v) else kv) else kvs++[(k,v)]
theorem kB {p:κ × V} {r:List (κ × V)} {k:κ} (e:p.1=k):lA (p::r) k=some p.2:=by simp [lA,List.find?_cons,e]
theorem kC {p:κ × V} {r:List (κ × V)} {k:κ} (e:¬ p.1=k):lA (p::r) k=lA r k:=by simp [lA,List.find?_cons,e]
theorem uN (k:κ):∀ kvs:List (κ × V),(kvs.any fun kv=>decide (kv.1=k))=(lA kvs k).isSome
 | []=>rfl
 | p::r=>by
  rw [List.any_cons]
  by_cases e:p.1=k
  ·simp only [kB e,decide_eq_true e,Bool.true_or,Option.isSome_some]
  ·rw [kC e,decide_eq_false e,Bool.false_or]; exact uN k r
theorem lZ (kvs:List (κ × V)) (k:κ) (v:V):(putK kvs k v).length≤kvs.length+1:=by
 unfold putK
 split
 ·rw [List.length_map]; omega
 ·rw [List.length_append,List.length_cons,List.length_nil]; omega
theorem jM.isSome_eq {o:Option V} {u:Option Value} (r:jM o u):o.isSome=u.isSome:=by
 cases o with
 | none=>cases u with
  | none=>rfl
  | some _=>exact (show False from r).elim
 | some _=>cases u with
  | none=>exact (show False from r).elim
  | some _=>rfl
theorem KV.val {kvs:List (κ × V)} {vs:List (κ × Value)} (r:KV kvs vs) (k:κ):jM (lA kvs k) (valueAt vs k):=by
 unfold KV at r
 induction r with
 | nil=>exact True.intro
 | @cons p q ps qs h t ih =>
  obtain ⟨h1,h2⟩:=h
  by_cases e:p.1=k
  ·have e':q.1=k:=h1.symm.trans e
   have b:valueAt (q::qs) k=some q.2:=by simp [valueAt,List.find?_cons,e']
   rw [kB e,b]; exact h2
  ·have e':¬ q.1=k:=fun z=>e (h1.trans z)
   have b:valueAt (q::qs) k=valueAt qs k:=by simp [valueAt,List.find?_cons,e']
   rw [kC e,b]; exact ih
theorem KV.any {kvs:List (κ × V)} {vs:List (κ × Value)} (r:KV kvs vs) (k:κ):(kvs.any fun kv=>decide (kv.1=k))=vs.any fun kv=>decide (kv.1=k):=by
 unfold KV at r
 induction r with
 | nil=>rfl
 | cons h t ih=>rw [List.any_cons,List.any_cons,ih,h.1]
theorem KV.repl {kvs:List (κ × V)} {vs:List (κ × Value)} (r:KV kvs vs) (k:κ) {y:V} {u:Value} (ry:RelV y u) :
  KV (kvs.map fun kv=>if kv.1=k then (kv.1,y) else kv) (vs.map fun kv=>if kv.1=k then (kv.1,u) else kv):=by
 unfold KV at r ⊢
 induction r with
 | nil=>exact .nil
 | @cons p q ps qs h t ih =>
  rw [List.map_cons,List.map_cons]
  refine .cons ?_ ih
  obtain ⟨h1,h2⟩:=h
  by_cases e:p.1=k
  ·rw [if_pos e,if_pos (h1.symm.trans e)]; exact ⟨h1,ry⟩
  ·rw [if_neg e,if_neg (fun z=>e (h1.trans z))]; exact ⟨h1,h2⟩
theorem KV.put {kvs:List (κ × V)} {vs:List (κ × Value)} (r:KV kvs vs) (k:κ) {y:V} {u:Value} (ry:RelV y u):KV (putK kvs k y) (stored vs k u):=by
 unfold putK stored
 rw [r.any k]
 by_cases e:(vs.any fun kv=>decide (kv.1=k))=true
 ·rw [if_pos e,if_pos e]; exact r.repl k ry
 ·rw [if_neg e,if_neg e]; exact Paired.snoc r ⟨rfl,ry⟩
theorem KV.length {kvs:List (κ × V)} {vs:List (κ × Value)} (r:KV kvs vs):kvs.length=vs.length:=Paired.length r
end
theorem JC {P:Program} {w:World} {k:Key} {u:Value} (r:RelV (kV k) u):(cJ P w).is k u=true:=by
 cases k with
 | inl i=>obtain ⟨t,e⟩:=(show ∃ t,u=Value.int i t from r); subst e; exact vM P w i t
 | inr x=>obtain ⟨t,e⟩:=(show ∃ t,u=Value.str x t from r); subst e; exact vL P w x t
theorem qA {P:Program} {w:World}:∀ {ks:List Key} {us:List Value},aS (ks.map kV) us→ItemsAre (cJ P w) ks us
 | [],_,r=>by rw [List.map_nil] at r; cases r; exact .nil
 | k::ks,_,r=>by
  rw [List.map_cons] at r
  cases r with
  | cons h t=>exact .cons (JC h) (qA t)
abbrev KT (H:Hp):List (List Key × V)→List (List Key × Addr × Value)→Prop:=Paired fun p q=>p.1=q.1∧H q.2.1=some (.tup (p.1.map kV))∧RelV p.2 q.2.2
theorem KT.val {H:Hp} {kvs:List (List Key × V)} {xs:List (List Key × Addr × Value)} (r:KT H kvs xs) (k:List Key):jM (lA kvs k) ((atKey xs k).map (·.2)):=by
 induction r with
 | nil=>exact True.intro
 | @cons p q ps qs h t ih =>
  obtain ⟨h1,_,h2⟩:=h
  by_cases e:p.1=k
  ·have e':q.1=k:=h1.symm.trans e
   have b:atKey (q::qs) k=some q.2:=by simp [atKey,List.find?_cons,e']
   rw [kB e,b]; exact h2
  ·have e':¬ q.1=k:=fun z=>e (h1.trans z)
   have b:atKey (q::qs) k=atKey qs k:=by simp [atKey,List.find?_cons,e']
   rw [kC e,b]; exact ih
theorem KT.repl {H:Hp} {kvs:List (List Key × V)} {xs:List (List Key × Addr × Value)} (r:KT H kvs xs) (k:List Key) {y:V} {u:Value} (ry:RelV y u) :
  KT H (kvs.map fun kv=>if kv.1=k then (kv.1,y) else kv) (xs.map (putAt k u)):=by
 induction r with
 | nil=>exact .nil
 | @cons p q ps qs h t ih =>
  rw [List.map_cons,List.map_cons]
  refine .cons ?_ ih
  obtain ⟨h1,h2,h3⟩:=h
  unfold putAt
  by_cases e:p.1=k
  ·rw [if_pos e,if_pos (h1.symm.trans e)]; exact ⟨h1,h2,ry⟩
  ·rw [if_neg e,if_neg (fun z=>e (h1.trans z))]; exact ⟨h1,h2,h3⟩
theorem KT.put {H:Hp} {kvs:List (List Key × V)} {xs:List (List Key × Addr × Value)} (r:KT H kvs xs) (k:List Key) {b:Addr} {y:V} {u:Value} (hb:H b=some (.tup (k.map kV))) (ry:RelV y u) :
  KT H (putK kvs k y) (storedH xs k b u):=by
 have e:(kvs.any fun kv=>decide (kv.1=k))=(atKey xs k).isSome:=by
  rw [uN,(r.val k).isSome_eq,Option.isSome_map]
 unfold putK storedH
 rw [e]
 by_cases q:(atKey xs k).isSome=true
 ·rw [if_pos q,if_pos q]; exact r.repl k ry
 ·rw [if_neg q,if_neg q]; exact Paired.snoc r ⟨rfl,hb,ry⟩
theorem KT.keeps {H H':Hp} {kvs:List (List Key × V)} {xs:List (List Key × Addr × Value)} (r:KT H kvs xs) (ht:∀ b ys,H b=some (.tup ys)→H' b=some (.tup ys)):KT H' kvs xs:=
 Paired.mapP r fun _ _ z=>⟨z.1,ht _ _ z.2.1,z.2.2⟩
section
variable {P:Program}{w:World}{H:Hp}{h:Heap}{a:Addr}
theorem TC {u:HO} (ok:HOk P w H h) (e:Rd H a u):bU P w H h a u:=e.ok ok
theorem KJ {kvs:List (Key × V)} (ok:HOk P w H h) (e:Rd H a (.dK kvs)):kvs.length≤sizeLine∧(a == sysModules)=false∧∃ vs,KV kvs vs∧h.DictOf (cJ P w) a vs:=
 show bU P w H h a (.dK kvs) from TC ok e
theorem aGo {kvs:List (Key × V)} (ok:HOk P w H h) (e:H a=some (.dK kvs)):kvs.length≤sizeLine∧(a == sysModules)=false∧∃ vs,KV kvs vs∧h.DictOf (cJ P w) a vs:=KJ ok (.inl e)
theorem yN {ks:List Key} (ok:HOk P w H h) (e:H a=some (.tup (ks.map kV))):(tupleKind (cJ P w)).is h ks a:=by
 obtain ⟨_,its,r,o,h1,h2,n,h3⟩:=(show bU P w H h a (.tup (ks.map kV)) from ok a _ e)
 exact ⟨o,its.toArray,n,h1,h2,h3,by simpa using qA r⟩
theorem KI {kvs:List (List Key × V)} (ok:HOk P w H h) (e:Rd H a (.dT kvs)):kvs.length≤sizeLine∧(a == sysModules)=false ∧
  ∃ xs,KT H kvs xs∧h.DictOfH (tupleKind (cJ P w)) a xs:=by
 obtain ⟨z,y,xs,r,o,es,ep,h1,h2,h3,h4,h5⟩:=(show bU P w H h a (.dT kvs) from TC ok e)
 refine ⟨z,y,xs,r,o,es,ep,h1,h2,h3,h4,fun x hx=>?_,h5⟩
 have all:∀ {l:List (List Key × V)} {m:List (List Key × Addr × Value)},KT H l m→∀ x ∈ m,(tupleKind (cJ P w)).is h x.1 x.2.1:=by
  intro l m q
  induction q with
  | nil=>intro x hx; exact nomatch hx
  | @cons p q ps qs hq t ih =>
   intro x hx
   rcases List.mem_cons.mp hx with e|hx
   ·subst e
    exact yN ok (by rw [← hq.1]; exact hq.2.1)
   ·exact ih x hx
 exact all r x hx
theorem aGn {kvs:List (List Key × V)} (ok:HOk P w H h) (e:H a=some (.dT kvs)):kvs.length≤sizeLine∧(a == sysModules)=false ∧
  ∃ xs,KT H kvs xs∧h.DictOfH (tupleKind (cJ P w)) a xs:=KI ok (.inl e)
end
def FZ (H:Hp) (a:Addr) (y:V) (r:Option V):Prop:=
 (∃ kvs k,Rd H a (.dK kvs)∧y=kV k∧r=lA kvs k)∨∃ kvs k b,Rd H a (.dT kvs)∧y=.ref b∧H b=some (.tup (k.map kV))∧r=lA kvs k
def NA (H:Hp) (a:Addr) (y v:V) (H':Hp):Prop:=
 (∃ kvs k,H a=some (.dK kvs)∧y=kV k∧kvs.length<sizeLine∧H'=upd H a (.dK (putK kvs k v))) ∨
 ∃ kvs k b,H a=some (.dT kvs)∧y=.ref b∧H b=some (.tup (k.map kV))∧kvs.length<sizeLine∧H'=upd H a (.dT (putK kvs k v))
theorem FZ.k {H:Hp} {a:Addr} {kvs:List (Key × V)} {k:Key} (e:H a=some (.dK kvs)):FZ H a (kV k) (lA kvs k):=.inl ⟨kvs,k,.inl e,rfl,rfl⟩
theorem NA.k {H:Hp} {a:Addr} {kvs:List (Key × V)} {k:Key} {v:V} (e:H a=some (.dK kvs)) (hl:kvs.length<sizeLine):NA H a (kV k) v (upd H a (.dK (putK kvs k v))):=.inl ⟨kvs,k,e,rfl,hl,rfl⟩
section
variable {X:Cx}{pins:List (Addr × Obj)}{σ:St}{H:Hp}{s:Shared}{a:Addr}{y v:V}{u r:Value}{o:Option V}{A:Around}{E:Value→Shared→Prop}
theorem Inv.big (I:Inv X pins σ H s):sysModules<s.heap.objs.size:=by
 have h:mainGlobals<s.heap.objs.size:=(I.mod.glob.keeps I.bk).lt
 exact Nat.lt_trans (by decide) h
theorem FO {Q:Value→Shared→Prop} (hu:A.units+1<cLine) (I:Inv X pins σ H s) (g:FZ H a y (some v)) (ry:RelV y u) (h:∀ w' s',Inv X pins σ H s'→RelV v w'→Q w' s') :
  wpAny (model X.prog X.w) A (getItem (.ref a) u) Q E s:=by
 rcases g with ⟨kvs,k,e,ey,l⟩|⟨kvs,k,b,e,ey,eb,l⟩
 ·subst ey
  obtain ⟨z,hd,vs,rel,dd⟩:=KJ I.hok e
  obtain ⟨w',hw,rw'⟩:=jM.some_of (v:=v) (o:=valueAt vs k) (by rw [l]; exact rel.val k)
  exact wpAny_getItem_of (JC ry) dd.mapOf hw (h w' _ (I.tok _) rw')
 ·subst ey
  cases (show u=Value.ref b from ry)
  obtain ⟨z,hd,xs,rel,dd⟩:=KI I.hok e
  obtain ⟨w',hw,rw'⟩:=jM.some_of (v:=v) (o:=(atKey xs k).map (·.2)) (by rw [l]; exact rel.val k)
  obtain ⟨p,hp,hp2⟩:=Option.map_eq_some_iff.mp hw
  refine wpAny_getItem_heap (tupleKind_room_in1 hu) (yN I.hok eb) dd hp ?_
  rw [hp2]
  exact h w' _ (I.tok _) rw'
theorem CN {h':Heap} {t':Nat} {ob:HO} (I:Inv X pins σ H s) (mu:Mut (H a)) (hs:Heap.SameBut a s.heap h') (he:∃ q,h'.get? a=some q) (new:bU X.prog X.w (upd H a ob) h' a ob) :
  Inv X pins σ (upd H a ob) { s with heap:=h',toks:=t' }:=
 I.write (x:=a) (e:=a) mu (.inl rfl) (fun b q hb z=>(hs.2 b hb).trans z) he new
theorem aAM {P:Program} {w:World} {H':Hp} {h':Heap} {kvs:List (Key × V)} {vs:List (Key × Value)} (z:kvs.length≤sizeLine) (hd:(a == sysModules)=false) (rel:KV kvs vs) (dd:h'.DictOf (cJ P w) a vs) :
  bU P w H' h' a (.dK kvs):=⟨z,hd,vs,rel,dd⟩
theorem FN {H':Hp} {Q:Unit→Shared→Prop} (hu:A.units+1<cLine) (I:Inv X pins σ H s) (g:NA H a y v H') (ry:RelV y u) (rv:RelV v r) (h:∀ s',Inv X pins σ H' s'→Q () s') :
  wpAny (model X.prog X.w) A (setItem (.ref a) u r) Q E s:=by
 rcases g with ⟨kvs,k,e,ey,l,eH⟩|⟨kvs,k,b,e,ey,eb,l,eH⟩
 ·subst ey eH
  obtain ⟨z,hd,vs,rel,dd⟩:=aGo I.hok e
  have hz:vs.length≤sizeLine:=by rw [← rel.length]; exact z
  have hl:(putK kvs k v).length≤sizeLine:=by have:=lZ kvs k v; omega
  refine wpAny_setItem_pairs (hsz:=hz) (JC ry) dd fun h' dd' hs=>h _ ?_
  have he:∃ q,h'.get? a=some q:=let ⟨q,_,_,hq,_⟩:=dd'; ⟨q,hq⟩
  exact CN I (by rw [e]; exact True.intro) hs he (aAM hl hd (rel.put k rv) dd')
 ·subst ey eH
  cases (show u=Value.ref b from ry)
  obtain ⟨z,hd,xs,rel,dd⟩:=aGn I.hok e
  have hz:xs.length≤sizeLine:=by rw [← Paired.length rel]; exact z
  have hl:(putK kvs k v).length≤sizeLine:=by have:=lZ kvs k v; omega
  refine wpAny_setItem_heap (hsz:=hz) (tupleKind_room_in1 hu) (yN I.hok eb) dd fun h' dd' hs=>h _ ?_
  obtain ⟨q,es,ep,hq,h2,h3,h4,_,h5⟩:=dd'
  refine CN I (by rw [e]; exact True.intro) hs ⟨q,hq⟩ ⟨hl,hd,_,(rel.put k eb rv).keeps fun c ys ec=>?_,q,es,ep,hq,h2,h3,h4,h5⟩
  rw [aM (aFx ec e (fun z=>nomatch z))]
  exact ec
end
section
variable {X:Cx}{pins:List (Addr × Obj)}{σ:St}{H:Hp}{s:Shared}{a:Addr}{kvs:List (Key × V)}{k:Key}{u:Value}{A:Around}{E:Value→Shared→Prop}
end
def aHf (i:Expr):Prop:=∀ ov iv,subscripted i false ov iv=operate [ov,iv] (getItem ov iv)
theorem NM {prog:Program} {w:World} {A:Around} {E:Value→Shared→Prop} {s:Shared} {env:Env} {value slice:Expr} {pos:Pos} {T id:String} {Q:Value→Shared→Prop}
  (hl:typeLookup (.type T) "__getitem__" = pure (some (.builtin id))) (hs:aHf slice)
  (h:wpAny (model prog w) A (eval value env) (fun o s₁=>wpAny (model prog w) A (eval slice env) (fun i s₂=>s₂.TypeIs o T∧wpAny (model prog w) A (getItem o i) Q E s₂) E s₁) E s) :
  wpAny (model prog w) A (eval (.Subscript value slice pos) env) Q E s:=by
 refine Subscript_ (wpAny_mono h (fun o s₁ h₁=>wpAny_mono h₁ (fun i s₂ h₂=>?_) fun _ _ x=>x) fun _ _ x=>x)
 obtain ⟨hT,h₂⟩:=h₂
 unfold subscriptTail
 refine wpAny_bind ?_
 rw [getitemInPython_of_ne hT.not_modules]
 refine wpAny_bind (wpAny_specialOf hT hl ?_)
 have fin:wpAny (model prog w) A (subscripted slice false o i) (fun r s₃=>wpAny (model prog w) A (letTemporaryGo value o r >>= fun _=>pure r) Q E s₃) E s₂:=by
  rw [hs o i]
  exact wpAny_operating (wpAny_mono h₂ (fun r s₃ h₃=>wpAny_bind (wpAny_letTemporaryGo (wpAny_pure h₃))) fun _ _ x=>x)
 first
  | exact wpAny_pure (wpAny_bind fin)
  | exact wpAny_bind (wpAny_pure (wpAny_bind fin))
  | exact wpAny_bind fin
theorem wJ {X:Cx} {pins:List (Addr × Obj)} {σ:St} {H:Hp} {s:Shared} {a:Addr} {y:V} {o:Option V} (I:Inv X pins σ H s) (g:FZ H a y o):s.TypeIs (.ref a) "dict":=by
 rcases g with ⟨kvs,k,e,_,_⟩|⟨kvs,k,b,e,_,_,_⟩
 ·obtain ⟨_,_,vs,_,dd⟩:=KJ I.hok e
  exact dd.typeIs
 ·obtain ⟨_,_,xs,_,dd⟩:=KI I.hok e
  exact dd.typeIs
def aCm (td ty:TE):TE:=fun σ H Q=>td σ H fun x H1=>ty σ H1 fun y H2=>∃ a v,x=.ref a∧FZ H2 a y (some v)∧Q v H2
def aCS (td ty tv:TE):TS:=fun D σ H=>tv σ H fun v H1=>td σ H1 fun x H2=>ty σ H2 fun y H3=>∃ a H4,x=.ref a∧NA H3 a y v H4∧D.nx σ H4
section
variable {X:Cx}{o i e value:Expr}{pos pos' tpos:Pos}{td ty tv:TE}
theorem PM (hu:X.A.units+1<cLine) (ho:PE X o td) (hi:PE X i ty) (hs:aHf i):PE X (.Subscript o i pos) (aCm td ty):=by
 intro pins s σ H Q I h
 refine NM PySem.F.slot_dict_getitem.lookup hs (thn (ho pins s σ H _ I h) fun u s1 ⟨x,H1,I1,rx,q1⟩=>thn (hi pins s1 σ H1 _ I1 q1) fun iv s2 ⟨y,H2,I2,ry,a,v,ex,g,q2⟩=>?_)
 subst ex
 obtain rfl:u=Value.ref a:=rx
 exact ⟨wJ I2 g,FO hu I2 g ry fun w' s3 I3 rw'=>⟨v,H2,I3,rw',q2⟩⟩
theorem OY (hu:X.A.units+1<cLine) (ho:PE X o td) (hi:PE X i ty) (hv:PE X value tv) (hs:swapsWith value (some (.Subscript o i pos')) pos.line X.env=pure false) :
  PS X (.Assign [.Subscript o i pos'] value pos) (aCS td ty tv):=by
 intro pins s σ H D I h
 refine wpAny_Assign_Subscript (thn (hv pins s σ H _ I h) fun r s1 ⟨v,H1,I1,rv,q1⟩=>thn (ho pins s1 σ H1 _ I1 q1) fun u s2 ⟨x,H2,I2,rx,q2⟩=>thn (hi pins s2 σ H2 _ I2 q2) fun iv s3 ⟨y,H3,I3,ry,a,H4,ex,g,q3⟩=>?_) hs
 subst ex
 obtain rfl:u=Value.ref a:=rx
 exact FN hu I3 g ry rv fun s4 I4=>⟨σ,H4,I4,q3⟩
end
theorem KL {P:Program} {w:World} {H:Hp} (h:Heap) (hb:sysModules<h.objs.size):bU P w H (h.push { cls:=.type "dict",data:=.dict #[] }) h.objs.size (.dK []):=
 ⟨Nat.zero_le _,beq_eq_false_iff_ne.mpr (Ne.symm (Nat.ne_of_lt hb)),[],.nil,Heap.DictOf.new h⟩
def XF:TE:=fun _ H Q=>∀ p,H p=none→Q (.ref p) (upd H p (.dK []))
section
variable {X:Cx}{pos:Pos}
theorem HJ:PE X (.Dict [] [] pos) XF:=fun pins s σ H Q I h =>
 wpAny_Dict_empty ⟨.ref s.heap.objs.size,_,I.laid (a:=s.heap.objs.size) (o:=.dK []) (t':=s.toks) (fun _ _ q=>Heap.get?_push_of_some _ q) (Nat.le_refl _) (KL s.heap I.big),rfl,h _ (I.hok.fresh (Nat.le_refl _))⟩
end
structure M1 (X:Cx) (o:Expr) (m:Str) (apos:Pos) (e:Expr) (cpos:Pos):Prop where
 base:attributeBase o m X.env (eval o X.env)=eval o X.env
 few:((backTo cpos (starEach [e] X.env)).all (fun x=>!x.1)&&(backToKw cpos (keywordEach [] X.env)).all (fun x=>x.1.isSome)
  && decide (([e]:List Expr).length+([]:List Keyword).length+(if ([]:List Keyword).isEmpty then 0 else 1)<30))=true
 line:(apos.endLine == cpos.line)=true
 trees:backTo cpos (starEach [e] X.env)=[(false,eval e X.env)]
structure M2 (X:Cx) (o:Expr) (m:Str) (apos:Pos) (e f:Expr) (cpos:Pos):Prop where
 base:attributeBase o m X.env (eval o X.env)=eval o X.env
 few:((backTo cpos (starEach [e,f] X.env)).all (fun x=>!x.1)&&(backToKw cpos (keywordEach [] X.env)).all (fun x=>x.1.isSome)
  && decide (([e,f]:List Expr).length+([]:List Keyword).length+(if ([]:List Keyword).isEmpty then 0 else 1)<30))=true
 line:(apos.endLine == cpos.line)=true
 trees:backTo cpos (starEach [e,f] X.env)=[(false,eval e X.env),(false,eval f X.env)]
section
variable {X:Cx}{pins:List (Addr × Obj)}{σ:St}{H:Hp}{s:Shared}{a:Addr}{y d:V}{u r:Value}{o:Option V}{A:Around}{E:Value→Shared→Prop}
end
section
variable {X:Cx}{o e f:Expr}{apos cpos:Pos}{td ty tx:TE}
end
section
variable {X:Cx}{pins:List (Addr × Obj)}{σ:St}{H:Hp}{s:Shared}{a:Addr}{kvs:List (Key × V)}{A:Around}{E:Value→Shared→Prop}
end
section
variable {X:Cx}{pins:List (Addr × Obj)}{σ:St}{H:Hp}{s:Shared}{a:Addr}{y:V}{u:Value}{A:Around}{E:Value→Shared→Prop}
end
end L2
namespace Att
open PySem PySem.W PySem.Calls PyProof.Rows
end Att
namespace L2
open PySem PySem.Spec PyProof.Rows
end L2
namespace L2
open PySem PySem.Spec PyProof.Rows
end L2
namespace L2
open PySem PySem.Spec PyProof.Rows
section
variable {X:Cx}
end
section
variable {κ:Type}[DecidableEq κ]
end
end L2
namespace Toy
open PySem L2
open PySem.W (fnOf)
noncomputable def top (i:Nat):Stmt:=PySem.Challenge.pw_leaffold_k03_refused_folds.main.body.getD i (.Pass ⟨0,0,0,0⟩)
noncomputable def dF (n q:Str) (s:Stmt) (m:Str) (t c:Nat):FuncData:=fnOf n q (L2.fI s) (L2.bN s) (L2.aC s) .none .none .none (.str m t) none (.ref c) .none
noncomputable def oF (f:FuncData):Obj:=⟨.type "function",none,.func f,#[]⟩
noncomputable def oC (x:Array Value):Obj:=⟨.type "code",none,.fields x,#[]⟩
noncomputable def en (P:Params) (x:Str) (t:Nat) (v:Value):DictEntry:=⟨PyData.keyHash P x,.str x t,v⟩
noncomputable def j (i:Int):Value:=.int i 0
noncomputable def l (a:Nat):Value:=.ref a
noncomputable def o_3 (P:Params):Obj:=⟨(.type "dict"),none,(.dict #[en P "__name__" 165 (.str "law_leaffold_k03_refused_folds" 561),en P "__doc__" 166 .none,en P "__package__" 167 .none,en P "__loader__" 168 (.builtin "__main__.__loader__#opaque"),en P "__spec__" 169 .none,en P "__annotations__" 170 (.ref 6),en P "__builtins__" 171 (.ref 4),en P "__file__" 173 (.str "/claim/cut.py" 172),en P "__cached__" 174 .none,en P "LeafError" 206 (.ref 24),en P "NoSheet" 222 (.ref 37),en P "NoFold" 238 (.ref 49),en P "NoPlace" 254 (.ref 61),en P "Ajar" 270 (.ref 73),en P "Severed" 286 (.ref 85),en P "Bolted" 302 (.ref 97),en P "Loose" 318 (.ref 109),en P "NoWord" 334 (.ref 121),en P "MOST_CELLS" 338 (.int 64 337),en P "UPRIGHT_SIDES" 341 (.ref 124),en P "LEVEL_SIDES" 344 (.ref 125),en P "NEAR_SIDES" 347 (.ref 126),en P "Pile" 402 (.ref 157),en P "laid" 408 (.ref 166),en P "laid_row" 414 (.ref 171),en P "folded" 426 (.ref 178),en P "undone" 437 (.ref 185),en P "refuse_severed" 444 (.ref 192),en P "has_crease" 453 (.ref 199),en P "folded_table" 459 (.ref 204),en P "transposed" 465 (.ref 209),en P "column_of" 471 (.ref 214),en P "folded_strip" 484 (.ref 221),en P "turned_part" 490 (.ref 226),en P "turned_heap" 496 (.ref 231),en P "laid_together" 502 (.ref 236),en P "heap_at" 510 (.ref 243),en P "joints" 518 (.ref 248),en P "all_joints" 530 (.ref 255),en P "neighbours" 541 (.ref 262),en P "edge_lines" 554 (.ref 269),en P "cut" 560 (.ref 274),en P "_law_cell_at" 570 (.ref 281),en P "_law_whole" 577 (.ref 288),en P "_law_sheet_by" 586 (.ref 295),en P "_law_flat" 592 (.ref 300),en P "_law_spot" 611 (.ref 307),en P "_law_folded" 617 (.ref 312),en P "_law_fold_by" 629 (.ref 319),en P "_law_heap" 635 (.ref 324),en P "_law_same_heap" 645 (.ref 331),en P "_law_same_pile" 651 (.ref 336),en P "_law_word_of" 659 (.ref 343),en P "_law_fold_tried" 670 (.ref 350),en P "_law_undoing_tried" 678 (.ref 357),en P "_law_joints" 690 (.ref 364),en P "_law_bad_fold" 703 (.ref 371),en P "law" 709 (.ref 376)] 58),#[]⟩
noncomputable def aJh (P:Params):Obj:=⟨(.type "dict"),none,(.dict #[en P "__module__" 196 (.str "leaffold.errors" 187),en P "__firstlineno__" 200 (.int 2 199),en P "__static_attributes__" 201 (.ref 22),en P "__weakref__" 203 (.ref 25),en P "__doc__" 204 .none] 3),#[]⟩
noncomputable def aJg (P:Params):Obj:=⟨(.type "type"),none,(.cls ⟨"LeafError",[(.type "ValueError")],[(.ref 24),(.type "ValueError"),(.type "Exception"),(.type "BaseException"),(.type "object")],23,"LeafError",true,[],[(.ref 37),(.ref 49),(.ref 61),(.ref 73),(.ref 85),(.ref 97),(.ref 109),(.ref 121)],false,none,false⟩),#[(some (.ref 15)),none,(some (.str "LeafError" 189)),(some (.str "LeafError" 197)),(some (.builtin "ValueError.__new__")),(some (.bool true))]⟩
noncomputable def aJe (P:Params):Obj:=⟨(.type "dict"),none,(.dict #[en P "__module__" 214 (.str "leaffold.errors" 187),en P "__firstlineno__" 218 (.int 4 217),en P "__static_attributes__" 219 (.ref 35),en P "__doc__" 220 .none] 2),#[]⟩
noncomputable def aJd (P:Params):Obj:=⟨(.type "type"),none,(.cls ⟨"NoSheet",[(.ref 24)],[(.ref 37),(.ref 24),(.type "ValueError"),(.type "Exception"),(.type "BaseException"),(.type "object")],36,"NoSheet",true,[],[],false,none,false⟩),#[(some (.ref 28)),none,(some (.str "NoSheet" 207)),(some (.str "NoSheet" 215)),(some (.builtin "ValueError.__new__")),(some (.bool true))]⟩
noncomputable def aJb (P:Params):Obj:=⟨(.type "dict"),none,(.dict #[en P "__module__" 230 (.str "leaffold.errors" 187),en P "__firstlineno__" 234 (.int 6 233),en P "__static_attributes__" 235 (.ref 47),en P "__doc__" 236 .none] 2),#[]⟩
noncomputable def aJa (P:Params):Obj:=⟨(.type "type"),none,(.cls ⟨"NoFold",[(.ref 24)],[(.ref 49),(.ref 24),(.type "ValueError"),(.type "Exception"),(.type "BaseException"),(.type "object")],48,"NoFold",true,[],[],false,none,false⟩),#[(some (.ref 40)),none,(some (.str "NoFold" 223)),(some (.str "NoFold" 231)),(some (.builtin "ValueError.__new__")),(some (.bool true))]⟩
noncomputable def aIX (P:Params):Obj:=⟨(.type "dict"),none,(.dict #[en P "__module__" 246 (.str "leaffold.errors" 187),en P "__firstlineno__" 250 (.int 8 249),en P "__static_attributes__" 251 (.ref 59),en P "__doc__" 252 .none] 2),#[]⟩
noncomputable def aIW (P:Params):Obj:=⟨(.type "type"),none,(.cls ⟨"NoPlace",[(.ref 24)],[(.ref 61),(.ref 24),(.type "ValueError"),(.type "Exception"),(.type "BaseException"),(.type "object")],60,"NoPlace",true,[],[],false,none,false⟩),#[(some (.ref 52)),none,(some (.str "NoPlace" 239)),(some (.str "NoPlace" 247)),(some (.builtin "ValueError.__new__")),(some (.bool true))]⟩
noncomputable def aIU (P:Params):Obj:=⟨(.type "dict"),none,(.dict #[en P "__module__" 262 (.str "leaffold.errors" 187),en P "__firstlineno__" 266 (.int 10 265),en P "__static_attributes__" 267 (.ref 71),en P "__doc__" 268 .none] 2),#[]⟩
noncomputable def aIT (P:Params):Obj:=⟨(.type "type"),none,(.cls ⟨"Ajar",[(.ref 24)],[(.ref 73),(.ref 24),(.type "ValueError"),(.type "Exception"),(.type "BaseException"),(.type "object")],72,"Ajar",true,[],[],false,none,false⟩),#[(some (.ref 64)),none,(some (.str "Ajar" 255)),(some (.str "Ajar" 263)),(some (.builtin "ValueError.__new__")),(some (.bool true))]⟩
noncomputable def aIR (P:Params):Obj:=⟨(.type "dict"),none,(.dict #[en P "__module__" 278 (.str "leaffold.errors" 187),en P "__firstlineno__" 282 (.int 12 281),en P "__static_attributes__" 283 (.ref 83),en P "__doc__" 284 .none] 2),#[]⟩
noncomputable def aIQ (P:Params):Obj:=⟨(.type "type"),none,(.cls ⟨"Severed",[(.ref 24)],[(.ref 85),(.ref 24),(.type "ValueError"),(.type "Exception"),(.type "BaseException"),(.type "object")],84,"Severed",true,[],[],false,none,false⟩),#[(some (.ref 76)),none,(some (.str "Severed" 271)),(some (.str "Severed" 279)),(some (.builtin "ValueError.__new__")),(some (.bool true))]⟩
noncomputable def aIO (P:Params):Obj:=⟨(.type "dict"),none,(.dict #[en P "__module__" 294 (.str "leaffold.errors" 187),en P "__firstlineno__" 298 (.int 14 297),en P "__static_attributes__" 299 (.ref 95),en P "__doc__" 300 .none] 2),#[]⟩
noncomputable def aIN (P:Params):Obj:=⟨(.type "type"),none,(.cls ⟨"Bolted",[(.ref 24)],[(.ref 97),(.ref 24),(.type "ValueError"),(.type "Exception"),(.type "BaseException"),(.type "object")],96,"Bolted",true,[],[],false,none,false⟩),#[(some (.ref 88)),none,(some (.str "Bolted" 287)),(some (.str "Bolted" 295)),(some (.builtin "ValueError.__new__")),(some (.bool true))]⟩
noncomputable def aFu (P:Params):Obj:=⟨(.type "dict"),none,(.dict #[en P "__module__" 310 (.str "leaffold.errors" 187),en P "__firstlineno__" 314 (.int 16 313),en P "__static_attributes__" 315 (.ref 107),en P "__doc__" 316 .none] 2),#[]⟩
noncomputable def aFt (P:Params):Obj:=⟨(.type "type"),none,(.cls ⟨"Loose",[(.ref 24)],[(.ref 109),(.ref 24),(.type "ValueError"),(.type "Exception"),(.type "BaseException"),(.type "object")],108,"Loose",true,[],[],false,none,false⟩),#[(some (.ref 100)),none,(some (.str "Loose" 303)),(some (.str "Loose" 311)),(some (.builtin "ValueError.__new__")),(some (.bool true))]⟩
noncomputable def aFq (P:Params):Obj:=⟨(.type "dict"),none,(.dict #[en P "__module__" 326 (.str "leaffold.errors" 187),en P "__firstlineno__" 330 (.int 18 329),en P "__static_attributes__" 331 (.ref 119),en P "__doc__" 332 .none] 2),#[]⟩
noncomputable def aFp (P:Params):Obj:=⟨(.type "type"),none,(.cls ⟨"NoWord",[(.ref 24)],[(.ref 121),(.ref 24),(.type "ValueError"),(.type "Exception"),(.type "BaseException"),(.type "object")],120,"NoWord",true,[],[],false,none,false⟩),#[(some (.ref 112)),none,(some (.str "NoWord" 319)),(some (.str "NoWord" 327)),(some (.builtin "ValueError.__new__")),(some (.bool true))]⟩
noncomputable def aFo (P:Params):Obj:=⟨(.type "tuple"),none,(.seq #[(.str "west" 339),(.str "east" 340)] 0),#[]⟩
noncomputable def aFn (P:Params):Obj:=⟨(.type "tuple"),none,(.seq #[(.str "north" 342),(.str "south" 343)] 0),#[]⟩
noncomputable def aFm (P:Params):Obj:=⟨(.type "tuple"),none,(.seq #[(.str "west" 345),(.str "north" 346)] 0),#[]⟩
noncomputable def aFk (P:Params):Obj:=oC #[.str "__init__" 360,.str "Pile.__init__" 361,.str "/claim/cut.py" 362,j 27,j 6,j 0,j 0,j 3,l 134,(.bool true),j 181,l 135,.none,l 136,l 137,l 138,j 369,j 27,.str "/claim/cut.py" 370]
noncomputable def zB:FuncData:=dF "__init__" "Pile.__init__" (L2.inClass (top 15) 0) "leaffold.piles" 335 139
noncomputable def VC (P:Params):Obj:=oF zB
noncomputable def aFi (P:Params):Obj:=oC #[.str "heap" 372,.str "Pile.heap" 373,.str "/claim/cut.py" 374,j 36,j 3,j 0,j 0,j 3,l 141,(.bool true),j 181,l 142,.none,l 143,l 144,l 145,j 378,j 36,.str "/claim/cut.py" 379]
noncomputable def sN:FuncData:=dF "heap" "Pile.heap" (L2.inClass (top 15) 1) "leaffold.piles" 335 146
noncomputable def VB (P:Params):Obj:=oF sN
noncomputable def aFg (P:Params):Obj:=oC #[.str "done" 381,.str "Pile.done" 382,.str "/claim/cut.py" 383,j 41,j 1,j 0,j 0,j 3,l 148,(.bool true),j 181,l 149,.none,l 150,l 151,l 152,j 385,j 41,.str "/claim/cut.py" 386]
noncomputable def sP:FuncData:=dF "done" "Pile.done" (L2.inClass (top 15) 2) "leaffold.piles" 335 153
noncomputable def VA (P:Params):Obj:=oF sP
noncomputable def aFf (P:Params):Obj:=⟨(.type "dict"),none,(.dict #[en P "__module__" 355 (.str "leaffold.piles" 335),en P "__firstlineno__" 359 (.int 25 358),en P "__init__" 371 (.ref 140),en P "heap" 380 (.ref 147),en P "done" 387 (.ref 154),en P "__static_attributes__" 395 (.ref 155),en P "__dict__" 397 (.ref 158),en P "__weakref__" 399 (.ref 159),en P "__doc__" 400 .none] 4),#[]⟩
noncomputable def aFe (P:Params):Obj:=⟨(.type "type"),none,(.cls ⟨"Pile",[(.type "object")],[(.ref 157),(.type "object")],156,"Pile",true,[],[],false,none,false⟩),#[none,none,(some (.str "Pile" 348)),(some (.str "Pile" 356)),(some (.builtin "object.__new__")),(some (.bool true))]⟩
noncomputable def aFc (P:Params):Obj:=oC #[.str "laid" 403,.str "laid" 404,.str "/claim/cut.py" 405,j 43,j 2,j 0,j 0,j 3,l 162,(.bool true),j 181,l 163,.none,.none,.none,l 164,j 406,j 43,.str "/claim/cut.py" 407]
noncomputable def sO:FuncData:=dF "laid" "laid" (top 16) "leaffold.piles" 335 165
noncomputable def UZ (P:Params):Obj:=oF sO
noncomputable def aFa (P:Params):Obj:=oC #[.str "laid_row" 409,.str "laid_row" 410,.str "/claim/cut.py" 411,j 48,j 2,j 0,j 0,j 3,l 167,(.bool true),j 181,l 168,.none,.none,.none,l 169,j 412,j 48,.str "/claim/cut.py" 413]
noncomputable def sU:FuncData:=dF "laid_row" "laid_row" (top 17) "leaffold.piles" 335 170
noncomputable def UY (P:Params):Obj:=oF sU
noncomputable def aEZ (P:Params):Obj:=oC #[.str "folded" 415,.str "folded" 416,.str "/claim/cut.py" 417,j 50,j 4,j 0,j 0,j 3,l 172,(.bool true),j 181,l 173,.none,l 174,l 175,l 176,j 424,j 50,.str "/claim/cut.py" 425]
noncomputable def sQ:FuncData:=dF "folded" "folded" (top 18) "leaffold.piles" 335 177
noncomputable def UX (P:Params):Obj:=oF sQ
noncomputable def aEX (P:Params):Obj:=oC #[.str "undone" 427,.str "undone" 428,.str "/claim/cut.py" 429,j 57,j 1,j 0,j 0,j 3,l 179,(.bool true),j 181,l 180,.none,l 181,l 182,l 183,j 435,j 57,.str "/claim/cut.py" 436]
noncomputable def sS:FuncData:=dF "undone" "undone" (top 19) "leaffold.piles" 335 184
noncomputable def UW (P:Params):Obj:=oF sS
noncomputable def aEV (P:Params):Obj:=oC #[.str "refuse_severed" 438,.str "refuse_severed" 439,.str "/claim/cut.py" 440,j 65,j 1,j 0,j 0,j 3,l 186,(.bool true),j 181,l 187,.none,l 188,l 189,l 190,j 442,j 65,.str "/claim/cut.py" 443]
noncomputable def BD:FuncData:=dF "refuse_severed" "refuse_severed" (top 20) "leaffold.piles" 335 191
noncomputable def UV (P:Params):Obj:=oF BD
noncomputable def aEU (P:Params):Obj:=oC #[.str "has_crease" 445,.str "has_crease" 446,.str "/claim/cut.py" 447,j 68,j 3,j 0,j 0,j 3,l 193,(.bool true),j 181,l 194,.none,l 195,l 196,l 197,j 451,j 68,.str "/claim/cut.py" 452]
noncomputable def tG:FuncData:=dF "has_crease" "has_crease" (top 21) "leaffold.piles" 335 198
noncomputable def UU (P:Params):Obj:=oF tG
noncomputable def aES (P:Params):Obj:=oC #[.str "folded_table" 454,.str "folded_table" 455,.str "/claim/cut.py" 456,j 74,j 4,j 0,j 0,j 3,l 200,(.bool true),j 181,l 201,.none,.none,.none,l 202,j 457,j 74,.str "/claim/cut.py" 458]
noncomputable def tR:FuncData:=dF "folded_table" "folded_table" (top 22) "leaffold.piles" 335 203
noncomputable def UT (P:Params):Obj:=oF tR
noncomputable def aER (P:Params):Obj:=oC #[.str "transposed" 460,.str "transposed" 461,.str "/claim/cut.py" 462,j 79,j 1,j 0,j 0,j 3,l 205,(.bool true),j 181,l 206,.none,.none,.none,l 207,j 463,j 79,.str "/claim/cut.py" 464]
noncomputable def tF:FuncData:=dF "transposed" "transposed" (top 23) "leaffold.piles" 335 208
noncomputable def US (P:Params):Obj:=oF tF
noncomputable def aEP (P:Params):Obj:=oC #[.str "column_of" 466,.str "column_of" 467,.str "/claim/cut.py" 468,j 81,j 2,j 0,j 0,j 3,l 210,(.bool true),j 181,l 211,.none,.none,.none,l 212,j 469,j 81,.str "/claim/cut.py" 470]
noncomputable def sV:FuncData:=dF "column_of" "column_of" (top 24) "leaffold.piles" 335 213
noncomputable def UR (P:Params):Obj:=oF sV
noncomputable def aEN (P:Params):Obj:=oC #[.str "folded_strip" 472,.str "folded_strip" 473,.str "/claim/cut.py" 474,j 83,j 4,j 0,j 0,j 3,l 215,(.bool true),j 181,l 216,.none,l 217,l 218,l 219,j 482,j 83,.str "/claim/cut.py" 483]
noncomputable def AX:FuncData:=dF "folded_strip" "folded_strip" (top 25) "leaffold.piles" 335 220
noncomputable def UQ (P:Params):Obj:=oF AX
noncomputable def aEM (P:Params):Obj:=oC #[.str "turned_part" 485,.str "turned_part" 486,.str "/claim/cut.py" 487,j 90,j 2,j 0,j 0,j 3,l 222,(.bool true),j 181,l 223,.none,.none,.none,l 224,j 488,j 90,.str "/claim/cut.py" 489]
noncomputable def tL:FuncData:=dF "turned_part" "turned_part" (top 26) "leaffold.piles" 335 225
noncomputable def UP (P:Params):Obj:=oF tL
noncomputable def aEK (P:Params):Obj:=oC #[.str "turned_heap" 491,.str "turned_heap" 492,.str "/claim/cut.py" 493,j 92,j 2,j 0,j 0,j 3,l 227,(.bool true),j 181,l 228,.none,.none,.none,l 229,j 494,j 92,.str "/claim/cut.py" 495]
noncomputable def tO:FuncData:=dF "turned_heap" "turned_heap" (top 27) "leaffold.piles" 335 230
noncomputable def UO (P:Params):Obj:=oF tO
noncomputable def aEJ (P:Params):Obj:=oC #[.str "laid_together" 497,.str "laid_together" 498,.str "/claim/cut.py" 499,j 96,j 3,j 0,j 0,j 3,l 232,(.bool true),j 181,l 233,.none,.none,.none,l 234,j 500,j 96,.str "/claim/cut.py" 501]
noncomputable def BA:FuncData:=dF "laid_together" "laid_together" (top 28) "leaffold.piles" 335 235
noncomputable def UN (P:Params):Obj:=oF BA
noncomputable def aEH (P:Params):Obj:=oC #[.str "heap_at" 503,.str "heap_at" 504,.str "/claim/cut.py" 505,j 101,j 2,j 0,j 0,j 3,l 237,(.bool true),j 181,l 238,.none,l 239,l 240,l 241,j 508,j 101,.str "/claim/cut.py" 509]
noncomputable def sT:FuncData:=dF "heap_at" "heap_at" (top 29) "leaffold.piles" 335 242
noncomputable def UM (P:Params):Obj:=oF sT
noncomputable def aEG (P:Params):Obj:=oC #[.str "joints" 513,.str "joints" 514,.str "/claim/cut.py" 515,j 104,j 1,j 0,j 0,j 3,l 244,(.bool true),j 181,l 245,.none,.none,.none,l 246,j 516,j 104,.str "/claim/cut.py" 517]
noncomputable def sR:FuncData:=dF "joints" "joints" (top 31) "leaffold.joints" 511 247
noncomputable def UL (P:Params):Obj:=oF sR
noncomputable def aEE (P:Params):Obj:=oC #[.str "all_joints" 519,.str "all_joints" 520,.str "/claim/cut.py" 521,j 106,j 1,j 0,j 0,j 3,l 249,(.bool true),j 181,l 250,.none,l 251,l 252,l 253,j 528,j 106,.str "/claim/cut.py" 529]
noncomputable def tH:FuncData:=dF "all_joints" "all_joints" (top 32) "leaffold.joints" 511 254
noncomputable def UK (P:Params):Obj:=oF tH
noncomputable def aEC (P:Params):Obj:=oC #[.str "neighbours" 531,.str "neighbours" 532,.str "/claim/cut.py" 533,j 112,j 2,j 0,j 0,j 3,l 256,(.bool true),j 181,l 257,.none,l 258,l 259,l 260,j 539,j 112,.str "/claim/cut.py" 540]
noncomputable def tJ:FuncData:=dF "neighbours" "neighbours" (top 33) "leaffold.joints" 511 261
noncomputable def UJ (P:Params):Obj:=oF tJ
noncomputable def aEB (P:Params):Obj:=oC #[.str "edge_lines" 542,.str "edge_lines" 543,.str "/claim/cut.py" 544,j 121,j 1,j 0,j 0,j 3,l 263,(.bool true),j 181,l 264,.none,l 265,l 266,l 267,j 552,j 121,.str "/claim/cut.py" 553]
noncomputable def tK:FuncData:=dF "edge_lines" "edge_lines" (top 34) "leaffold.joints" 511 268
noncomputable def UI (P:Params):Obj:=oF tK
noncomputable def aEz (P:Params):Obj:=oC #[.str "cut" 555,.str "cut" 556,.str "/claim/cut.py" 557,j 128,j 3,j 0,j 0,j 3,l 270,(.bool true),j 181,l 271,.none,.none,.none,l 272,j 558,j 128,.str "/claim/cut.py" 559]
noncomputable def sM:FuncData:=dF "cut" "cut" (top 35) "leaffold.joints" 511 273
noncomputable def UH (P:Params):Obj:=oF sM
noncomputable def aEy (P:Params):Obj:=oC #[.str "_law_cell_at" 563,.str "_law_cell_at" 564,.str "/claim/cut.py" 565,j 135,j 2,j 0,j 0,j 3,l 275,(.bool true),j 181,l 276,.none,l 277,l 278,l 279,j 568,j 135,.str "/claim/cut.py" 569]
noncomputable def tP:FuncData:=dF "_law_cell_at" "_law_cell_at" (top 37) "law_leaffold_k03_refused_folds" 561 280
noncomputable def UG (P:Params):Obj:=oF tP
noncomputable def aEx (P:Params):Obj:=oC #[.str "_law_whole" 571,.str "_law_whole" 572,.str "/claim/cut.py" 573,j 139,j 1,j 0,j 0,j 3,l 282,(.bool true),j 181,l 283,.none,l 284,l 285,l 286,j 575,j 139,.str "/claim/cut.py" 576]
noncomputable def sZ:FuncData:=dF "_law_whole" "_law_whole" (top 38) "law_leaffold_k03_refused_folds" 561 287
noncomputable def UF (P:Params):Obj:=oF sZ
noncomputable def aEv (P:Params):Obj:=oC #[.str "_law_sheet_by" 578,.str "_law_sheet_by" 579,.str "/claim/cut.py" 580,j 141,j 1,j 0,j 0,j 3,l 289,(.bool true),j 181,l 290,.none,l 291,l 292,l 293,j 584,j 141,.str "/claim/cut.py" 585]
noncomputable def AZ:FuncData:=dF "_law_sheet_by" "_law_sheet_by" (top 39) "law_leaffold_k03_refused_folds" 561 294
noncomputable def UE (P:Params):Obj:=oF AZ
noncomputable def aEu (P:Params):Obj:=oC #[.str "_law_flat" 587,.str "_law_flat" 588,.str "/claim/cut.py" 589,j 151,j 2,j 0,j 0,j 3,l 296,(.bool true),j 181,l 297,.none,.none,.none,l 298,j 590,j 151,.str "/claim/cut.py" 591]
noncomputable def sW:FuncData:=dF "_law_flat" "_law_flat" (top 40) "law_leaffold_k03_refused_folds" 561 299
noncomputable def UD (P:Params):Obj:=oF sW
noncomputable def aEs (P:Params):Obj:=oC #[.str "_law_spot" 593,.str "_law_spot" 594,.str "/claim/cut.py" 595,j 153,j 5,j 0,j 0,j 3,l 301,(.bool true),j 181,l 302,.none,l 303,l 304,l 305,j 609,j 153,.str "/claim/cut.py" 610]
noncomputable def sY:FuncData:=dF "_law_spot" "_law_spot" (top 41) "law_leaffold_k03_refused_folds" 561 306
noncomputable def UC (P:Params):Obj:=oF sY
noncomputable def aEq (P:Params):Obj:=oC #[.str "_law_folded" 612,.str "_law_folded" 613,.str "/claim/cut.py" 614,j 167,j 2,j 0,j 0,j 3,l 308,(.bool true),j 181,l 309,.none,.none,.none,l 310,j 615,j 167,.str "/claim/cut.py" 616]
noncomputable def tN:FuncData:=dF "_law_folded" "_law_folded" (top 42) "law_leaffold_k03_refused_folds" 561 311
noncomputable def UB (P:Params):Obj:=oF tN
noncomputable def aEp (P:Params):Obj:=oC #[.str "_law_fold_by" 618,.str "_law_fold_by" 619,.str "/claim/cut.py" 620,j 174,j 3,j 0,j 0,j 3,l 313,(.bool true),j 181,l 314,.none,l 315,l 316,l 317,j 627,j 174,.str "/claim/cut.py" 628]
noncomputable def tQ:FuncData:=dF "_law_fold_by" "_law_fold_by" (top 43) "law_leaffold_k03_refused_folds" 561 318
noncomputable def UA (P:Params):Obj:=oF tQ
noncomputable def aEn (P:Params):Obj:=oC #[.str "_law_heap" 630,.str "_law_heap" 631,.str "/claim/cut.py" 632,j 179,j 3,j 0,j 0,j 3,l 320,(.bool true),j 181,l 321,.none,.none,.none,l 322,j 633,j 179,.str "/claim/cut.py" 634]
noncomputable def sX:FuncData:=dF "_law_heap" "_law_heap" (top 44) "law_leaffold_k03_refused_folds" 561 323
noncomputable def TZ (P:Params):Obj:=oF sX
noncomputable def aEk (P:Params):Obj:=oC #[.str "_law_same_heap" 636,.str "_law_same_heap" 637,.str "/claim/cut.py" 638,j 185,j 2,j 0,j 0,j 3,l 325,(.bool true),j 181,l 326,.none,l 327,l 328,l 329,j 643,j 185,.str "/claim/cut.py" 644]
noncomputable def BB:FuncData:=dF "_law_same_heap" "_law_same_heap" (top 45) "law_leaffold_k03_refused_folds" 561 330
noncomputable def TY (P:Params):Obj:=oF BB
noncomputable def aEj (P:Params):Obj:=oC #[.str "_law_same_pile" 646,.str "_law_same_pile" 647,.str "/claim/cut.py" 648,j 195,j 4,j 0,j 0,j 3,l 332,(.bool true),j 181,l 333,.none,.none,.none,l 334,j 649,j 195,.str "/claim/cut.py" 650]
noncomputable def BC:FuncData:=dF "_law_same_pile" "_law_same_pile" (top 46) "law_leaffold_k03_refused_folds" 561 335
noncomputable def TX (P:Params):Obj:=oF BC
noncomputable def aEh (P:Params):Obj:=oC #[.str "_law_word_of" 652,.str "_law_word_of" 653,.str "/claim/cut.py" 654,j 209,j 1,j 0,j 0,j 3,l 337,(.bool true),j 181,l 338,.none,l 339,l 340,l 341,j 657,j 209,.str "/claim/cut.py" 658]
noncomputable def AW:FuncData:=dF "_law_word_of" "_law_word_of" (top 47) "law_leaffold_k03_refused_folds" 561 342
noncomputable def TV (P:Params):Obj:=oF AW
noncomputable def aEg (P:Params):Obj:=oC #[.str "_law_fold_tried" 660,.str "_law_fold_tried" 661,.str "/claim/cut.py" 662,j 215,j 4,j 0,j 0,j 3,l 344,(.bool true),j 181,l 345,.none,l 346,l 347,l 348,j 668,j 215,.str "/claim/cut.py" 669]
noncomputable def BE:FuncData:=dF "_law_fold_tried" "_law_fold_tried" (top 48) "law_leaffold_k03_refused_folds" 561 349
noncomputable def TR (P:Params):Obj:=oF BE
noncomputable def aEe (P:Params):Obj:=oC #[.str "_law_undoing_tried" 671,.str "_law_undoing_tried" 672,.str "/claim/cut.py" 673,j 221,j 1,j 0,j 0,j 3,l 351,(.bool true),j 181,l 352,.none,l 353,l 354,l 355,j 676,j 221,.str "/claim/cut.py" 677]
noncomputable def BG:FuncData:=dF "_law_undoing_tried" "_law_undoing_tried" (top 49) "law_leaffold_k03_refused_folds" 561 356
noncomputable def TQ (P:Params):Obj:=oF BG
noncomputable def aEc (P:Params):Obj:=oC #[.str "_law_joints" 679,.str "_law_joints" 680,.str "/claim/cut.py" 681,j 227,j 3,j 0,j 0,j 3,l 358,(.bool true),j 181,l 359,.none,l 360,l 361,l 362,j 688,j 227,.str "/claim/cut.py" 689]
noncomputable def tM:FuncData:=dF "_law_joints" "_law_joints" (top 50) "law_leaffold_k03_refused_folds" 561 363
noncomputable def TN (P:Params):Obj:=oF tM
noncomputable def aEa (P:Params):Obj:=oC #[.str "_law_bad_fold" 691,.str "_law_bad_fold" 692,.str "/claim/cut.py" 693,j 236,j 3,j 0,j 0,j 3,l 365,(.bool true),j 181,l 366,.none,l 367,l 368,l 369,j 701,j 236,.str "/claim/cut.py" 702]
noncomputable def AY:FuncData:=dF "_law_bad_fold" "_law_bad_fold" (top 51) "law_leaffold_k03_refused_folds" 561 370
noncomputable def TM (P:Params):Obj:=oF AY
noncomputable def aDZ (P:Params):Obj:=oC #[.str "law" 704,.str "law" 705,.str "/claim/cut.py" 706,j 244,j 1,j 0,j 0,j 3,l 372,(.bool true),j 181,l 373,.none,.none,.none,l 374,j 707,j 244,.str "/claim/cut.py" 708]
noncomputable def oI:FuncData:=dF "law" "law" (top 52) "law_leaffold_k03_refused_folds" 561 375
noncomputable def TL (P:Params):Obj:=oF oI
noncomputable def KK (P:Params):PySem.W.Frag:=[(3,o_3 P),(23,aJh P),(24,aJg P),(36,aJe P),(37,aJd P),(48,aJb P),(49,aJa P),(60,aIX P),(61,aIW P),(72,aIU P),(73,aIT P),(84,aIR P),(85,aIQ P),(96,aIO P),(97,aIN P),(108,aFu P),(109,aFt P),(120,aFq P),(121,aFp P),(124,aFo P),(125,aFn P),(126,aFm P),(139,aFk P),(140,VC P),(146,aFi P),(147,VB P),(153,aFg P),(154,VA P),(156,aFf P),(157,aFe P),(165,aFc P),(166,UZ P),(170,aFa P),(171,UY P),(177,aEZ P),(178,UX P),(184,aEX P),(185,UW P),(191,aEV P),(192,UV P),(198,aEU P),(199,UU P),(203,aES P),(204,UT P),(208,aER P),(209,US P),(213,aEP P),(214,UR P),(220,aEN P),(221,UQ P),(225,aEM P),(226,UP P),(230,aEK P),(231,UO P),(235,aEJ P),(236,UN P),(242,aEH P),(243,UM P),(247,aEG P),(248,UL P),(254,aEE P),(255,UK P),(261,aEC P),(262,UJ P),(268,aEB P),(269,UI P),(273,aEz P),(274,UH P),(280,aEy P),(281,UG P),(287,aEx P),(288,UF P),(294,aEv P),(295,UE P),(299,aEu P),(300,UD P),(306,aEs P),(307,UC P),(311,aEq P),(312,UB P),(318,aEp P),(319,UA P),(323,aEn P),(324,TZ P),(330,aEk P),(331,TY P),(335,aEj P),(336,TX P),(342,aEh P),(343,TV P),(349,aEg P),(350,TR P),(356,aEe P),(357,TQ P),(363,aEc P),(364,TN P),(370,aEa P),(371,TM P),(375,aDZ P),(376,TL P)]
noncomputable def aas:List Addr:=[3,23,24,36,37,48,49,60,61,72,73,84,85,96,97,108,109,120,121,124,125,126,139,140,146,147,153,154,156,157,165,166,170,171,177,178,184,185,191,192,198,199,203,204,208,209,213,214,220,221,225,226,230,231,235,236,242,243,247,248,254,255,261,262,268,269,273,274,280,281,287,288,294,295,299,300,306,307,311,312,318,319,323,324,330,331,335,336,342,343,349,350,356,357,363,364,370,371,375,376]
theorem aFY:∀ P,aas=(KK P).map (·.1):=fun _=>by kernel_rfl
abbrev lw:PySem.W.OpenLaw:=PySem.Challenge.rw_leaffold_k03_refused_folds
abbrev HH:PySem.W.Hook:=PySem.W.kHook KK aas aFY
open PySem.W PyProof.Rows
noncomputable def vw:Program:=view lw.prog [1,2,3,4,5,6,7,8,9,11,12,13,14,15,16,17,18,19,20,21,22,23,24,25,26,27,28,29,31,32,33,34,35,37,38,39,40,41,42,43,44,45,46,47,48,49,50,51,52]
abbrev Xt (s:Shared):Bool:=xlAt vw [] s&&recOk (RowW.records (OpenRow.toRowW (OpenLaw.row lw))) s
set_option maxHeartbeats 0 in
theorem sC {p q:Program} {loose:List Str} {Xt:Shared→Bool} {α:Type} {Yf:Shared→α} {Ya:World→α} {N:Nat} {g0:Bool} (open_:∀ w:World,(fencedOpening treeTable p w N).map (fun s=>(s.heap,s.gens,s.drawn,s.toks))=some (boot_heap w.params,Array.mk [],boot_drawn,boot_toks))
  (h:∀ (w:World) (os:OsState),(topFrom treeTable p w N ⟨boot_heap w.params,Array.mk [],boot_drawn,boot_toks,os⟩).map (fun s=>(openSeen q loose (importedModules p.main.body) Xt g0 s,Yf s))=some (openGood q loose,Ya w)):LeftO p q loose Xt Yf Ya N g0:=fun w=>by
 obtain ⟨⟨hp,gs,d,k,os⟩,e,e'⟩:=Option.map_eq_some_iff.mp (open_ w)
 obtain ⟨rfl,rfl,rfl,rfl⟩:hp=boot_heap w.params∧gs=Array.mk []∧d=boot_drawn∧k=boot_toks:=by simpa using e'
 unfold openEnds
 rw [e]
 exact h w os
set_option maxHeartbeats 0 in
theorem left:LeftO lw.prog vw [] Xt (Hook.obs HH) (Hook.val HH) 6746:=by
 refine sC (boot_open rfl rfl fun s=>rfl) fun w os=>?_
 unfold topFrom
 rewrite [Fast.te14082659384304107361,Fast.te4187177175401517315]
 kernel_rfl
end Toy
namespace Z
open PySem
inductive D where
 | non
 | bl (b:Bool)
 | int (i:Int)
 | str (x:Str)
 | lst (xs:List D)
 | tup (xs:List D)
 | obj (c:Str) (fs:List (Str × D))
 | exc (c:Str)
 | dct (kvs:List (Int × D))
 /-- a list that is read alone: the script,a list of the module -/
 | frz (xs:List D)
noncomputable def dD (kvs:List (Int × D)) (k:Int):Option D:=(kvs.find? fun kv=>decide (kv.1=k)).map (·.2)
noncomputable def lG (kvs:List (Int × D)) (k:Int) (d:D):List (Int × D):=if kvs.any (fun kv=>decide (kv.1=k)) then kvs.map (fun kv=>if kv.1=k then (kv.1,d) else kv) else kvs++[(k,d)]
inductive Lit where
 | non|bl (b:Bool)|int (i:Int)|str (x:Str)
noncomputable def Lit.d:Lit→D
 | .non=>.non
 | .bl b=>.bl b
 | .int i=>.int i
 | .str x=>.str x
inductive Rs where
 | ok (d:D)
 | er (c:Str)
mutual
/-- Python's == on plain trees -/
noncomputable def deq:D→D→Bool
 | .non,.non=>true
 | .bl a,.bl b=>a == b
 | .bl a,.int b=>(if a then 1 else 0) == b
 | .int a,.bl b=>a == (if b then 1 else 0)
 | .int a,.int b=>a == b
 | .str a,.str b=>a == b
 | .lst a,.lst b=>iT a b
 | .tup a,.tup b=>iT a b
 | _,_=>false
noncomputable def iT:List D→List D→Bool
 | [],[]=>true
 | x::xs,y::ys=>deq x y&&iT xs ys
 | _,_=>false
end
def okS (x:Str):Bool:=x.cps.all (· < 0x110000)
noncomputable def flat:Nat→D→Bool
 | _,.non=>true
 | _,.bl _=>true
 | _,.int _=>true
 | _,.str x=>okS x
 | n+1,.lst xs=>xs.all (flat n)
 | n+1,.tup xs=>xs.all (flat n)
 | _,_=>false
def plain (d:D):Bool:=flat 8 d
noncomputable def tru:D→Option Bool
 | .non=>some false
 | .bl b=>some b
 | .int i=>some (i != 0)
 | .lst xs=>some (!xs.isEmpty)
 | .tup xs=>some (!xs.isEmpty)
 | .frz xs=>some (!xs.isEmpty)
 | _=>none
inductive O2 where
 | add|sub|mul|fdiv|mod|pow|eq|ne|lt|le|gt|ge|isin|notin|is|isnot
def big:Nat:=1000000
noncomputable def ixN (n:Nat) (i:Int):Option Nat:=if 0≤i then (if i<n then some i.toNat else none) else if -(n:Int)≤i then some (i+n).toNat else none
noncomputable def atI {α:Type} (xs:List α) (i:Int):Option α:=(ixN xs.length i).bind fun j=>xs[j]?
noncomputable def sIx (n d:Nat):Option Int→Nat
 | none=>d
 | some v=>if v<0 then (v+(n:Int)).toNat else min v.toNat n
noncomputable def cut {α:Type} (xs:List α) (lo hi:Option Int):List α:=(xs.drop (sIx xs.length 0 lo)).take (sIx xs.length xs.length hi-sIx xs.length 0 lo)
noncomputable def isD:D→D→Option Bool
 | .non,.non=>some true
 | .bl _,.non=>some false
 | .int _,.non=>some false
 | .str _,.non=>some false
 | .lst _,.non=>some false
 | .tup _,.non=>some false
 | .obj _ _,.non=>some false
 | .bl a,.bl b=>some (a == b)
 | _,_=>none
noncomputable def QK:D→D→Option D
 | .int i,.int j=>some (.int (i+j))
 | .str x,.str y=>if x.length+y.length≤big then some (.str (x++y)) else none
 | .lst xs,.lst ys=>if xs.length+ys.length≤big then some (.lst (xs++ys)) else none
 | .tup xs,.tup ys=>if xs.length+ys.length≤big then some (.tup (xs++ys)) else none
 | _,_=>none
noncomputable def aFv:D→D→Option D
 | .int i,.int j=>some (.int (i-j))
 | _,_=>none
noncomputable def aFw:D→D→Option D
 | .int i,.int j=>if (-(2 ^ 64)<i∧i<2 ^ 64)∨(-(2 ^ 64)<j∧j<2 ^ 64) then some (.int (i*j)) else none
 | _,_=>none
noncomputable def oDiv:D→D→Option D
 | .int i,.int j=>if 0<j∧j<1073741824 then some (.int (i / j)) else none
 | _,_=>none
noncomputable def oMod:D→D→Option D
 | .int i,.int j=>if 0<j then some (.int (i % j)) else none
 | _,_=>none
noncomputable def ZS:D→D→Option D
 | .int i,.int j=>if 0≤j∧j≤1000∧i.natAbs<2 ^ 64 then some (.int (i ^ j.toNat)) else none
 | _,_=>none
noncomputable def oEq (a b:D):Option D:=if plain a&&plain b then some (.bl (deq a b)) else none
noncomputable def oNe (a b:D):Option D:=if plain a&&plain b then some (.bl (!deq a b)) else none
noncomputable def oLt:D→D→Option D
 | .int i,.int j=>some (.bl (decide (i<j)))
 | _,_=>none
noncomputable def oLe:D→D→Option D
 | .int i,.int j=>some (.bl (decide (i≤j)))
 | _,_=>none
noncomputable def oGt:D→D→Option D
 | .int i,.int j=>some (.bl (decide (j<i)))
 | _,_=>none
noncomputable def oGe:D→D→Option D
 | .int i,.int j=>some (.bl (decide (j≤i)))
 | _,_=>none
noncomputable def oIn (a:D):D→Option D
 | .lst ys=>if plain a&&ys.all plain then some (.bl (ys.any fun y=>deq y a)) else none
 | .tup ys=>if plain a&&ys.all plain then some (.bl (ys.any fun y=>deq y a)) else none
 | _=>none
noncomputable def ID (a:D):D→Option D
 | .lst ys=>if plain a&&ys.all plain then some (.bl (!ys.any fun y=>deq y a)) else none
 | .tup ys=>if plain a&&ys.all plain then some (.bl (!ys.any fun y=>deq y a)) else none
 | _=>none
noncomputable def oIs (a b:D):Option D:=(isD a b).map .bl
noncomputable def IF (a b:D):Option D:=(isD a b).map fun k=>.bl (!k)
noncomputable def op2 (o:O2) (a b:D):Option D:=match o with
 | .add=>QK a b
 | .sub=>aFv a b
 | .mul=>aFw a b
 | .fdiv=>oDiv a b
 | .mod=>oMod a b
 | .pow=>ZS a b
 | .eq=>oEq a b
 | .ne=>oNe a b
 | .lt=>oLt a b
 | .le=>oLe a b
 | .gt=>oGt a b
 | .ge=>oGe a b
 | .isin=>oIn a b
 | .notin=>ID a b
 | .is=>oIs a b
 | .isnot=>IF a b
inductive BF where
 | len|int|list|tuple|max|min|str|sorted|any
noncomputable def iA:List D→Option (List Int)
 | []=>some []
 | .int i::r=>(iA r).map (i :: ·)
 | _::_=>none
noncomputable def jL:Int→List Int→Int
 | m,[]=>m
 | m,x::r=>jL (if x > m then x else m) r
noncomputable def mM:Int→List Int→Int
 | m,[]=>m
 | m,x::r=>mM (if x<m then x else m) r
noncomputable def RN:List D→Option D
 | [.lst xs]=>some (.int xs.length)
 | [.tup xs]=>some (.int xs.length)
 | [.frz xs]=>some (.int xs.length)
 | [.str x]=>if x.length≤big then some (.int x.length) else none
 | _=>none
noncomputable def RO:List D→Option D
 | [.int i]=>some (.int i)
 | [.bl b]=>some (.int (if b then 1 else 0))
 | _=>none
noncomputable def wB:List D→Option D
 | [.lst xs]=>some (.lst xs)
 | [.tup xs]=>some (.lst xs)
 | [.frz xs]=>some (.lst xs)
 | _=>none
noncomputable def tS:List D→Option D
 | [.lst xs]=>some (.tup xs)
 | [.tup xs]=>some (.tup xs)
 | _=>none
noncomputable def zC:List D→Option D
 | [.int i,.int j]=>some (.int (if j > i then j else i))
 | [.lst xs]=>match iA xs with|some (i::r)=>some (.int (jL i r))|_=>none
 | _=>none
noncomputable def JY:List D→Option D
 | [.int i,.int j]=>some (.int (if j<i then j else i))
 | [.lst xs]=>match iA xs with|some (i::r)=>some (.int (mM i r))|_=>none
 | _=>none
noncomputable def jU:List D→Option (List (Int × Int))
 | []=>some []
 | .tup [.int a,.int b]::r=>(jU r).map ((a,b) :: ·)
 | _::_=>none
noncomputable def eX (p:Int × Int):D:=.tup [.int p.1,.int p.2]
def pLt (x y:Int × Int):Bool:=decide (x.1<y.1) || (x.1 == y.1&&decide (x.2<y.2))
noncomputable def yS (x:Int × Int):List (Int × Int)→List (Int × Int)
 | []=>[x]
 | y::r=>if pLt x y then x::y::r else y::yS x r
noncomputable def jN:List (Int × Int)→List (Int × Int)
 | []=>[]
 | x::r=>yS x (jN r)
def jJ (ps:List (Int × Int)):Bool:=decide (ps.length<64)&&decide ps.Nodup
noncomputable def kG (ds:List D):Option (List D):=match jU ds with
 | some ps=>if jJ ps then some ((jN ps).map eX) else none
 | none=>match iA ds with
  | some is=>if jJ (is.map fun i=>(i,0)) then some ((jN (is.map fun i=>(i,0))).map fun p=>.int p.1) else none
  | none=>none
noncomputable def hU:List D→Option D
 | [.lst xs]=>(kG xs).map .lst
 | _=>none
noncomputable def bf (b:BF) (ds:List D):Option D:=match b with
 | .sorted=>hU ds
 | .len=>RN ds
 | .int=>RO ds
 | .list=>wB ds
 | .tuple=>tS ds
 | .max=>zC ds
 | .min=>JY ds
 | _=>none
inductive Src where
 | seq|rng|rev|enum|rvr
noncomputable def dI (lo hi:Int):List D:=(List.range (hi-lo).toNat).map fun (k:Nat)=>D.int (lo+k)
noncomputable def VQ:Nat→List D→List D
 | _,[]=>[]
 | k,x::r=>.tup [.int k,x]::VQ (k+1) r
def fW (i:Int):Bool:=decide (-(2 ^ 62)≤i)&&decide (i<2 ^ 62)
noncomputable def VJ:D→Option (List D)
 | .lst xs=>some xs
 | .tup xs=>some xs
 | .frz xs=>some xs
 | _=>none
noncomputable def JG:List D→Option (List D)
 | [.int j]=>if fW j&&decide (j.toNat≤big) then some (dI 0 j) else none
 | [.int i,.int j]=>if fW i&&fW j&&decide ((j-i).toNat≤big) then some (dI i j) else none
 | _=>none
noncomputable def aGa:List D→Option (List D)
 | [.int j]=>if decide (0≤j)&&decide (j.toNat≤big) then some (dI 0 j).reverse else none
 | _=>none
noncomputable def vT:D→Option (List D)
 | .lst xs=>some xs.reverse
 | _=>none
noncomputable def aAp:D→Option (List D)
 | .lst xs=>some (VQ 0 xs)
 | _=>none
noncomputable def items (k:Src) (d:D):Option (List D):=match k with
 | .seq=>VJ d
 | .rng=>match d with
  | .tup as=>JG as
  | _=>none
 | .rev=>vT d
 | .enum=>aAp d
 | .rvr=>match d with
  | .tup as=>aGa as
  | _=>none
set_option genSizeOf false
set_option genInjectivity false
inductive IE where
 | var (i:Nat)
 | lit (l:Lit)
 | glo (x:Str)
 | bin (o:O2) (a b:IE)
 | neg (a:IE)
 | and (a b:IE)
 | or (a b:IE)
 | not (a:IE)
 | tr (a:IE)
 | ite (c a b:IE)
 | chain (o o':O2) (a b c:IE)
 | nil
 | cons (e es:IE)
 | tup (es:IE)
 | lst (es:IE)
 | ix (a i:IE)
 | ixm (x:Nat) (i:IE)
 | lenm (x:Nat)
 | sortm (x:Nat)
 | sl (a:IE) (bl:Bool) (lo:IE) (bh:Bool) (hi:IE)
 | slm (x:Nat) (bl:Bool) (lo:IE) (bh:Bool) (hi:IE)
 | fld (a:IE) (f:Str)
 | call (f:Str) (es:IE)
 | meth (o:IE) (m:Str) (es:IE)
 | mk (c:Str) (es:IE)
 | bcall (b:BF) (es:IE)
 | isi (a:IE) (t:Str)
 | walk (k:Src) (a:IE)
 | comp (n:Nat) (fr:List (Nat × Nat)) (tg:List Nat) (tp:Bool) (k:Src) (src test elt:IE)
set_option genInjectivity true
inductive Sl where
 | un
 | im (d:D)
 | mu (d:D)
structure GS where
 fn:Str→List D→Option Rs
 ff:Str→Bool
 me:Str→Str→List D→Option Rs
 mf:Str→Str→Bool
 mo:Str→List D→Option Rs
 cst:Str→Option D
 sub:Str→Str→Bool
 fl:Str→List Str
 /-- the classes of errors that are known; the word that a def tells of an error -/
 xn:Str→Bool
 wd:Str→Str→Option Str
noncomputable def iP (G:GS) (t:Str):D→Option Bool
 | .non=>if t = "int"∨t = "bool"∨t = "str"∨t = "list"∨t = "tuple" then some false else none
 | .bl _=>if t = "int"∨t = "bool" then some true else if t = "str"∨t = "list"∨t = "tuple" then some false else none
 | .int _=>if t = "int" then some true else if t = "bool"∨t = "str"∨t = "list"∨t = "tuple" then some false else none
 | .str _=>if t = "str" then some true else if t = "int"∨t = "bool"∨t = "list"∨t = "tuple" then some false else none
 | .lst _=>if t = "list" then some true else if t = "int"∨t = "bool"∨t = "str"∨t = "tuple" then some false else none
 | .tup _=>if t = "tuple" then some true else if t = "int"∨t = "bool"∨t = "str"∨t = "list" then some false else none
 | _=>none
noncomputable def slot (ρ:List Sl) (i:Nat):Option D:=match ρ[i]? with
 | some (.im d)=>some d
 | _=>none
noncomputable def eT (ρ:List Sl) (i:Nat):Option (List D):=match ρ[i]? with
 | some (.im (.lst ds))=>some ds
 | some (.mu (.lst ds))=>some ds
 | _=>none
noncomputable def gX:Option Rs→Option D
 | some (.ok d)=>some d
 | _=>none
noncomputable def bH:Option D→Option (List D)
 | some (.tup ds)=>some ds
 | _=>none
noncomputable def boolOf:Option D→Option Bool
 | some (.bl b)=>some b
 | _=>none
noncomputable def intOf:Option D→Option Int
 | some (.int b)=>some b
 | _=>none
noncomputable def frame (n:Nat) (fr:List (Nat × Nat)) (ρ:List Sl):List Sl:=(List.range n).map fun i=>match fr.lookup i with
 | some j=>ρ.getD j .un
 | none=>.un
noncomputable def bL:List Nat→List D→List Sl→Option (List Sl)
 | [],[],ρ=>some ρ
 | i::is,d::ds,ρ=>bL is ds (ρ.set i (.im d))
 | _,_,_=>none
noncomputable def bE (tg:List Nat) (tp:Bool) (d:D) (ρ:List Sl):Option (List Sl):=
 if tp then (match d with | .tup ds=>bL tg ds ρ|_=>none) else bL tg [d] ρ
noncomputable def bP (f:D→Option (Option D)):List D→Option (List D)
 | []=>some []
 | d::r=>do
  let o ← f d
  let t ← bP f r
  match o with
  | some y=>some (y::t)
  | none=>some t
noncomputable def part (b:Bool) (o:Option D):Option (Option Int):=if b then (intOf o).map some else some none
noncomputable def ev (G:GS):IE→List Sl→Option D
 | .var i,ρ=>slot ρ i
 | .lit l,_=>some l.d
 | .glo x,_=>G.cst x
 | .bin o a b,ρ=>do op2 o (← ev G a ρ) (← ev G b ρ)
 | .neg a,ρ=>do match ← ev G a ρ with | .int i=>some (.int (-i))|_=>none
 | .and a b,ρ=>do match ← ev G a ρ with | .bl true=>(match ← ev G b ρ with | .bl k=>some (.bl k)|_=>none) | .bl false=>some (.bl false)|_=>none
 | .or a b,ρ=>do match ← ev G a ρ with | .bl false=>(match ← ev G b ρ with | .bl k=>some (.bl k)|_=>none) | .bl true=>some (.bl true)|_=>none
 | .not a,ρ=>do match ← ev G a ρ with | .bl k=>some (.bl (!k))|_=>none
 | .tr a,ρ=>do (tru (← ev G a ρ)).map .bl
 | .ite c a b,ρ=>do match ← ev G c ρ with | .bl true=>ev G a ρ | .bl false=>ev G b ρ|_=>none
 | .chain o o' a b c,ρ=>do
  let y ← ev G b ρ
  match ← op2 o (← ev G a ρ) y with
  | .bl true=>op2 o' y (← ev G c ρ)
  | .bl false=>some (.bl false)
  | _=>none
 | .nil,_=>some (.tup [])
 | .cons e es,ρ=>do
  let d ← ev G e ρ
  match ← ev G es ρ with
  | .tup ds=>some (.tup (d::ds))
  | _=>none
 | .tup es,ρ=>(bH (ev G es ρ)).map .tup
 | .lst es,ρ=>(bH (ev G es ρ)).map .lst
 | .ix a i,ρ=>do
  match ← ev G a ρ,← ev G i ρ with
  | .lst xs,.int k=>atI xs k
  | .tup xs,.int k=>atI xs k
  | .frz xs,.int k=>atI xs k
  | .dct kvs,.int k=>dD kvs k
  | _,_=>none
 | .ixm x i,ρ=>do atI (← eT ρ x) (← intOf (ev G i ρ))
 | .lenm x,ρ=>do some (.int (← eT ρ x).length)
 | .sortm x,ρ=>do hU [.lst (← eT ρ x)]
 | .sl a bl lo bh hi,ρ=>do
  let d ← ev G a ρ
  let l ← part bl (ev G lo ρ)
  let h ← part bh (ev G hi ρ)
  match d with
  | .lst xs=>some (.lst (cut xs l h))
  | .frz xs=>some (.lst (cut xs l h))
  | .tup xs=>if sIx xs.length 0 l=0∧sIx xs.length xs.length h=xs.length then none else some (.tup (cut xs l h))
  | _=>none
 | .slm x bl lo bh hi,ρ=>do
  let xs ← eT ρ x
  let l ← part bl (ev G lo ρ)
  let h ← part bh (ev G hi ρ)
  some (.lst (cut xs l h))
 | .fld a f,ρ=>do match ← ev G a ρ with | .obj c fs=>if (G.fl c).contains f then fs.lookup f else none|_=>none
 | .call f es,ρ=>do gX (G.fn f (← bH (ev G es ρ)))
 | .meth o m es,ρ=>do match ← ev G o ρ with | .obj c fs=>(if (fs.lookup m).isNone then (bH (ev G es ρ)).bind fun as=>gX (G.me c m (.obj c fs::as)) else none)|_=>none
 | .mk c es,ρ=>do gX (G.mo c (← bH (ev G es ρ)))
 | .bcall b es,ρ=>do bf b (← bH (ev G es ρ))
 | .isi a t,ρ=>do (iP G t (← ev G a ρ)).map .bl
 | .walk k a,ρ=>do (items k (← ev G a ρ)).map .lst
 | .comp n fr tg tp k src test elt,ρ=>do
  let ds ← items k (← ev G src ρ)
  (bP (fun d=>do
   let ρ1 ← bE tg tp d (frame n fr ρ)
   match ← ev G test ρ1 with
   | .bl true=>(ev G elt ρ1).map some
   | .bl false=>some none
   | _=>none) ds).map .lst
noncomputable def evR (G:GS):IE→List Sl→Option Rs
 | .call f es,ρ=>(bH (ev G es ρ)).bind (G.fn f)
 | .meth o m es,ρ=>match ev G o ρ with
  | some (.obj c fs)=>if (fs.lookup m).isNone then (bH (ev G es ρ)).bind fun as=>G.me c m (.obj c fs::as) else none
  | _=>none
 | _,_=>none
inductive HR where
 | lit (l:Lit)
 | word (f:Str)
 | weq (f:Str) (x:Str)
noncomputable def hrD (G:GS) (c:Str):HR→Option D
 | .lit l=>some l.d
 | .word f=>(G.wd f c).map .str
 | .weq f x=>(G.wd f c).map fun y=>.bl (y == x)
set_option genInjectivity false
inductive IS where
 | nop
 | seq (a b:IS)
 | ret (fr:Bool) (e:IE)
 | retm (x:Nat)
 | retn
 | set (x:Nat) (e:IE)
 | setm (x:Nat) (e:IE)
 | setd (x:Nat)
 | sett (tg:List Nat) (e:IE)
 | par (x y:Nat) (a b:IE)
 | iff (c:IE) (a b:IS)
 | loop (tg:List Nat) (tp:Bool) (k:Src) (src:IE) (body:IS)
 | whl (c:IE) (body:IS)
 | app (x:Nat) (e:IE)
 | put (x:Nat) (k e:IE)
 | drop (e:IE)
 | frz (xs:List Nat) (st:IS)
 | rse (c:Str)
 | tryx (ce:IE) (hc:Str) (hb:Option Nat) (r:HR)
set_option genInjectivity true
inductive Out where
 | nx (ρ:List Sl)
 | rt (d:D)
 | bk (ρ:List Sl)
 | ct (ρ:List Sl)
 | er (c:Str)
noncomputable def eB (bind:D→List Sl→Option (List Sl)) (body:List Sl→Option Out):List D→List Sl→Option Out
 | [],ρ=>some (.nx ρ)
 | d::r,ρ=>do
  let ρ1 ← bind d ρ
  match ← body ρ1 with
  | .nx ρ2=>eB bind body r ρ2
  | .ct ρ2=>eB bind body r ρ2
  | .bk ρ2=>some (.nx ρ2)
  | o=>some o
noncomputable def rE (test:List Sl→Option D) (body:List Sl→Option Out):Nat→List Sl→Option Out
 | 0,_=>none
 | n+1,ρ=>do
  match ← test ρ with
  | .bl true=>(match ← body ρ with
   | .nx ρ2=>rE test body n ρ2
   | .ct ρ2=>rE test body n ρ2
   | .bk ρ2=>some (.nx ρ2)
   | o=>some o)
  | .bl false=>some (.nx ρ)
  | _=>none
noncomputable def RC (i:Nat) (ρ:List Sl):List Sl:=match ρ[i]? with
 | some (.mu d)=>ρ.set i (.im d)
 | _=>ρ
noncomputable def freeze:List Nat→List Sl→List Sl
 | [],ρ=>ρ
 | i::r,ρ=>freeze r (RC i ρ)
noncomputable def cF:Sl→Sl
 | .mu d=>.im d
 | s=>s
noncomputable def view (ρ:List Sl):List Sl:=ρ.map cF
noncomputable def xM:D→Bool
 | .non=>true
 | .bl _=>true
 | .int _=>true
 | .str _=>true
 | _=>false
noncomputable def evs (G:GS) (e:IE) (ρ:List Sl):Option D:=match ev G e ρ with
 | some d=>some d
 | none=>match ev G e (view ρ) with
  | some d=>if xM d then some d else none
  | none=>none
noncomputable def aIF (o:D) (i:Int) (d:D):Option D:=match o with
 | .lst ds=>(ixN ds.length i).map fun j=>.lst (ds.set j d)
 | .dct kvs=>if kvs.length<big then some (.dct (lG kvs i d)) else none
 | _=>none
noncomputable def ex (G:GS):IS→List Sl→Option Out
 | .nop,ρ=>some (.nx ρ)
 | .seq a b,ρ=>do
  match ← ex G a ρ with
  | .nx ρ'=>ex G b ρ'
  | o=>some o
 | .ret _ e,ρ=>(evs G e ρ).map .rt
 | .retm x,ρ=>match ρ[x]? with|some (.mu d)=>some (.rt d)|_=>none
 | .retn,_=>some (.rt .non)
 | .set x e,ρ=>(evs G e ρ).map fun d=>.nx (ρ.set x (.im d))
 | .setm x e,ρ=>do match ← ev G e ρ with | .lst ds=>some (.nx (ρ.set x (.mu (.lst ds))))|_=>none
 | .setd x,ρ=>some (.nx (ρ.set x (.mu (.dct []))))
 | .sett tg e,ρ=>do (bE tg true (← ev G e ρ) ρ).map .nx
 | .par x y a b,ρ=>do
  let u ← ev G a ρ
  let v ← ev G b ρ
  some (.nx ((ρ.set x (.im u)).set y (.im v)))
 | .iff c a b,ρ=>do match ← ev G c (view ρ) with | .bl true=>ex G a ρ | .bl false=>ex G b ρ|_=>none
 | .loop tg tp k src body,ρ=>do eB (bE tg tp) (ex G body) (← items k (← ev G src ρ)) ρ
 | .whl c body,ρ=>rE (fun ρ=>ev G c (view ρ)) (ex G body) 5000 ρ
 | .app x e,ρ=>do
  let d ← evs G e ρ
  match ρ[x]? with
  | some (.mu (.lst ds))=>if ds.length<big then some (.nx (ρ.set x (.mu (.lst (ds++[d]))))) else none
  | _=>none
 | .put x k e,ρ=>do
  let d ← evs G e ρ
  let i ← intOf (evs G k ρ)
  match ρ[x]? with
  | some (.mu o)=>(aIF o i d).map fun o=>.nx (ρ.set x (.mu o))
  | _=>none
 | .drop e,ρ=>match ev G e (view ρ) with
  | some _=>some (.nx ρ)
  | none=>match evR G e (view ρ) with
   | some (.er k)=>if G.xn k then some (.er k) else none
   | _=>none
 | .frz xs st,ρ=>ex G st (freeze xs ρ)
 | .rse c,_=>if G.xn c then some (.er c) else none
 | .tryx ce hc _ r,ρ=>match evR G ce (view ρ) with
  | some (.ok _)=>some (.nx ρ)
  | some (.er k)=>if G.xn k&&G.xn hc&&G.sub k hc then (hrD G k r).map .rt else none
  | none=>none
noncomputable def iD:IS→Bool
 | .seq a b=>iD a&&iD b
 | .ret fr _=>fr
 | .iff _ a b=>iD a&&iD b
 | .loop _ _ _ _ b=>iD b
 | .whl _ b=>iD b
 | .frz _ b=>iD b
 | .tryx _ _ _ _=>true
 | _=>true
noncomputable def aN (G:GS) (n:Nat) (b:IS) (args:List D):Option Rs:=
 match ex G b (args.map .im++List.replicate (n-args.length) .un) with
 | some (.rt d)=>some (.ok d)
 | some (.nx _)=>some (.ok .non)
 | some (.er c)=>some (.er c)
 | _=>none
end Z
namespace Z
open PySem
section
variable {G:GS}{ρ:List Sl}{a b e es src test elt:IE}{i j:Int}
theorem eI {k:Nat}:ev G (.var k) ρ=slot ρ k:=id rfl
theorem aAH {l:Lit}:ev G (.lit l) ρ=some l.d:=id rfl
theorem aAK {x:Str}:ev G (.glo x) ρ=G.cst x:=id rfl
theorem bG {o:O2}:ev G (.bin o a b) ρ=(ev G a ρ).bind fun x=>(ev G b ρ).bind fun y=>op2 o x y:=id rfl
theorem aAG:ev G (.neg a) ρ=(ev G a ρ).bind fun x=>match x with | .int i=>some (.int (-i))|_=>none:=id rfl
theorem KG:ev G (.and a b) ρ=(ev G a ρ).bind fun x=>match x with | .bl true=>((ev G b ρ).bind fun y=>match y with | .bl k=>some (.bl k)|_=>none) | .bl false=>some (.bl false)|_=>none:=id rfl
theorem VO:ev G (.or a b) ρ=(ev G a ρ).bind fun x=>match x with | .bl false=>((ev G b ρ).bind fun y=>match y with | .bl k=>some (.bl k)|_=>none) | .bl true=>some (.bl true)|_=>none:=id rfl
theorem tT:ev G (.not a) ρ=(ev G a ρ).bind fun x=>match x with | .bl k=>some (.bl (!k))|_=>none:=id rfl
theorem qI:ev G (.tr a) ρ=(ev G a ρ).bind fun x=>(tru x).map .bl:=id rfl
theorem jY {c:IE}:ev G (.ite c a b) ρ=(ev G c ρ).bind fun x=>match x with | .bl true=>ev G a ρ | .bl false=>ev G b ρ|_=>none:=id rfl
theorem wH {o o':O2} {c:IE}:ev G (.chain o o' a b c) ρ=(ev G b ρ).bind fun y=>(ev G a ρ).bind fun x=>(op2 o x y).bind fun w=>match w with | .bl true=>(ev G c ρ).bind fun z=>op2 o' y z | .bl false=>some (.bl false)|_=>none:=id rfl
theorem aAF:ev G .nil ρ=some (.tup []):=id rfl
theorem aI:ev G (.cons e es) ρ=(ev G e ρ).bind fun d=>(ev G es ρ).bind fun t=>match t with | .tup ds=>some (.tup (d::ds))|_=>none:=id rfl
theorem zG:ev G (.tup es) ρ=(bH (ev G es ρ)).map .tup:=id rfl
theorem zH:ev G (.lst es) ρ=(bH (ev G es ρ)).map .lst:=id rfl
theorem fB:ev G (.ix a b) ρ=(ev G a ρ).bind fun x=>(ev G b ρ).bind fun y=>(match x,y with
  | .lst xs,.int k=>atI xs k
  | .tup xs,.int k=>atI xs k
  | .frz xs,.int k=>atI xs k
  | .dct kvs,.int k=>dD kvs k
  | _,_=>none):=id rfl
theorem iS {f:Str}:ev G (.fld a f) ρ=(ev G a ρ).bind fun x=>match x with | .obj c fs=>if (G.fl c).contains f then fs.lookup f else none|_=>none:=id rfl
theorem cK {f:Str}:ev G (.call f es) ρ=(bH (ev G es ρ)).bind fun as=>gX (G.fn f as):=id rfl
theorem CG {m:Str}:ev G (.meth a m es) ρ=(ev G a ρ).bind fun x=>match x with | .obj c fs=>(if (fs.lookup m).isNone then (bH (ev G es ρ)).bind fun as=>gX (G.me c m (.obj c fs::as)) else none)|_=>none:=id rfl
theorem KD {c:Str}:ev G (.mk c es) ρ=(bH (ev G es ρ)).bind fun as=>gX (G.mo c as):=id rfl
theorem gS {f:BF}:ev G (.bcall f es) ρ=(bH (ev G es ρ)).bind fun as=>bf f as:=id rfl
theorem aAJ {t:Str}:ev G (.isi a t) ρ=(ev G a ρ).bind fun x=>(iP G t x).map .bl:=id rfl
theorem RV {k:Src}:ev G (.walk k a) ρ=(ev G a ρ).bind fun x=>(items k x).map .lst:=id rfl
theorem aAI {x:Nat}:ev G (.ixm x b) ρ=(eT ρ x).bind fun xs=>(intOf (ev G b ρ)).bind fun k=>atI xs k:=id rfl
theorem RW {x:Nat}:ev G (.lenm x) ρ=(eT ρ x).bind fun xs=>some (.int xs.length):=id rfl
theorem KC {x:Nat}:ev G (.sortm x) ρ=(eT ρ x).bind fun xs=>hU [.lst xs]:=id rfl
theorem wF {bl bh:Bool} {lo hi:IE}:ev G (.sl a bl lo bh hi) ρ=(ev G a ρ).bind fun d=>(part bl (ev G lo ρ)).bind fun l=>(part bh (ev G hi ρ)).bind fun h=>(match d with
  | .lst xs=>some (.lst (cut xs l h))
  | .frz xs=>some (.lst (cut xs l h))
  | .tup xs=>if sIx xs.length 0 l=0∧sIx xs.length xs.length h=xs.length then none else some (.tup (cut xs l h))
  | _=>none):=id rfl
theorem tU {n:Nat} {fr:List (Nat × Nat)} {tg:List Nat} {tp:Bool} {k:Src}:ev G (.comp n fr tg tp k src test elt) ρ=(ev G src ρ).bind fun s=>(items k s).bind fun ds =>
  (bP (fun d=>(bE tg tp d (frame n fr ρ)).bind fun ρ1=>(ev G test ρ1).bind fun w=>match w with
   | .bl true=>(ev G elt ρ1).map some
   | .bl false=>some none
   | _=>none) ds).map .lst:=id rfl
theorem FX {ds:List D}:bH (some (.tup ds))=some ds:=id rfl
theorem QI {d:D}:gX (some (.ok d))=some d:=id rfl
theorem aDX:op2 .add (.int i) (.int j)=some (.int (i+j)):=id rfl
theorem aDV:op2 .sub (.int i) (.int j)=some (.int (i-j)):=id rfl
theorem vI (h0:-1000000≤i) (h1:i≤1000000):op2 .mul (.int i) (.int j)=some (.int (i*j)):=if_pos (.inl ⟨by omega,by omega⟩)
theorem jO (h0:0<j) (h1:j<1000000):op2 .fdiv (.int i) (.int j)=some (.int (i / j)):=if_pos ⟨h0,by omega⟩
theorem gK (h0:0<j):op2 .mod (.int i) (.int j)=some (.int (i % j)):=if_pos h0
theorem aII:op2 .lt (.int i) (.int j)=some (.bl (decide (i<j))):=id rfl
theorem aIJ:op2 .le (.int i) (.int j)=some (.bl (decide (i≤j))):=id rfl
theorem aIK:op2 .gt (.int i) (.int j)=some (.bl (decide (j<i))):=id rfl
theorem aIL:op2 .ge (.int i) (.int j)=some (.bl (decide (j≤i))):=id rfl
theorem aIM:op2 .eq (.int i) (.int j)=some (.bl (i == j)):=id rfl
theorem aIH:op2 .ne (.int i) (.int j)=some (.bl (!(i == j))):=id rfl
theorem aDW {x y:Bool}:op2 .is (.bl x) (.bl y)=some (.bl (x == y)):=id rfl
theorem ZR {x y:Bool}:op2 .isnot (.bl x) (.bl y)=some (.bl (!(x == y))):=id rfl
theorem GM (h0:-1000000≤j) (h1:j≤1000000):fW j=true:=by
 unfold fW
 rw [Bool.and_eq_true,decide_eq_true_eq,decide_eq_true_eq]
 omega
theorem yP {n:Nat} (h:n≤1000000):items .rng (.tup [.int (n:Int)])=some (dI 0 (n:Int)):=by
 have h1:(fW (n:Int)&&decide ((n:Int).toNat≤big))=true:=by
  rw [GM (by omega) (by omega),Bool.true_and,decide_eq_true_eq]
  unfold big; omega
 simp only [items,JG]
 rw [if_pos h1]
theorem slot0 {d:D} {r:List Sl}:slot (.im d::r) 0=some d:=id rfl
theorem aCp {x:Sl} {r:List Sl} {k:Nat}:slot (x::r) (k+1)=slot r k:=id rfl
end
section
variable {G:GS}{ρ:List Sl}{a b:IS}{e c:IE}
theorem aU:ex G .nop ρ=some (.nx ρ):=id rfl
theorem JZ:ex G (.seq a b) ρ=(ex G a ρ).bind fun o=>match o with | .nx ρ'=>ex G b ρ'|o=>some o:=id rfl
theorem KA:ex G (.iff c a b) ρ=(ev G c (view ρ)).bind fun x=>match x with | .bl true=>ex G a ρ | .bl false=>ex G b ρ|_=>none:=id rfl
theorem jX {d:D} (h:ev G e ρ=some d):evs G e ρ=some d:=by unfold evs; rw [h]
theorem aR {d:D} {f:Bool} (h:ev G e ρ=some d):ex G (.ret f e) ρ=some (.rt d):=by show (evs G e ρ).map Out.rt=_; rw [jX h]; rfl
theorem aH {d:D} {x:Nat} (h:ev G e ρ=some d):ex G (.set x e) ρ=some (.nx (ρ.set x (.im d))):=by show (evs G e ρ).map _=_; rw [jX h]; rfl
theorem kS {ds:List D} {x:Nat} (h:ev G e ρ=some (.lst ds)):ex G (.setm x e) ρ=some (.nx (ρ.set x (.mu (.lst ds)))):=by show (ev G e ρ).bind _=_; rw [h]; rfl
theorem cP {tg:List Nat} {tp:Bool} {k:Src} {d:D} {ds:List D} (h1:ev G e ρ=some d) (h2:items k d=some ds):ex G (.loop tg tp k e a) ρ=eB (bE tg tp) (ex G a) ds ρ:=by show (ev G e ρ).bind _=_; rw [h1]; show ((items k d).bind _)=_; rw [h2]; rfl
end
theorem oS {f:D→Option (Option D)} {h:D→D}:∀ {ds:List D},(∀ d ∈ ds,f d=some (some (h d)))→bP f ds=some (ds.map h)
 | [],_=>rfl
 | d::r,e=>by
  unfold bP
  rw [e d (List.mem_cons_self),oS fun x hx=>e x (List.mem_cons_of_mem _ hx)]
  rfl
theorem nW {lo hi:Int} {d:D} (h:d ∈ dI lo hi):∃ i:Int,d=.int i∧lo≤i∧i<hi:=by
 unfold dI at h
 simp only [List.mem_map,List.mem_range] at h
 obtain ⟨k,hk,rfl⟩:=h
 exact ⟨_,rfl,by omega,by omega⟩
theorem jT {n:Nat}:dI 0 (n:Int)=(List.range n).map fun (k:Nat)=>D.int k:=by
 unfold dI
 simp
theorem dC {bind:D→List Sl→Option (List Sl)} {body:List Sl→Option Out} (P:Nat→List Sl→Prop):∀ {ds:List D} {k:Nat} {ρ:List Sl},P k ρ →
  (∀ (i:Nat) (d:D) (ρ:List Sl),ds[i]?=some d→P (k+i) ρ→∃ ρ1,bind d ρ=some ρ1∧∃ ρ2,body ρ1=some (.nx ρ2)∧P (k+i+1) ρ2)→∃ ρ',eB bind body ds ρ=some (.nx ρ')∧P (k+ds.length) ρ'
 | [],k,ρ,h,_=>⟨ρ,rfl,h⟩
 | d::r,k,ρ,h,st=>by
  obtain ⟨ρ1,h1,ρ2,h2,h3⟩:=st 0 d ρ rfl h
  obtain ⟨ρ',h4,h5⟩:=dC P (ds:=r) (k:=k+1) h3 fun i d' ρ' e p=>by
   have:=st (i+1) d' ρ' (by simpa using e) (by rw [Nat.add_comm i 1,← Nat.add_assoc]; exact p)
   rw [show k+1+i+1=k+(i+1)+1 by omega]
   exact this
  refine ⟨ρ',?_,by rw [List.length_cons,show k+(r.length+1)=k+1+r.length by omega]; exact h5⟩
  unfold eB
  rw [h1]
  show ((body ρ1).bind _)=_
  rw [h2]
  exact h4
theorem jI {bind:D→List Sl→Option (List Sl)} {body:List Sl→Option Out} (P:List Sl→Prop) {ds:List D} {ρ:List Sl} (h0:P ρ) (st:∀ d ∈ ds,∀ ρ,P ρ→∃ ρ1,bind d ρ=some ρ1∧∃ ρ2,body ρ1=some (.nx ρ2)∧P ρ2):∃ ρ',eB bind body ds ρ=some (.nx ρ')∧P ρ':=
 dC (k:=0) (fun _=>P) h0 fun i d ρ e p=>st d (List.mem_of_getElem? e) ρ p
theorem aK {G:GS} {n:Nat} {b:IS} {args:List D} {ρ:List Sl} {d:D} (h0:args.map .im++List.replicate (n-args.length) .un=ρ) (h:ex G b ρ=some (.rt d)):aN G n b args=some (.ok d):=by unfold aN; rw [h0,h]
theorem NX {G:GS} {n:Nat} {b:IS} {args:List D} {ρ ρ':List Sl} (h0:args.map .im++List.replicate (n-args.length) .un=ρ) (h:ex G b ρ=some (.nx ρ')):aN G n b args=some (.ok .non):=by unfold aN; rw [h0,h]
theorem mS {G:GS} {n:Nat} {b:IS} {args:List D} {ρ:List Sl} {k:Str} (h0:args.map .im++List.replicate (n-args.length) .un=ρ) (h:ex G b ρ=some (.er k)):aN G n b args=some (.er k):=by unfold aN; rw [h0,h]
theorem wG {G:GS} {ρ:List Sl} {n:Nat} {fr:List (Nat × Nat)} {tg:List Nat} {tp:Bool} {k:Src} {src test elt:IE} {s:D} {ds:List D} (h:D→D) (h1:ev G src ρ=some s) (h2:items k s=some ds)
  (h3:∀ d ∈ ds,∃ ρ1,bE tg tp d (frame n fr ρ)=some ρ1∧ev G test ρ1=some (.bl true)∧ev G elt ρ1=some (h d)):ev G (.comp n fr tg tp k src test elt) ρ=some (.lst (ds.map h)):=by
 rw [tU,h1,Option.bind_some,h2,Option.bind_some,oS (h:=h)]
 ·rfl
 ·intro d hd
  obtain ⟨ρ1,e1,e2,e3⟩:=h3 d hd
  rw [e1,Option.bind_some,e2,Option.bind_some]
  show Option.map some (ev G elt ρ1)=_
  rw [e3]; rfl
theorem aY:view []=[]:=id rfl
theorem eL {d:D} {r:List Sl}:view (.im d::r)=.im d::view r:=id rfl
theorem zQ {r:List Sl}:view (.un::r)=.un::view r:=id rfl
theorem NJ {d:D} {r:List Sl}:view (.mu d::r)=.im d::view r:=id rfl
theorem zD {G:GS} {ρ:List Sl} {c:Str} (h:G.xn c=true):ex G (.rse c) ρ=some (.er c):=if_pos h
theorem CF {G:GS} {ρ:List Sl} {ce:IE} {hc k:Str} {hb:Option Nat} {r:HR} (h:evR G ce (view ρ)=some (.er k)):ex G (.tryx ce hc hb r) ρ=(if G.xn k&&G.xn hc&&G.sub k hc then (hrD G k r).map .rt else none):=by
 show (match evR G ce (view ρ) with|some (.ok _)=>some (Out.nx ρ)|some (.er k)=>_|none=>_)=_
 rw [h]
theorem wC {G:GS} {ρ:List Sl} {tg:List Nat} {e:IE}:ex G (.sett tg e) ρ=(ev G e ρ).bind fun d=>(bE tg true d ρ).map .nx:=id rfl
theorem aE {G:GS} {ρ ρ':List Sl} {a b:IS} {o:Out} (h1:ex G a ρ=some (.nx ρ')) (h2:ex G b ρ'=some o):ex G (.seq a b) ρ=some o:=by rw [JZ,h1]; exact h2
theorem fS {G:GS} {ρ:List Sl} {a b:IS} {o:Out} (h1:ex G a ρ=some o) (h2:∀ ρ',o≠.nx ρ'):ex G (.seq a b) ρ=some o:=by
 rw [JZ,h1]
 cases o<;>first|rfl|exact absurd rfl (h2 _)
theorem gE {G:GS} {ρ:List Sl} {a b:IS} {c:IE} {o:Option Out} (h1:ev G c (view ρ)=some (.bl true)) (h2:ex G a ρ=o):ex G (.iff c a b) ρ=o:=by rw [KA,h1]; exact h2
theorem cD {G:GS} {ρ:List Sl} {a b:IS} {c:IE} {o:Option Out} (h1:ev G c (view ρ)=some (.bl false)) (h2:ex G b ρ=o):ex G (.iff c a b) ρ=o:=by rw [KA,h1]; exact h2
theorem fA {G:GS} {ρ:List Sl} {a b:IE} {x y:Bool} (ha:ev G a ρ=some (.bl x)) (hb:x=false→ev G b ρ=some (.bl y)):ev G (.or a b) ρ=some (.bl (x || y)):=by
 rw [VO,ha]
 cases x with
 | true=>rfl
 | false=>show ((ev G b ρ).bind _)=_; rw [hb rfl]; rfl
theorem nB {G:GS} {ρ:List Sl} {a b:IE} {x y:Bool} (ha:ev G a ρ=some (.bl x)) (hb:x=true→ev G b ρ=some (.bl y)):ev G (.and a b) ρ=some (.bl (x&&y)):=by
 rw [KG,ha]
 cases x with
 | false=>rfl
 | true=>show ((ev G b ρ).bind _)=_; rw [hb rfl]; rfl
theorem aGi {xs:List D}:bf .len [.lst xs]=some (.int xs.length):=id rfl
theorem aAA {xs:List D}:bf .len [.frz xs]=some (.int xs.length):=id rfl
theorem aAz {xs:List D}:bf .len [.tup xs]=some (.int xs.length):=id rfl
theorem aAy {xs:List D}:bf .list [.lst xs]=some (.lst xs):=id rfl
theorem RI {xs:List D}:bf .list [.tup xs]=some (.lst xs):=id rfl
theorem dY {α:Type} {xs:List α} {k:Nat} {x:α} (h:xs[k]?=some x):atI xs (k:Int)=some x:=by
 have hl:=(List.getElem?_eq_some_iff.mp h).1
 unfold atI ixN
 rw [if_pos (by omega),if_pos (by omega)]
 simpa using h
theorem aA {α β:Type} {a:α} {f:α→Option β}:(some a).bind f=f a:=id rfl
theorem aB {α β:Type} {a:α} {f:α→β}:(some a).map f=some (f a):=id rfl
theorem aFX {i:Int}:(Lit.int i).d=.int i:=id rfl
theorem aJo {b:Bool}:(Lit.bl b).d=.bl b:=id rfl
theorem aFV {x:Str}:(Lit.str x).d=.str x:=id rfl
theorem aFW:(Lit.non).d=.non:=id rfl
theorem zz:(∀ G ρ k,ev G (.var k) ρ=slot ρ k)∧(∀ G ρ l,ev G (.lit l) ρ=some l.d)∧(∀ G ρ x,ev G (.glo x) ρ=G.cst x)∧(∀ G ρ o a b,ev G (.bin o a b) ρ=(ev G a ρ).bind fun x=>(ev G b ρ).bind fun y=>op2 o x y) ∧
  (∀ G ρ a,ev G (.neg a) ρ=(ev G a ρ).bind fun x=>match x with | .int i=>some (.int (-i))|_=>none) ∧
  (∀ G ρ a b,ev G (.and a b) ρ=(ev G a ρ).bind fun x=>match x with | .bl true=>((ev G b ρ).bind fun y=>match y with | .bl k=>some (.bl k)|_=>none) | .bl false=>some (.bl false)|_=>none) ∧
  (∀ G ρ a b,ev G (.or a b) ρ=(ev G a ρ).bind fun x=>match x with | .bl false=>((ev G b ρ).bind fun y=>match y with | .bl k=>some (.bl k)|_=>none) | .bl true=>some (.bl true)|_=>none) ∧
  (∀ G ρ a,ev G (.not a) ρ=(ev G a ρ).bind fun x=>match x with | .bl k=>some (.bl (!k))|_=>none)∧(∀ G ρ a,ev G (.tr a) ρ=(ev G a ρ).bind fun x=>(tru x).map .bl) ∧
  (∀ G ρ c a b,ev G (.ite c a b) ρ=(ev G c ρ).bind fun x=>match x with | .bl true=>ev G a ρ | .bl false=>ev G b ρ|_=>none) ∧
  (∀ G ρ o o' a b c,ev G (.chain o o' a b c) ρ=(ev G b ρ).bind fun y=>(ev G a ρ).bind fun x=>(op2 o x y).bind fun w=>match w with | .bl true=>(ev G c ρ).bind fun z=>op2 o' y z | .bl false=>some (.bl false)|_=>none) ∧
  (∀ G ρ,ev G .nil ρ=some (.tup []))∧(∀ G ρ e es,ev G (.cons e es) ρ=(ev G e ρ).bind fun d=>(ev G es ρ).bind fun t=>match t with | .tup ds=>some (.tup (d::ds))|_=>none) ∧
  (∀ G ρ es,ev G (.tup es) ρ=(bH (ev G es ρ)).map .tup)∧(∀ G ρ es,ev G (.lst es) ρ=(bH (ev G es ρ)).map .lst) ∧
  (∀ G ρ a b,ev G (.ix a b) ρ=(ev G a ρ).bind fun x=>(ev G b ρ).bind fun y=>(match x,y with | .lst xs,.int k=>atI xs k | .tup xs,.int k=>atI xs k | .frz xs,.int k=>atI xs k | .dct kvs,.int k=>dD kvs k|_,_=>none)) ∧
  (∀ G ρ a f,ev G (.fld a f) ρ=(ev G a ρ).bind fun x=>match x with | .obj c fs=>if (G.fl c).contains f then fs.lookup f else none|_=>none) ∧
  (∀ G ρ f es,ev G (.call f es) ρ=(bH (ev G es ρ)).bind fun as=>gX (G.fn f as)) ∧
  (∀ G ρ a m es,ev G (.meth a m es) ρ=(ev G a ρ).bind fun x=>match x with | .obj c fs=>(if (fs.lookup m).isNone then (bH (ev G es ρ)).bind fun as=>gX (G.me c m (.obj c fs::as)) else none)|_=>none) ∧
  (∀ G ρ c es,ev G (.mk c es) ρ=(bH (ev G es ρ)).bind fun as=>gX (G.mo c as))∧(∀ G ρ f es,ev G (.bcall f es) ρ=(bH (ev G es ρ)).bind fun as=>bf f as) ∧
  (∀ G ρ a t,ev G (.isi a t) ρ=(ev G a ρ).bind fun x=>(iP G t x).map .bl)∧(∀ G ρ k a,ev G (.walk k a) ρ=(ev G a ρ).bind fun x=>(items k x).map .lst) ∧
  (∀ G ρ x b,ev G (.ixm x b) ρ=(eT ρ x).bind fun xs=>(intOf (ev G b ρ)).bind fun k=>atI xs k)∧(∀ G ρ x,ev G (.lenm x) ρ=(eT ρ x).bind fun xs=>some (.int xs.length)) ∧
  (∀ G ρ a bl lo bh hi,ev G (.sl a bl lo bh hi) ρ=(ev G a ρ).bind fun d=>(part bl (ev G lo ρ)).bind fun l=>(part bh (ev G hi ρ)).bind fun h=>(match d with
   | .lst xs=>some (.lst (cut xs l h))
   | .frz xs=>some (.lst (cut xs l h))
   | .tup xs=>if sIx xs.length 0 l=0∧sIx xs.length xs.length h=xs.length then none else some (.tup (cut xs l h))
   | _=>none)):=
 ⟨fun _ _ _=>eI,fun _ _ _=>aAH,fun _ _ _=>aAK,fun _ _ _ _ _=>bG,fun _ _ _=>aAG,fun _ _ _ _=>KG,fun _ _ _ _=>VO,fun _ _ _=>tT,fun _ _ _=>qI,fun _ _ _ _ _=>jY,fun _ _ _ _ _ _ _=>wH,fun _ _=>aAF,fun _ _ _ _=>aI,fun _ _ _=>zG,fun _ _ _=>zH,fun _ _ _ _=>fB,fun _ _ _ _=>iS,fun _ _ _ _=>cK,fun _ _ _ _ _=>CG,fun _ _ _ _=>KD,fun _ _ _ _=>gS,fun _ _ _ _=>aAJ,fun _ _ _ _=>RV,fun _ _ _ _=>aAI,fun _ _ _=>RW,fun _ _ _ _ _ _ _=>wF⟩
theorem yy:(∀ ds,bH (some (.tup ds))=some ds)∧(∀ d,gX (some (.ok d))=some d)∧(∀ i j,op2 .add (.int i) (.int j)=some (.int (i+j)))∧(∀ i j,op2 .sub (.int i) (.int j)=some (.int (i-j)))∧(∀ i j,op2 .lt (.int i) (.int j)=some (.bl (decide (i<j))))∧(∀ i j,op2 .le (.int i) (.int j)=some (.bl (decide (i≤j)))) ∧
  (∀ i j,op2 .gt (.int i) (.int j)=some (.bl (decide (j<i))))∧(∀ i j,op2 .ge (.int i) (.int j)=some (.bl (decide (j≤i))))∧(∀ i j,op2 .eq (.int i) (.int j)=some (.bl (i == j)))∧(∀ i j,op2 .ne (.int i) (.int j)=some (.bl (!(i == j))))∧(∀ x y,op2 .is (.bl x) (.bl y)=some (.bl (x == y)))∧(∀ x y,op2 .isnot (.bl x) (.bl y)=some (.bl (!(x == y)))) ∧
  (∀ d r,slot (.im d::r) 0=some d)∧(∀ x r k,slot (x::r) (k+1)=slot r k)∧(view []=[])∧(∀ d r,view (.im d::r)=.im d::view r)∧(∀ r,view (.un::r)=.un::view r)∧(∀ d r,view (.mu d::r)=.im d::view r) ∧
  (∀ xs,bf .len [.lst xs]=some (.int xs.length))∧(∀ xs,bf .len [.frz xs]=some (.int xs.length))∧(∀ xs,bf .len [.tup xs]=some (.int xs.length))∧(∀ xs,bf .list [.lst xs]=some (.lst xs))∧(∀ xs,bf .list [.tup xs]=some (.lst xs)) ∧
  (∀ i,(Lit.int i).d=.int i)∧(∀ b,(Lit.bl b).d=.bl b)∧(∀ x,(Lit.str x).d=.str x)∧((Lit.non).d=.non):=
 ⟨fun _=>FX,fun _=>QI,fun _ _=>aDX,fun _ _=>aDV,fun _ _=>aII,fun _ _=>aIJ,fun _ _=>aIK,fun _ _=>aIL,fun _ _=>aIM,fun _ _=>aIH,fun _ _=>aDW,fun _ _=>ZR,fun _ _=>slot0,fun _ _ _=>aCp,aY,fun _ _=>eL,fun _=>zQ,fun _ _=>NJ,fun _=>aGi,fun _=>aAA,fun _=>aAz,fun _=>aAy,fun _=>RI,fun _=>aFX,fun _=>aJo,fun _=>aFV,aFW⟩
end Z
namespace Z
open PySem
namespace Pg
noncomputable def hJ:IS:=(.ret true (.comp 4 [(2,0),(3,1)] [1] false .rng (.tup (.cons (.var 0) .nil)) (.lit (.bl true)) (.lst (.cons (.tup (.cons (.bin .add (.bin .mul (.var 3) (.var 2)) (.var 1)) (.cons (.lit (.bl false)) (.cons (.lit (.bl false)) .nil)))) .nil))))
noncomputable def VR (i:Int) (e n:Bool):D:=.tup [.int i,.bl e,.bl n]
noncomputable def mL (c y:Nat):List D:=(List.range c).map fun x=>.lst [VR (y*c+x:Nat) false false]
theorem vQ {G:GS} {c y:Nat} (hc:c≤64) (hy:y≤64):aN G 2 hJ [.int c,.int y]=some (.ok (.lst (mL c y))):=by
 have e:=wG (G:=G) (ρ:=[.im (.int c),.im (.int y)]) (n:=4) (fr:=[(2,0),(3,1)]) (tg:=[1]) (tp:=false) (k:=.rng) (src:=.tup (.cons (.var 0) .nil)) (test:=.lit (.bl true)) (elt:=.lst (.cons (.tup (.cons (.bin .add (.bin .mul (.var 3) (.var 2)) (.var 1)) (.cons (.lit (.bl false)) (.cons (.lit (.bl false)) .nil)))) .nil))
  (fun d=>match d with | .int x=>.lst [VR (y*c+x) false false]|_=>.non) (s:=.tup [.int c]) (by simp only [zz,yy,aA,aB]) (yP (by omega)) (fun d hd=>by
   obtain ⟨x,rfl,h1,h2⟩:=nW hd
   refine ⟨[.un,.im (.int x),.im (.int c),.im (.int y)],rfl,by simp only [zz,yy,aA,aB],?_⟩
   simp only [zz,yy,aA,aB,vI (show (-1000000:Int)≤y by omega) (show (y:Int)≤1000000 by omega)]
   rfl)
 refine aK (ρ:=[.im (.int c),.im (.int y)]) rfl (aR (e.trans ?_))
 rw [jT]
 simp [mL]
noncomputable def bJ (c r w h:Int) (T F S:List D):D:=.obj "Pile" [("columns",.int c),("rows",.int r),("wide",.int w),("high",.int h),("table",.lst T),("folds",.tup F),("severed",.tup S)]
noncomputable def fM (c r:Nat):List D:=(List.range r).map fun y=>.lst (mL c y)
noncomputable def sG:IS:=(.seq (.iff (.or (.bin .lt (.var 0) (.lit (.int 1))) (.or (.bin .lt (.var 1) (.lit (.int 1))) (.bin .gt (.bin .mul (.var 0) (.var 1)) (.glo "MOST_CELLS")))) (.rse "NoSheet") .nop) (.seq (.set 2 (.comp 3 [(2,0)] [1] false .rng (.tup (.cons (.var 1) .nil)) (.lit (.bl true)) (.call "laid_row" (.cons (.var 2) (.cons (.var 1) .nil))))) (.ret false (.mk "Pile" (.cons (.var 0) (.cons (.var 1) (.cons (.var 2) (.cons (.tup .nil) (.cons (.tup .nil) .nil)))))))))
section
variable {G:GS}
theorem ES (hm:G.cst "MOST_CELLS" = some (.int 64)) {c r:Int} {ρ:List Sl} (hmul:op2 .mul (.int c) (.int r)=some (.int (c*r))) (h0:slot ρ 0=some (.int c)) (h1:slot ρ 1=some (.int r)) :
  ev G (.or (.bin .lt (.var 0) (.lit (.int 1))) (.or (.bin .lt (.var 1) (.lit (.int 1))) (.bin .gt (.bin .mul (.var 0) (.var 1)) (.glo "MOST_CELLS")))) ρ=some (.bl (decide (c<1) || (decide (r<1) || decide (64<c*r)))):=by
 refine fA (by simp only [zz,yy,aA,aB,h0]) fun _=>fA (by simp only [zz,yy,aA,aB,h1]) fun _=>?_
 simp only [zz,yy,aA,aB,h0,h1,hmul,hm]
theorem QT (hm:G.cst "MOST_CELLS" = some (.int 64)) (hrow:∀ c y:Nat,c≤64→y≤64→G.fn "laid_row" [.int c,.int y]=some (.ok (.lst (mL c y))))
  (hmo:∀ (c r:Int) (T row:List D),T[0]?=some (.lst row)→G.mo "Pile" [.int c,.int r,.lst T,.tup [],.tup []]=some (.ok (bJ c r row.length T.length T [] []))) {c r:Nat} (hc:1≤c) (hr:1≤r) (hcr:c*r≤64) :
  aN G 3 sG [.int c,.int r]=some (.ok (bJ c r c r (fM c r) [] [])):=by
 have hc2:c≤64:=Nat.le_trans (Nat.le_mul_of_pos_right c hr) hcr
 have hr2:r≤64:=Nat.le_trans (Nat.le_mul_of_pos_left r hc) hcr
 have e:=wG (G:=G) (ρ:=[.im (.int c),.im (.int r),.un]) (n:=3) (fr:=[(2,0)]) (tg:=[1]) (tp:=false) (k:=.rng) (src:=.tup (.cons (.var 1) .nil)) (test:=.lit (.bl true)) (elt:=.call "laid_row" (.cons (.var 2) (.cons (.var 1) .nil)))
  (fun d=>match d with | .int y=>.lst (mL c y.toNat)|_=>.non) (s:=.tup [.int r]) (by simp only [zz,yy,aA,aB]) (yP (by omega)) (fun d hd=>by
   obtain ⟨y,rfl,h1,h2⟩:=nW hd
   obtain ⟨k,rfl⟩:∃ k:Nat,y=k:=⟨y.toNat,by omega⟩
   refine ⟨[.un,.im (.int k),.im (.int c)],rfl,by simp only [zz,yy,aA,aB],?_⟩
   simp only [zz,yy,aA,aB,hrow c k hc2 (by omega)]
   rfl)
 have e2:(dI 0 (r:Int)).map (fun d=>match d with | .int y=>D.lst (mL c y.toNat)|_=>.non)=fM c r:=by
  rw [jT]
  simp [fM]
 rw [e2] at e
 have hmul:op2 .mul (.int (c:Int)) (.int (r:Int))=some (.int (c*r)):=vI (by omega) (by omega)
 have ht:(fM c r)[0]?=some (.lst (mL c 0)):=by unfold fM; rw [List.getElem?_map,List.getElem?_range hr]; rfl
 have e3:=hmo c r (fM c r) (mL c 0) ht
 have l1:(mL c 0).length=c:=by simp [mL]
 have l2:(fM c r).length=r:=by simp [fM]
 rw [l1,l2] at e3
 refine aK (ρ:=[.im (.int c),.im (.int r),.un]) rfl (aE (cD ?_ aU) (aE (aH e) (aR ?_)))
 ·rw [eL,eL,zQ,aY,ES hm hmul (by simp only [zz,yy,aA,aB]) (by simp only [zz,yy,aA,aB])]
  have h3:((c:Int)*r)≤64:=by exact_mod_cast hcr
  rw [decide_eq_false (show ¬ (c:Int)<1 by omega),decide_eq_false (show ¬ (r:Int)<1 by omega),decide_eq_false (show ¬ 64<(c:Int)*r by omega)]
  rfl
 ·show ev G _ [.im (.int c),.im (.int r),.im (.lst (fM c r))]=_
  simp only [zz,yy,aA,aB,e3]
end
end Pg
end Z
namespace Z
open PySem
namespace Pg
def pFl:List Str:=["columns","rows","wide","high","table","folds","severed"]
section
variable {G:GS}{c r w h:Int}{T F S:List D}{ρ:List Sl}{a:IE}
theorem gJ (hf:G.fl "Pile" = pFl) (e:ev G a ρ=some (bJ c r w h T F S)):ev G (.fld a "columns") ρ=some (.int c):=by rw [iS,e]; show (if (G.fl "Pile").contains _ then _ else _)=_; rw [hf]; rfl
theorem nT (hf:G.fl "Pile" = pFl) (e:ev G a ρ=some (bJ c r w h T F S)):ev G (.fld a "rows") ρ=some (.int r):=by rw [iS,e]; show (if (G.fl "Pile").contains _ then _ else _)=_; rw [hf]; rfl
theorem iJ (hf:G.fl "Pile" = pFl) (e:ev G a ρ=some (bJ c r w h T F S)):ev G (.fld a "wide") ρ=some (.int w):=by rw [iS,e]; show (if (G.fl "Pile").contains _ then _ else _)=_; rw [hf]; rfl
theorem iK (hf:G.fl "Pile" = pFl) (e:ev G a ρ=some (bJ c r w h T F S)):ev G (.fld a "high") ρ=some (.int h):=by rw [iS,e]; show (if (G.fl "Pile").contains _ then _ else _)=_; rw [hf]; rfl
theorem rY (hf:G.fl "Pile" = pFl) (e:ev G a ρ=some (bJ c r w h T F S)):ev G (.fld a "table") ρ=some (.lst T):=by rw [iS,e]; show (if (G.fl "Pile").contains _ then _ else _)=_; rw [hf]; rfl
theorem jA (hf:G.fl "Pile" = pFl) (e:ev G a ρ=some (bJ c r w h T F S)):ev G (.fld a "folds") ρ=some (.tup F):=by rw [iS,e]; show (if (G.fl "Pile").contains _ then _ else _)=_; rw [hf]; rfl
theorem gI (hf:G.fl "Pile" = pFl) (e:ev G a ρ=some (bJ c r w h T F S)):ev G (.fld a "severed") ρ=some (.tup S):=by rw [iS,e]; show (if (G.fl "Pile").contains _ then _ else _)=_; rw [hf]; rfl
theorem yA {m:Str} {es:IE} {ds:List D} {o:Option Rs} (hm:([("columns",D.int c),("rows",.int r),("wide",.int w),("high",.int h),("table",.lst T),("folds",.tup F),("severed",.tup S)]:List (Str × D)).lookup m=none) (e:ev G a ρ=some (bJ c r w h T F S)) (ea:ev G es ρ=some (.tup ds)) (eo:G.me "Pile" m (bJ c r w h T F S::ds)=o):ev G (.meth a m es) ρ=gX o:=by
 rw [CG,e]
 show (if (List.lookup m _).isNone=true then _ else _)=_
 rw [hm,ea]
 show gX (G.me "Pile" m (bJ c r w h T F S::ds))=_
 rw [eo]
noncomputable def sH:IS:=(.seq (.iff (.or (.bin .lt (.var 1) (.lit (.int 0))) (.or (.bin .ge (.var 1) (.fld (.var 0) "wide")) (.or (.bin .lt (.var 2) (.lit (.int 0))) (.bin .ge (.var 2) (.fld (.var 0) "high"))))) (.rse "NoPlace") .nop) (.ret true (.bcall .list (.cons (.ix (.ix (.fld (.var 0) "table") (.var 2)) (.var 1)) .nil))))
theorem EZ (hf:G.fl "Pile" = pFl) {x y:Int}:ev G (.or (.bin .lt (.var 1) (.lit (.int 0))) (.or (.bin .ge (.var 1) (.fld (.var 0) "wide")) (.or (.bin .lt (.var 2) (.lit (.int 0))) (.bin .ge (.var 2) (.fld (.var 0) "high"))))) [.im (bJ c r w h T F S),.im (.int x),.im (.int y)] =
  some (.bl (decide (x<0) || (decide (w≤x) || (decide (y<0) || decide (h≤y))))):=by
 have e0:ev G (.var 0) [.im (bJ c r w h T F S),.im (.int x),.im (.int y)]=some (bJ c r w h T F S):=by simp only [zz,yy,aA,aB]
 refine fA (by simp only [zz,yy,aA,aB]) fun _=>fA ?_ fun _=>fA (by simp only [zz,yy,aA,aB]) fun _=>?_
 ·rw [bG,iJ hf e0]; simp only [zz,yy,aA,aB]
 ·rw [bG,iK hf e0]; simp only [zz,yy,aA,aB]
theorem RB (hf:G.fl "Pile" = pFl) {x y:Nat} {row hp:List D} (hw:(x:Int)<w) (hh:(y:Int)<h) (h1:T[y]?=some (.lst row)) (h2:row[x]?=some (.lst hp)):aN G 3 sH [bJ c r w h T F S,.int x,.int y]=some (.ok (.lst hp)):=by
 have e0:ev G (.var 0) [.im (bJ c r w h T F S),.im (.int x),.im (.int y)]=some (bJ c r w h T F S):=by simp only [zz,yy,aA,aB]
 refine aK (ρ:=[.im (bJ c r w h T F S),.im (.int x),.im (.int y)]) rfl (aE (cD ?_ aU) (aR ?_))
 ·rw [eL,eL,eL,aY,EZ hf]
  rw [decide_eq_false (show ¬ (x:Int)<0 by omega),decide_eq_false (show ¬ w≤(x:Int) by omega),decide_eq_false (show ¬ (y:Int)<0 by omega),decide_eq_false (show ¬ h≤(y:Int) by omega)]
  rfl
 ·simp only [zz,yy,aA,aB,rY hf e0,dY h1,dY h2]
noncomputable def sI:IS:=(.ret true (.bcall .list (.cons (.fld (.var 0) "folds") .nil)))
theorem RY (hf:G.fl "Pile" = pFl):aN G 1 sI [bJ c r w h T F S]=some (.ok (.lst F)):=by
 have e0:ev G (.var 0) [.im (bJ c r w h T F S)]=some (bJ c r w h T F S):=by simp only [zz,yy,aA,aB]
 refine aK (ρ:=[.im (bJ c r w h T F S)]) rfl (aR ?_)
 simp only [zz,yy,aA,aB,jA hf e0]
noncomputable def jH:IS:=(.seq (.iff (.bin .lt (.var 1) (.bcall .len (.cons (.var 0) .nil))) (.ret false (.ix (.var 0) (.var 1))) .nop) (.ret false (.lit (.int 0))))
noncomputable def at0 (ns:List Int) (k:Nat):Int:=ns.getD k 0
theorem zK {ns:List Int} {k:Nat}:aN G 2 jH [.frz (ns.map .int),.int k]=some (.ok (.int (at0 ns k))):=by
 have e:ev G (.bin .lt (.var 1) (.bcall .len (.cons (.var 0) .nil))) [.im (.frz (ns.map .int)),.im (.int k)]=some (.bl (decide ((k:Int)<ns.length))):=by
  simp only [zz,yy,aA,aB,List.length_map]
 by_cases hk:k<ns.length
 ·refine aK (ρ:=[.im (.frz (ns.map .int)),.im (.int k)]) rfl (fS (gE ?_ (aR (d:=.int (at0 ns k)) ?_)) (fun _ z=>by cases z))
  ·rw [eL,eL,aY,e,decide_eq_true (by omega)]
  ·have:(ns.map D.int)[k]?=some (.int (at0 ns k)):=by
    unfold at0
    rw [List.getElem?_map,List.getD_eq_getElem?_getD,List.getElem?_eq_getElem hk]; rfl
   simp only [zz,yy,aA,aB,dY this]
 ·refine aK (ρ:=[.im (.frz (ns.map .int)),.im (.int k)]) rfl (aE (cD ?_ aU) (aR ?_))
  ·rw [eL,eL,aY,e,decide_eq_false (by omega)]
  ·have:at0 ns k=0:=by
    unfold at0
    rw [List.getD_eq_getElem?_getD,List.getElem?_eq_none (by omega)]; rfl
   simp only [zz,yy,aA,aB,this]
noncomputable def mX:IS:=(.ret false (.and (.isi (.var 0) "int") (.not (.tr (.isi (.var 0) "bool")))))
theorem vU {i:Int}:iP G "int" (.int i)=some true:=by simp only [iP]; rw [if_pos trivial]
theorem sD {i:Int}:iP G "bool" (.int i)=some false:=by simp only [iP]; rw [if_neg (by decide +kernel),if_pos (.inl trivial)]
theorem mC {b:Bool}:iP G "bool" (.bl b)=some true:=by simp only [iP]; rw [if_pos (.inr trivial)]
theorem QY {xs:List D}:iP G "list" (.lst xs)=some true:=by simp only [iP]; rw [if_pos trivial]
theorem QX {xs:List D}:iP G "tuple" (.tup xs)=some true:=by simp only [iP]; rw [if_pos trivial]
theorem GC {i:Int}:aN G 1 mX [.int i]=some (.ok (.bl true)):=by
 refine aK (ρ:=[.im (.int i)]) rfl (aR ?_)
 simp only [zz,yy,aA,aB,vU,sD,tru]
 rfl
end
end Pg
end Z
namespace Z
open PySem
theorem wQ {α:Type} {f:D→Option (Option D)} {enc:α→D} {g:α→D}:∀ {L:List α},(∀ a ∈ L,f (enc a)=some (some (g a)))→bP f (L.map enc)=some (L.map g)
 | [],_=>rfl
 | a::r,e=>by
  rw [List.map_cons]
  unfold bP
  rw [e a (List.mem_cons_self),wQ fun x hx=>e x (List.mem_cons_of_mem _ hx)]
  rfl
theorem cG {α:Type} {G:GS} {ρ:List Sl} {n:Nat} {fr:List (Nat × Nat)} {tg:List Nat} {tp:Bool} {k:Src} {src test elt:IE} {s:D} {L:List α} (enc g:α→D) (h1:ev G src ρ=some s) (h2:items k s=some (L.map enc))
  (h3:∀ a ∈ L,∃ ρ1,bE tg tp (enc a) (frame n fr ρ)=some ρ1∧ev G test ρ1=some (.bl true)∧ev G elt ρ1=some (g a)):ev G (.comp n fr tg tp k src test elt) ρ=some (.lst (L.map g)):=by
 rw [tU,h1,Option.bind_some,h2,Option.bind_some,wQ (g:=g)]
 ·rfl
 ·intro a ha
  obtain ⟨ρ1,e1,e2,e3⟩:=h3 a ha
  rw [e1,Option.bind_some,e2,Option.bind_some]
  show Option.map some (ev G elt ρ1)=_
  rw [e3]; rfl
theorem dQ {n:Nat} (h:n≤1000000):items .rng (.tup [.int (n:Int)])=some ((List.range n).map fun (k:Nat)=>D.int k):=by rw [yP h,jT]
theorem dP {xs:List D}:items .seq (.lst xs)=some xs:=id rfl
theorem yQ {xs:List D}:items .rev (.lst xs)=some xs.reverse:=id rfl
namespace Pg
abbrev Cell:=Int × Bool × Bool
abbrev cV:=List Cell
abbrev aW:=List cV
abbrev Table:=List aW
noncomputable def cE' (c:Cell):D:=.tup [.int c.1,.bl c.2.1,.bl c.2.2]
noncomputable def hE (h:cV):D:=.lst (h.map cE')
noncomputable def sE (s:aW):D:=.lst (s.map hE)
noncomputable def tE (T:Table):D:=.lst (T.map sE)
inductive Side|west|east|north|south deriving DecidableEq
noncomputable def Side.str:Side→Str
 | .west=>"west" | .east=>"east" | .north=>"north" | .south=>"south"
noncomputable def Side.up:Side→Bool
 | .west=>true | .east=>true | .north=>false | .south=>false
noncomputable def Side.near:Side→Bool
 | .west=>true | .east=>false | .north=>true | .south=>false
noncomputable def fV (up:Bool) (c:Cell):Cell:=if up then (c.1,!c.2.1,c.2.2) else (c.1,c.2.1,!c.2.2)
noncomputable def eA (up:Bool) (h:cV):cV:=h.reverse.map (fV up)
noncomputable def dE (up:Bool) (p:aW):aW:=p.map (eA up)
noncomputable def tog (u l:aW):aW:=(List.range (max u.length l.length)).map fun k=>u.getD k []++l.getD k []
noncomputable def bM (mv st:aW) (over:Bool):aW:=tog (if over then mv else st) (if over then st else mv)
noncomputable def bW (sd:Side) (over:Bool) (c:Nat) (s:aW):aW:=
 if sd.near then bM (dE sd.up (s.take c).reverse) (s.drop c) over else (bM (dE sd.up (s.drop c)) (s.take c).reverse over).reverse
def width (T:Table):Nat:=(T.getD 0 []).length
noncomputable def transp (T:Table):Table:=(List.range (width T)).map fun x=>T.map fun s=>s.getD x []
noncomputable def foldT (sd:Side) (over:Bool) (c:Nat) (T:Table):Table:=if sd.up then T.map (bW sd over c) else transp ((transp T).map (bW sd over c))
section
variable {G:GS}
noncomputable def cUP:D:=.tup [.str "west",.str "east"]
noncomputable def cLV:D:=.tup [.str "north",.str "south"]
noncomputable def cNR:D:=.tup [.str "west",.str "north"]
theorem cR {a:D} {ys:List D} {b:Bool} (hp:(plain a&&ys.all plain)=true) (hb:(ys.any fun y=>deq y a)=b):op2 .isin a (.tup ys)=some (.bl b):=by
 simp only [op2,oIn]
 rw [if_pos hp,hb]
theorem JO {sd:Side}:op2 .isin (.str sd.str) cUP=some (.bl sd.up):=by cases sd<;>exact cR (by decide +kernel) (by decide +kernel)
theorem AO {sd:Side}:op2 .isin (.str sd.str) cLV=some (.bl (!sd.up)):=by cases sd<;>exact cR (by decide +kernel) (by decide +kernel)
theorem aGb {sd:Side}:op2 .isin (.str sd.str) cNR=some (.bl sd.near):=by cases sd<;>exact cR (by decide +kernel) (by decide +kernel)
noncomputable def jG:IS:=(.ret false (.ite (.bin .lt (.var 1) (.bcall .len (.cons (.var 0) .nil))) (.ix (.var 0) (.var 1)) (.lst .nil)))
theorem yT {p:aW} {k:Nat}:aN G 2 jG [sE p,.int k]=some (.ok (hE (p.getD k []))):=by
 refine aK (ρ:=[.im (sE p),.im (.int k)]) rfl (aR ?_)
 have e:ev G (.bin .lt (.var 1) (.bcall .len (.cons (.var 0) .nil))) [.im (sE p),.im (.int k)]=some (.bl (decide ((k:Int)<p.length))):=by
  unfold sE; simp only [zz,yy,aA,aB,List.length_map]
 by_cases hk:k<p.length
 ·have h1:(p.map hE)[k]?=some (hE (p.getD k [])):=by rw [List.getElem?_map,List.getD_eq_getElem?_getD,List.getElem?_eq_getElem hk]; rfl
  rw [jY,e,decide_eq_true (by omega)]
  unfold sE
  simp only [zz,yy,aA,aB,dY h1]
 ·have h1:p.getD k []=[]:=by rw [List.getD_eq_getElem?_getD,List.getElem?_eq_none (by omega)]; rfl
  rw [jY,e,decide_eq_false (by omega),h1]
  simp only [zz,yy,aA,aB]
  rfl
noncomputable def eS:IS:=(.seq (.iff (.bin .isin (.var 1) (.glo "UPRIGHT_SIDES")) (.ret true (.comp 4 [] [1,2,3] true .rev (.var 0) (.lit (.bl true)) (.tup (.cons (.var 1) (.cons (.not (.tr (.var 2))) (.cons (.var 3) .nil)))))) .nop) (.ret true (.comp 4 [] [1,2,3] true .rev (.var 0) (.lit (.bl true)) (.tup (.cons (.var 1) (.cons (.var 2) (.cons (.not (.tr (.var 3))) .nil)))))))
theorem nJ (hc:G.cst "UPRIGHT_SIDES" = some cUP) {h:cV} {sd:Side}:aN G 2 eS [hE h,.str sd.str]=some (.ok (hE (eA sd.up h))):=by
 have et:ev G (.bin .isin (.var 1) (.glo "UPRIGHT_SIDES")) (view [.im (hE h),.im (.str sd.str)])=some (.bl sd.up):=by simp only [zz,yy,aA,aB,hc,JO]
 have er:items .rev (hE h)=some (h.reverse.map cE'):=by unfold hE; rw [yQ,List.map_reverse]
 cases hs:sd.up with
 | true =>
  refine aK (ρ:=[.im (hE h),.im (.str sd.str)]) rfl (fS (gE (et.trans (by rw [hs])) (aR (d:=hE (eA true h)) ?_)) (fun _ z=>by cases z))
  have e:=cG (G:=G) (ρ:=[.im (hE h),.im (.str sd.str)]) (n:=4) (fr:=[]) (tg:=[1,2,3]) (tp:=true) (k:=.rev) (src:=.var 0) (test:=.lit (.bl true)) (elt:=.tup (.cons (.var 1) (.cons (.not (.tr (.var 2))) (.cons (.var 3) .nil)))) (L:=h.reverse) cE' (fun c=>cE' (fV true c)) (by simp only [zz,yy,aA,aB]) er (fun c _=>⟨[.un,.im (.int c.1),.im (.bl c.2.1),.im (.bl c.2.2)],rfl,by simp only [zz,yy,aA,aB],by simp only [zz,yy,aA,aB,tru]; rfl⟩)
  rw [e]
  unfold hE eA
  rw [List.map_map]
  rfl
 | false =>
  refine aK (ρ:=[.im (hE h),.im (.str sd.str)]) rfl (aE (cD (et.trans (by rw [hs])) aU) (aR ?_))
  have e:=cG (G:=G) (ρ:=[.im (hE h),.im (.str sd.str)]) (n:=4) (fr:=[]) (tg:=[1,2,3]) (tp:=true) (k:=.rev) (src:=.var 0) (test:=.lit (.bl true)) (elt:=.tup (.cons (.var 1) (.cons (.var 2) (.cons (.not (.tr (.var 3))) .nil)))) (L:=h.reverse) cE' (fun c=>cE' (fV false c)) (by simp only [zz,yy,aA,aB]) er (fun c _=>⟨[.un,.im (.int c.1),.im (.bl c.2.1),.im (.bl c.2.2)],rfl,by simp only [zz,yy,aA,aB],by simp only [zz,yy,aA,aB,tru]; rfl⟩)
  rw [e]
  unfold hE eA
  rw [List.map_map]
  rfl
noncomputable def eR:IS:=(.ret true (.comp 3 [(2,1)] [1] false .seq (.var 0) (.lit (.bl true)) (.call "turned_heap" (.cons (.var 1) (.cons (.var 2) .nil)))))
theorem nI (ht:∀ (h:cV) (sd:Side),G.fn "turned_heap" [hE h,.str sd.str]=some (.ok (hE (eA sd.up h)))) {p:aW} {sd:Side}:aN G 2 eR [sE p,.str sd.str]=some (.ok (sE (dE sd.up p))):=by
 refine aK (ρ:=[.im (sE p),.im (.str sd.str)]) rfl (aR ?_)
 refine (cG (L:=p) hE (fun h=>hE (eA sd.up h)) (s:=sE p) (by simp only [zz,yy,aA,aB]) (by unfold sE; exact dP) (fun h _=>⟨[.un,.im (hE h),.im (.str sd.str)],rfl,by simp only [zz,yy,aA,aB],by simp only [zz,yy,aA,aB,ht]⟩)).trans ?_
 unfold sE dE
 rw [List.map_map]
 rfl
theorem aFU {a b:Nat}:bf .max [.int (a:Int),.int (b:Int)]=some (.int ((max a b:Nat):Int)):=by
 simp only [bf,zC]
 by_cases h:(b:Int) > a
 ·rw [if_pos h]; rw [Nat.max_eq_right (by omega)]
 ·rw [if_neg h]; rw [Nat.max_eq_left (by omega)]
theorem aJF {a b:cV} (h:a.length+b.length≤1000000):op2 .add (hE a) (hE b)=some (hE (a++b)):=by
 unfold hE
 simp only [op2,QK]
 rw [if_pos (by simp only [List.length_map]; exact h),List.map_append]
noncomputable def cY:IS:=(.seq (.set 3 (.ite (.tr (.var 2)) (.var 0) (.var 1))) (.seq (.set 4 (.ite (.tr (.var 2)) (.var 1) (.var 0))) (.seq (.set 5 (.bcall .max (.cons (.bcall .len (.cons (.var 3) .nil)) (.cons (.bcall .len (.cons (.var 4) .nil)) .nil)))) (.ret true (.comp 4 [(2,4),(3,3)] [1] false .rng (.tup (.cons (.var 5) .nil)) (.lit (.bl true)) (.bin .add (.call "heap_at" (.cons (.var 3) (.cons (.var 1) .nil))) (.call "heap_at" (.cons (.var 2) (.cons (.var 1) .nil)))))))))
def Few (b:Nat) (p:aW):Prop:=∀ h ∈ p,h.length≤b
theorem Few.at_ {b:Nat} {p:aW} (h:Few b p) (k:Nat):(p.getD k []).length≤b:=by
 rw [List.getD_eq_getElem?_getD]
 cases e:p[k]? with
 | none=>exact Nat.zero_le _
 | some x=>exact h x (List.mem_of_getElem? e)
theorem lM (hh:∀ (p:aW) (k:Nat),G.fn "heap_at" [sE p,.int k]=some (.ok (hE (p.getD k [])))) {mv st:aW} {over:Bool} (l1:mv.length≤1000) (l2:st.length≤1000) (f1:Few 400000 mv) (f2:Few 400000 st):aN G 6 cY [sE mv,sE st,.bl over]=some (.ok (sE (bM mv st over))):=by
 have key:∀ u l:aW,u.length≤1000→l.length≤1000→Few 400000 u→Few 400000 l→∀ s0 s1 s2,ex G (.seq (.set 5 (.bcall .max (.cons (.bcall .len (.cons (.var 3) .nil)) (.cons (.bcall .len (.cons (.var 4) .nil)) .nil)))) (.ret true (.comp 4 [(2,4),(3,3)] [1] false .rng (.tup (.cons (.var 5) .nil)) (.lit (.bl true)) (.bin .add (.call "heap_at" (.cons (.var 3) (.cons (.var 1) .nil))) (.call "heap_at" (.cons (.var 2) (.cons (.var 1) .nil)))))))
   [s0,s1,s2,.im (sE u),.im (sE l),.un]=some (.rt (sE (tog u l))):=fun u l a1 a2 b1 b2 s0 s1 s2=>by
  refine aE (aH (d:=.int ((max u.length l.length:Nat):Int)) (by unfold sE; simp only [zz,yy,aA,aB,List.length_map,aFU])) (aR ?_)
  show ev G _ [s0,s1,s2,.im (sE u),.im (sE l),.im (.int ((max u.length l.length:Nat):Int))]=_
  refine (cG (L:=List.range (max u.length l.length)) (fun k=>.int (k:Nat)) (fun k=>hE (u.getD k []++l.getD k [])) (s:=.tup [.int ((max u.length l.length:Nat):Int)]) (by simp only [zz,yy,aA,aB]) (dQ (by omega)) (fun k _=>⟨[.un,.im (.int k),.im (sE l),.im (sE u)],rfl,by simp only [zz,yy,aA,aB],?_⟩)).trans ?_
  ·have:=b1.at_ k
   have:=b2.at_ k
   simp only [zz,yy,aA,aB,hh,aJF (show (u.getD k []).length+(l.getD k []).length≤1000000 by omega)]
  ·unfold tog sE
   rw [List.map_map]
   rfl
 cases over with
 | true=>exact aK (ρ:=[.im (sE mv),.im (sE st),.im (.bl true),.un,.un,.un]) rfl (aE (aH (d:=sE mv) (by simp only [zz,yy,aA,aB,tru])) (aE (aH (d:=sE st) (by simp only [List.set]; simp only [zz,yy,aA,aB,tru])) (key mv st l1 l2 f1 f2 _ _ _)))
 | false=>exact aK (ρ:=[.im (sE mv),.im (sE st),.im (.bl false),.un,.un,.un]) rfl (aE (aH (d:=sE st) (by simp only [zz,yy,aA,aB,tru])) (aE (aH (d:=sE mv) (by simp only [List.set]; simp only [zz,yy,aA,aB,tru])) (key st mv l2 l1 f2 f1 _ _ _)))
end
end Pg
end Z
namespace Z
open PySem
namespace Pg
theorem KP {α:Type} {xs:List α} {c:Nat}:cut xs none (some (c:Int))=xs.take c:=by
 simp only [cut,sIx]
 rw [if_neg (by omega)]
 simp only [List.drop_zero,Nat.sub_zero,Int.toNat_natCast]
 by_cases h:c≤xs.length
 ·rw [Nat.min_eq_left h]
 ·rw [Nat.min_eq_right (by omega),List.take_of_length_le (by omega),List.take_of_length_le (by omega)]
theorem KR {α:Type} {xs:List α} {c:Nat}:cut xs (some (c:Int)) none=xs.drop c:=by
 simp only [cut,sIx]
 rw [if_neg (by omega)]
 simp only [Int.toNat_natCast]
 by_cases h:c≤xs.length
 ·rw [Nat.min_eq_left h,List.take_of_length_le (by rw [List.length_drop]; exact Nat.le_refl _)]
 ·rw [Nat.min_eq_right (by omega),List.drop_of_length_le (by omega),List.drop_of_length_le (by omega),List.take_nil]
theorem Few.sub {b:Nat} {p q:aW} (h:Few b p) (s:∀ x ∈ q,x ∈ p):Few b q:=fun x hx=>h x (s x hx)
theorem Few.turn {b:Nat} {p:aW} {u:Bool} (h:Few b p):Few b (dE u p):=by
 intro x hx
 unfold dE at hx
 obtain ⟨y,hy,rfl⟩:=List.mem_map.mp hx
 unfold eA
 rw [List.length_map,List.length_reverse]
 exact h y hy
theorem Few.tog {b:Nat} {u l:aW} (h1:Few b u) (h2:Few b l):Few (b+b) (tog u l):=by
 intro x hx
 unfold Pg.tog at hx
 obtain ⟨k,_,rfl⟩:=List.mem_map.mp hx
 rw [List.length_append]
 have:=h1.at_ k
 have:=h2.at_ k
 omega
theorem kD {b:Nat} {u l:aW} {over:Bool} (h1:Few b u) (h2:Few b l):Few (b+b) (bM u l over):=by
 unfold bM
 cases over with
 | true=>exact h1.tog h2
 | false=>exact h2.tog h1
theorem rK {u l:aW}:(tog u l).length=max u.length l.length:=by unfold tog; simp
theorem gU {u l:aW} {over:Bool}:(bM u l over).length=max u.length l.length:=by
 unfold bM
 cases over with
 | true=>exact rK
 | false=>rw [Nat.max_comm]; exact rK
theorem gH {u:Bool} {p:aW}:(dE u p).length=p.length:=by unfold dE; simp
theorem FE {sd:Side} {over:Bool} {c:Nat} {s:aW} (h:c≤s.length):(bW sd over c s).length=max c (s.length-c):=by
 unfold bW
 split
 ·rw [gU,gH,List.length_reverse,List.length_take,List.length_drop,Nat.min_eq_left h]
 ·rw [List.length_reverse,gU,gH,List.length_reverse,List.length_take,List.length_drop,Nat.min_eq_left h,Nat.max_comm]
theorem FF {b:Nat} {sd:Side} {over:Bool} {c:Nat} {s:aW} (h:Few b s):Few (b+b) (bW sd over c s):=by
 have a1:Few b (s.take c).reverse:=h.sub fun x hx=>List.mem_of_mem_take (List.mem_reverse.mp hx)
 have a2:Few b (s.drop c):=h.sub fun x hx=>List.mem_of_mem_drop hx
 unfold bW
 split
 ·exact kD a1.turn a2
 ·exact (kD a2.turn a1).sub fun x hx=>List.mem_reverse.mp hx
section
variable {G:GS}
noncomputable def dW:IS:=(.seq (.set 4 (.walk .rev (.sl (.var 0) false (.lit .non) true (.var 3)))) (.seq (.set 5 (.sl (.var 0) true (.var 3) false (.lit .non))) (.seq (.iff (.bin .isin (.var 1) (.glo "NEAR_SIDES")) (.ret false (.call "laid_together" (.cons (.call "turned_part" (.cons (.var 4) (.cons (.var 1) .nil))) (.cons (.var 5) (.cons (.var 2) .nil))))) .nop) (.seq (.set 6 (.call "laid_together" (.cons (.call "turned_part" (.cons (.var 5) (.cons (.var 1) .nil))) (.cons (.var 4) (.cons (.var 2) .nil))))) (.ret true (.walk .rev (.var 6)))))))
theorem mR (hc:G.cst "NEAR_SIDES" = some cNR) (ht:∀ (p:aW) (sd:Side),G.fn "turned_part" [sE p,.str sd.str]=some (.ok (sE (dE sd.up p))))
  (hl:∀ (mv st:aW) (over:Bool),mv.length≤1000→st.length≤1000→Few 400000 mv→Few 400000 st→G.fn "laid_together" [sE mv,sE st,.bl over]=some (.ok (sE (bM mv st over)))) {s:aW} {sd:Side} {over:Bool} {c:Nat} (ls:s.length≤1000) (hf:Few 400000 s) :
  aN G 7 dW [sE s,.str sd.str,.bl over,.int c]=some (.ok (sE (bW sd over c s))):=by
 have a1:Few 400000 (s.take c).reverse:=hf.sub fun x hx=>List.mem_of_mem_take (List.mem_reverse.mp hx)
 have a2:Few 400000 (s.drop c):=hf.sub fun x hx=>List.mem_of_mem_drop hx
 have l1:(s.take c).reverse.length≤1000:=by rw [List.length_reverse,List.length_take]; omega
 have l2:(s.drop c).length≤1000:=by rw [List.length_drop]; omega
 have e1:ev G (.walk .rev (.sl (.var 0) false (.lit .non) true (.var 3))) [.im (sE s),.im (.str sd.str),.im (.bl over),.im (.int c),.un,.un,.un]=some (sE (s.take c).reverse):=by
  unfold sE
  simp only [zz,yy,aA,aB,part,intOf]
  simp only [Bool.false_eq_true,if_false,if_true]
  simp only [zz,yy,aA,aB,KP,yQ]
  rw [← List.map_take,← List.map_reverse]
 have e2:ev G (.sl (.var 0) true (.var 3) false (.lit .non)) [.im (sE s),.im (.str sd.str),.im (.bl over),.im (.int c),.im (sE (s.take c).reverse),.un,.un]=some (sE (s.drop c)):=by
  unfold sE
  simp only [zz,yy,aA,aB,part,intOf]
  simp only [Bool.false_eq_true,if_false,if_true]
  simp only [zz,yy,aA,aB,KR]
  rw [← List.map_drop]
 have et:ev G (.bin .isin (.var 1) (.glo "NEAR_SIDES")) (view [.im (sE s),.im (.str sd.str),.im (.bl over),.im (.int c),.im (sE (s.take c).reverse),.im (sE (s.drop c)),.un])=some (.bl sd.near):=by simp only [zz,yy,aA,aB,hc,aGb]
 refine aK (ρ:=[.im (sE s),.im (.str sd.str),.im (.bl over),.im (.int c),.un,.un,.un]) rfl (aE (aH e1) (aE (aH e2) ?_))
 show ex G _ [.im (sE s),.im (.str sd.str),.im (.bl over),.im (.int c),.im (sE (s.take c).reverse),.im (sE (s.drop c)),.un]=_
 cases hn:sd.near with
 | true =>
  refine fS (gE (et.trans (by rw [hn])) (aR ?_)) (fun _ z=>by cases z)
  unfold bW
  rw [if_pos hn]
  simp only [zz,yy,aA,aB,ht,hl (dE sd.up (s.take c).reverse) (s.drop c) over (by rw [gH]; exact l1) l2 a1.turn a2]
 | false =>
  refine aE (cD (et.trans (by rw [hn])) aU) (aE (aH (d:=sE (bM (dE sd.up (s.drop c)) (s.take c).reverse over)) ?_) (aR ?_))
  ·simp only [zz,yy,aA,aB,ht,hl (dE sd.up (s.drop c)) (s.take c).reverse over (by rw [gH]; exact l2) l1 a2.turn a1]
  ·show ev G _ [.im (sE s),.im (.str sd.str),.im (.bl over),.im (.int c),.im (sE (s.take c).reverse),.im (sE (s.drop c)),.im (sE (bM (dE sd.up (s.drop c)) (s.take c).reverse over))]=_
   unfold bW
   rw [if_neg (by rw [hn]; decide)]
   unfold sE
   simp only [zz,yy,aA,aB,yQ]
   rw [← List.map_reverse]
noncomputable def gA:IS:=(.ret true (.comp 3 [(2,1)] [1] false .seq (.var 0) (.lit (.bl true)) (.ix (.var 1) (.var 2))))
theorem uC {T:Table} {x:Nat} (h:∀ s ∈ T,x<s.length):aN G 2 gA [tE T,.int x]=some (.ok (sE (T.map fun s=>s.getD x []))):=by
 refine aK (ρ:=[.im (tE T),.im (.int x)]) rfl (aR ?_)
 refine (cG (L:=T) sE (fun s=>hE (s.getD x [])) (s:=tE T) (by simp only [zz,yy,aA,aB]) (by unfold tE; exact dP) (fun s hs=>⟨[.un,.im (sE s),.im (.int x)],rfl,by simp only [zz,yy,aA,aB],?_⟩)).trans ?_
 ·have h1:(s.map hE)[x]?=some (hE (s.getD x [])):=by rw [List.getElem?_map,List.getD_eq_getElem?_getD,List.getElem?_eq_getElem (h s hs)]; rfl
  unfold sE
  simp only [zz,yy,aA,aB,dY h1]
 ·unfold sE
  rw [List.map_map]
  rfl
structure Rect (T:Table) (w h:Nat):Prop where
 len:T.length=h
 row:∀ s ∈ T,s.length=w
 h1:1≤h
 w1:1≤w
theorem Rect.width {T:Table} {w h:Nat} (r:Rect T w h):Pg.width T=w:=by
 obtain ⟨len,row,h1,w1⟩:=r
 unfold Pg.width
 rw [List.getD_eq_getElem?_getD,List.getElem?_eq_getElem (by omega)]
 exact row _ (List.getElem_mem _)
theorem Rect.transp {T:Table} {w h:Nat} (r:Rect T w h):Rect (transp T) h w:=by
 refine ⟨?_,fun s hs=>?_,r.w1,r.h1⟩
 ·unfold Pg.transp; rw [List.length_map,List.length_range,r.width]
 ·unfold Pg.transp at hs
  obtain ⟨x,_,rfl⟩:=List.mem_map.mp hs
  rw [List.length_map,r.len]
noncomputable def fE:IS:=(.ret true (.comp 3 [(2,0)] [1] false .rng (.tup (.cons (.bcall .len (.cons (.ix (.var 0) (.lit (.int 0))) .nil)) .nil)) (.lit (.bl true)) (.call "column_of" (.cons (.var 2) (.cons (.var 1) .nil)))))
theorem pC (hc:∀ (T:Table) (x:Nat),(∀ s ∈ T,x<s.length)→G.fn "column_of" [tE T,.int x]=some (.ok (sE (T.map fun s=>s.getD x [])))) {T:Table} {w h:Nat} (r:Rect T w h) (hw:w≤1000):aN G 1 fE [tE T]=some (.ok (tE (transp T))):=by
 refine aK (ρ:=[.im (tE T)]) rfl (aR ?_)
 have h0:(T.map sE)[0]?=some (sE (T.getD 0 [])):=by
  have:=r.len; have:=r.h1
  rw [List.getElem?_map,List.getD_eq_getElem?_getD,List.getElem?_eq_getElem (by omega)]; rfl
 have e0:atI (T.map sE) 0=some (sE (T.getD 0 [])):=dY (k:=0) h0
 refine (cG (L:=List.range (width T)) (fun k=>.int (k:Nat)) (fun x=>sE (T.map fun s=>s.getD x [])) (s:=.tup [.int (width T:Nat)]) ?_ (dQ (by rw [r.width]; omega)) (fun x hx=>⟨[.un,.im (.int x),.im (tE T)],rfl,by simp only [zz,yy,aA,aB],?_⟩)).trans ?_
 ·unfold tE
  simp only [zz,yy,aA,aB,e0]
  unfold sE
  simp only [zz,yy,aA,aB,List.length_map]
  rfl
 ·have hx':x<w:=by rw [← r.width]; exact List.mem_range.mp hx
  simp only [zz,yy,aA,aB,hc T x (fun s hs=>by rw [r.row s hs]; exact hx')]
 ·unfold tE transp
  rw [List.map_map]
  rfl
def fU (b:Nat) (T:Table):Prop:=∀ s ∈ T,Few b s
theorem fU.transp {b:Nat} {T:Table} (h:fU b T):fU b (transp T):=by
 intro s hs
 unfold Pg.transp at hs
 obtain ⟨x,_,rfl⟩:=List.mem_map.mp hs
 intro y hy
 obtain ⟨s,hs,rfl⟩:=List.mem_map.mp hy
 exact (h s hs).at_ x
theorem fU.fold {b:Nat} {T:Table} {sd:Side} {over:Bool} {c:Nat} (h:fU b T):fU (b+b) (T.map (bW sd over c)):=by
 intro s hs
 obtain ⟨s',hs',rfl⟩:=List.mem_map.mp hs
 exact FF (h s' hs')
theorem Rect.fold {T:Table} {w h:Nat} {sd:Side} {over:Bool} {c:Nat} (r:Rect T w h) (h1:1≤c) (h2:c<w):Rect (T.map (bW sd over c)) (max c (w-c)) h:=by
 refine ⟨by rw [List.length_map,r.len],fun s hs=>?_,r.h1,by omega⟩
 obtain ⟨s',hs',rfl⟩:=List.mem_map.mp hs
 rw [FE (by rw [r.row s' hs']; omega),r.row s' hs']
theorem Rect.foldT {T:Table} {w h:Nat} {sd:Side} {over:Bool} {c:Nat} (r:Rect T w h) (h1:1≤c) (h2:c<if sd.up then w else h):Rect (foldT sd over c T) (if sd.up then max c (w-c) else w) (if sd.up then h else max c (h-c)):=by
 unfold Pg.foldT
 cases hs:sd.up with
 | true=>rw [hs] at h2; exact r.fold h1 h2
 | false=>rw [hs] at h2; exact (r.transp.fold h1 h2).transp
theorem fU.foldT {b:Nat} {T:Table} {sd:Side} {over:Bool} {c:Nat} (h:fU b T):fU (b+b) (foldT sd over c T):=by
 unfold Pg.foldT
 cases hs:sd.up with
 | true=>exact h.fold
 | false=>exact h.transp.fold.transp
noncomputable def dU:IS:=(.seq (.iff (.bin .isin (.var 1) (.glo "UPRIGHT_SIDES")) (.ret true (.comp 5 [(2,3),(3,2),(4,1)] [1] false .seq (.var 0) (.lit (.bl true)) (.call "folded_strip" (.cons (.var 1) (.cons (.var 4) (.cons (.var 3) (.cons (.var 2) .nil))))))) .nop) (.seq (.set 4 (.comp 5 [(2,3),(3,2),(4,1)] [1] false .seq (.call "transposed" (.cons (.var 0) .nil)) (.lit (.bl true)) (.call "folded_strip" (.cons (.var 1) (.cons (.var 4) (.cons (.var 3) (.cons (.var 2) .nil))))))) (.ret false (.call "transposed" (.cons (.var 4) .nil)))))
theorem mQ (hc:G.cst "UPRIGHT_SIDES" = some cUP) (ht:∀ (T:Table) (w h:Nat),Rect T w h→w≤1000→G.fn "transposed" [tE T]=some (.ok (tE (transp T))))
  (hs:∀ (s:aW) (sd:Side) (over:Bool) (c:Nat),s.length≤1000→Few 400000 s→G.fn "folded_strip" [sE s,.str sd.str,.bl over,.int c]=some (.ok (sE (bW sd over c s)))) {T:Table} {w h:Nat} {sd:Side} {over:Bool} {c:Nat} (r:Rect T w h) (hw:w≤1000) (hh:h≤1000) (hf:fU 400000 T) (h1:1≤c) (h2:c<if sd.up then w else h) :
  aN G 5 dU [tE T,.str sd.str,.bl over,.int c]=some (.ok (tE (foldT sd over c T))):=by
 have et:ev G (.bin .isin (.var 1) (.glo "UPRIGHT_SIDES")) (view [.im (tE T),.im (.str sd.str),.im (.bl over),.im (.int c),.un])=some (.bl sd.up):=by simp only [zz,yy,aA,aB,hc,JO]
 cases hu:sd.up with
 | true =>
  refine aK (ρ:=[.im (tE T),.im (.str sd.str),.im (.bl over),.im (.int c),.un]) rfl (fS (gE (et.trans (by rw [hu])) (aR ?_)) (fun _ z=>by cases z))
  refine (cG (L:=T) sE (fun s=>sE (bW sd over c s)) (s:=tE T) (by simp only [zz,yy,aA,aB]) (by unfold tE; exact dP) (fun s hs'=>⟨[.un,.im (sE s),.im (.int c),.im (.bl over),.im (.str sd.str)],rfl,by simp only [zz,yy,aA,aB],?_⟩)).trans ?_
  ·simp only [zz,yy,aA,aB,hs s sd over c (by rw [r.row s hs']; exact hw) (hf s hs')]
  ·unfold tE foldT
   rw [if_pos hu,List.map_map]
   rfl
 | false =>
  rw [hu] at h2
  have h2:c<h:=h2
  refine aK (ρ:=[.im (tE T),.im (.str sd.str),.im (.bl over),.im (.int c),.un]) rfl (aE (cD (et.trans (by rw [hu])) aU) (aE (aH (d:=tE ((transp T).map (bW sd over c))) ?_) (aR ?_)))
  ·refine (cG (L:=transp T) sE (fun s=>sE (bW sd over c s)) (s:=tE (transp T)) (by simp only [zz,yy,aA,aB,ht T w h r hw]) (by unfold tE; exact dP) (fun s hs'=>⟨[.un,.im (sE s),.im (.int c),.im (.bl over),.im (.str sd.str)],rfl,by simp only [zz,yy,aA,aB],?_⟩)).trans ?_
   ·simp only [zz,yy,aA,aB,hs s sd over c (by rw [r.transp.row s hs']; exact hh) (hf.transp s hs')]
   ·unfold tE
    rw [List.map_map]
    rfl
  ·show ev G _ [.im (tE T),.im (.str sd.str),.im (.bl over),.im (.int c),.im (tE ((transp T).map (bW sd over c)))]=_
   unfold foldT
   rw [if_neg (by rw [hu]; decide)]
   simp only [zz,yy,aA,aB,ht ((transp T).map (bW sd over c)) (max c (h-c)) w (r.transp.fold h1 h2) (by omega)]
end
end Pg
end Z
namespace Z
open PySem
namespace Pg
noncomputable def aL (c r w h:Nat) (T:Table) (F S:List D):D:=bJ c r w h (T.map sE) F S
noncomputable def eW (c r:Nat):Table:=(List.range r).map fun y=>(List.range c).map fun x=>[(((y*c+x:Nat):Int),false,false)]
theorem uT {c r:Nat}:fM c r=(eW c r).map sE:=by
 unfold fM eW mL
 rw [List.map_map]
 congr 1
 funext y
 show _=D.lst (((List.range c).map _).map hE)
 rw [List.map_map]
 rfl
theorem FH {c r:Nat} (hc:1≤c) (hr:1≤r):Rect (eW c r) c r:=by
 refine ⟨by unfold eW; simp,fun s hs=>?_,hr,hc⟩
 unfold eW at hs
 obtain ⟨y,_,rfl⟩:=List.mem_map.mp hs
 simp
theorem JV {c r:Nat}:fU 1 (eW c r):=by
 intro s hs
 unfold eW at hs
 obtain ⟨y,_,rfl⟩:=List.mem_map.mp hs
 intro h hh
 obtain ⟨x,_,rfl⟩:=List.mem_map.mp hh
 exact Nat.le_refl 1
section
variable {G:GS}{c r w h:Nat}{T:Table}{F S:List D}
noncomputable def bV:IS:=(.iff (.tr (.fld (.var 0) "severed")) (.rse "Severed") .nop)
theorem kH (hf:G.fl "Pile" = pFl):aN G 1 bV [aL c r w h T F []]=some (.ok .non):=by
 have e0:ev G (.var 0) (view [.im (aL c r w h T F [])])=some (bJ c r w h (T.map sE) F []):=by simp only [zz,yy,aA,aB]; rfl
 refine NX (ρ:=[.im (aL c r w h T F [])]) (ρ':=[.im (aL c r w h T F [])]) rfl (cD ?_ aU)
 rw [qI,gI hf e0]
 rfl
theorem kI (hf:G.fl "Pile" = pFl) (hx:G.xn "Severed" = true) (hS:S≠[]):aN G 1 bV [aL c r w h T F S]=some (.er "Severed"):=by
 have e0:ev G (.var 0) (view [.im (aL c r w h T F S)])=some (bJ c r w h (T.map sE) F S):=by simp only [zz,yy,aA,aB]; rfl
 refine mS (ρ:=[.im (aL c r w h T F S)]) rfl (gE ?_ (zD hx))
 rw [qI,gI hf e0]
 cases S with
 | nil=>exact absurd rfl hS
 | cons a b=>rfl
noncomputable def dS:IS:=(.seq (.iff (.bin .isin (.var 1) (.glo "UPRIGHT_SIDES")) (.ret false (.chain .le .lt (.lit (.int 1)) (.var 2) (.fld (.var 0) "wide"))) .nop) (.seq (.iff (.bin .isin (.var 1) (.glo "LEVEL_SIDES")) (.ret false (.chain .le .lt (.lit (.int 1)) (.var 2) (.fld (.var 0) "high"))) .nop) (.ret false (.lit (.bl false)))))
theorem wU {ρ:List Sl} {a:IE} {i j:Int} (h1:slot ρ 2=some (.int i)) (h2:ev G a ρ=some (.int j)):ev G (.chain .le .lt (.lit (.int 1)) (.var 2) a) ρ=some (.bl (decide (1≤i)&&decide (i<j))):=by
 rw [wH,eI,h1]
 simp only [zz,yy,aA,aB]
 cases hb:decide (1≤i) with
 | true=>rw [h2]; simp only [zz,yy,aA,aB]; rfl
 | false=>rfl
theorem jP (hf:G.fl "Pile" = pFl) (h1:G.cst "UPRIGHT_SIDES" = some cUP) (h2:G.cst "LEVEL_SIDES" = some cLV) {sd:Side} {i:Int}:aN G 3 dS [aL c r w h T F S,.str sd.str,.int i]=some (.ok (.bl (decide (1≤i)&&decide (i<((if sd.up then w else h:Nat):Int))))):=by
 have e0:ev G (.var 0) [.im (aL c r w h T F S),.im (.str sd.str),.im (.int i)]=some (bJ c r w h (T.map sE) F S):=by simp only [zz,yy,aA,aB]; rfl
 have et:ev G (.bin .isin (.var 1) (.glo "UPRIGHT_SIDES")) (view [.im (aL c r w h T F S),.im (.str sd.str),.im (.int i)])=some (.bl sd.up):=by simp only [zz,yy,aA,aB,h1,JO]
 have el:ev G (.bin .isin (.var 1) (.glo "LEVEL_SIDES")) (view [.im (aL c r w h T F S),.im (.str sd.str),.im (.int i)])=some (.bl (!sd.up)):=by simp only [zz,yy,aA,aB,h2,AO]
 cases hu:sd.up with
 | true=>exact aK (ρ:=[.im (aL c r w h T F S),.im (.str sd.str),.im (.int i)]) rfl (fS (gE (et.trans (by rw [hu])) (aR (wU (by simp only [zz,yy,aA,aB]) (iJ hf e0)))) (fun _ z=>by cases z))
 | false=>exact aK (ρ:=[.im (aL c r w h T F S),.im (.str sd.str),.im (.int i)]) rfl (aE (cD (et.trans (by rw [hu])) aU) (fS (gE (el.trans (by rw [hu]; rfl)) (aR (wU (by simp only [zz,yy,aA,aB]) (iK hf e0)))) (fun _ z=>by cases z)))
noncomputable def bI (sd:Side) (over:Bool) (k:Nat):D:=.tup [.str sd.str,.bl over,.int k]
noncomputable def gQ:IS:=(.seq (.drop (.call "refuse_severed" (.cons (.var 0) .nil))) (.seq (.iff (.not (.tr (.call "has_crease" (.cons (.var 0) (.cons (.var 1) (.cons (.var 3) .nil)))))) (.rse "NoFold") .nop) (.seq (.set 4 (.call "folded_table" (.cons (.fld (.var 0) "table") (.cons (.var 1) (.cons (.var 2) (.cons (.var 3) .nil)))))) (.seq (.set 5 (.bin .add (.fld (.var 0) "folds") (.tup (.cons (.tup (.cons (.var 1) (.cons (.var 2) (.cons (.var 3) .nil)))) .nil)))) (.ret false (.mk "Pile" (.cons (.fld (.var 0) "columns") (.cons (.fld (.var 0) "rows") (.cons (.var 4) (.cons (.var 5) (.cons (.fld (.var 0) "severed") .nil)))))))))))
theorem aHc {a b:List D} (h:a.length+b.length≤1000000):op2 .add (.tup a) (.tup b)=some (.tup (a++b)):=by
 simp only [op2,QK]
 rw [if_pos (by unfold big; exact h)]
theorem nA {ρ:List Sl} {e:IE} {d:D} (h:ev G e (view ρ)=some d):ex G (.drop e) ρ=some (.nx ρ):=by
 show (match ev G e (view ρ) with|some _=>some (Out.nx ρ)|none=>_)=_
 rw [h]
theorem FD (hf:G.fl "Pile" = pFl) (hsv:∀ (c r w h:Nat) (T:Table) (F:List D),G.fn "refuse_severed" [aL c r w h T F []]=some (.ok .non))
  (hcr:∀ (c r w h:Nat) (T:Table) (F S:List D) (sd:Side) (i:Int),G.fn "has_crease" [aL c r w h T F S,.str sd.str,.int i]=some (.ok (.bl (decide (1≤i)&&decide (i<((if sd.up then w else h:Nat):Int))))))
  (hft:∀ (T:Table) (w h:Nat) (sd:Side) (over:Bool) (k:Nat),Rect T w h→w≤1000→h≤1000→fU 400000 T→1≤k→(k<if sd.up then w else h)→G.fn "folded_table" [tE T,.str sd.str,.bl over,.int k]=some (.ok (tE (foldT sd over k T))))
  (hmo:∀ (c r:Int) (T row:List D) (F S:List D),T[0]?=some (.lst row)→G.mo "Pile" [.int c,.int r,.lst T,.tup F,.tup S]=some (.ok (bJ c r row.length T.length T F S)))
  {sd:Side} {over:Bool} {k:Nat} (R:Rect T w h) (hw:w≤1000) (hh:h≤1000) (hfew:fU 400000 T) (h1:1≤k) (h2:k<if sd.up then w else h) (hF:F.length≤1000) :
  aN G 6 gQ [aL c r w h T F [],.str sd.str,.bl over,.int k]=some (.ok (aL c r (if sd.up then max k (w-k) else w) (if sd.up then h else max k (h-k)) (foldT sd over k T) (F++[bI sd over k]) [])):=by
 have R':=R.foldT (over:=over) h1 h2
 have e0:∀ s4 s5,ev G (.var 0) [.im (aL c r w h T F []),.im (.str sd.str),.im (.bl over),.im (.int k),s4,s5]=some (bJ c r w h (T.map sE) F []):=fun _ _=>by simp only [zz,yy,aA,aB]; rfl
 have ht:=hft T w h sd over k R hw hh hfew h1 h2
 unfold tE at ht
 have em:=hmo c r ((foldT sd over k T).map sE) (((foldT sd over k T).getD 0 []).map hE) (F++[bI sd over k]) [] (by
  have:=R'.len; have:=R'.h1
  rw [List.getElem?_map,List.getD_eq_getElem?_getD,List.getElem?_eq_getElem (by omega)]; rfl)
 rw [List.length_map,List.length_map,R'.len,show ((foldT sd over k T).getD 0 []).length=_ from R'.width] at em
 refine aK (ρ:=[.im (aL c r w h T F []),.im (.str sd.str),.im (.bl over),.im (.int k),.un,.un]) rfl ?_
 refine aE (nA (d:=.non) (by simp only [zz,yy,aA,aB,hsv])) (aE (cD ?_ aU) (aE (aH (d:=.lst ((foldT sd over k T).map sE)) ?_) (aE (aH (d:=.tup (F++[bI sd over k])) ?_) (aR ?_))))
 ·have hb:(decide ((1:Int)≤(k:Int))&&decide ((k:Int)<((if sd.up then w else h:Nat):Int)))=true:=by
   rw [Bool.and_eq_true,decide_eq_true_eq,decide_eq_true_eq]
   exact ⟨by omega,by exact_mod_cast h2⟩
  simp only [zz,yy,aA,aB,hcr,hb,tru,Bool.not_true]
 ·rw [cK,aI,rY hf (e0 _ _)]
  simp only [zz,yy,aA,aB,ht]
 ·show ev G _ [.im (aL c r w h T F []),.im (.str sd.str),.im (.bl over),.im (.int k),.im (.lst ((foldT sd over k T).map sE)),.un]=_
  rw [bG,jA hf (e0 _ _)]
  simp only [zz,yy,aA,aB,aHc (show F.length + [D.tup [.str sd.str,.bl over,.int k]].length≤1000000 by simp only [List.length_cons,List.length_nil]; omega)]
  rfl
 ·show ev G _ [.im (aL c r w h T F []),.im (.str sd.str),.im (.bl over),.im (.int k),.im (.lst ((foldT sd over k T).map sE)),.im (.tup (F++[bI sd over k]))]=_
  rw [KD,aI,gJ hf (e0 _ _),aI,nT hf (e0 _ _)]
  simp only [zz,yy,aA,aB,gI hf (e0 _ _),em]
  rfl
noncomputable def gR:IS:=(.seq (.set 3 (.or (.bin .eq (.var 1) (.lit (.int 1))) (.and (.bin .gt (.var 2) (.lit (.int 1))) (.bin .eq (.bin .mod (.var 0) (.lit (.int 2))) (.lit (.int 1)))))) (.seq (.set 4 (.ite (.tr (.var 3)) (.var 2) (.var 1))) (.seq (.set 5 (.ite (.tr (.var 3)) (.lst (.cons (.lit (.str "north")) (.cons (.lit (.str "south")) .nil))) (.lst (.cons (.lit (.str "west")) (.cons (.lit (.str "east")) .nil))))) (.ret false (.tup (.cons (.ix (.var 5) (.bin .mod (.bin .fdiv (.var 0) (.lit (.int 2))) (.lit (.int 2)))) (.cons (.bin .eq (.bin .mod (.bin .fdiv (.var 0) (.lit (.int 4))) (.lit (.int 2))) (.lit (.int 1))) (.cons (.bin .add (.lit (.int 1)) (.bin .mod (.bin .fdiv (.var 0) (.lit (.int 8))) (.bin .sub (.var 4) (.lit (.int 1))))) .nil))))))))
theorem mod2 (i:Int):i % 2=0∨i % 2=1:=by omega
theorem yZ {cell:Int} (hw:1≤w) (hh:1≤h) (hwh:1<w*h):∃ (sd:Side) (over:Bool) (k:Nat),1≤k∧(k<if sd.up then w else h)∧aN G 6 gR [.int cell,.int w,.int h]=some (.ok (bI sd over k)):=by
 have m2:∀ i:Int,op2 .mod (.int i) (.int 2)=some (.int (i % 2)):=fun i=>gK (by decide)
 have d2:∀ i:Int,op2 .fdiv (.int i) (.int 2)=some (.int (i / 2)):=fun i=>jO (by decide) (by decide)
 have d4:∀ i:Int,op2 .fdiv (.int i) (.int 4)=some (.int (i / 4)):=fun i=>jO (by decide) (by decide)
 have d8:∀ i:Int,op2 .fdiv (.int i) (.int 8)=some (.int (i / 8)):=fun i=>jO (by decide) (by decide)
 have e3:ev G (.or (.bin .eq (.var 1) (.lit (.int 1))) (.and (.bin .gt (.var 2) (.lit (.int 1))) (.bin .eq (.bin .mod (.var 0) (.lit (.int 2))) (.lit (.int 1))))) [.im (.int cell),.im (.int w),.im (.int h),.un,.un,.un]=some (.bl (((w:Int) == 1) || (decide (1<(h:Int))&&(cell % 2 == 1)))):=
  fA (by simp only [zz,yy,aA,aB]) fun _=>nB (by simp only [zz,yy,aA,aB]) fun _=>by simp only [zz,yy,aA,aB,m2]
 have s01:∀ {a b:D},atI [a,b] 0=some a:=fun {a b}=>dY (k:=0) rfl
 have s11:∀ {a b:D},atI [a,b] 1=some b:=fun {a b}=>dY (k:=1) rfl
 have fin:∀ (lv:Bool) (ext:Nat) (a b:Side),(((w:Int) == 1) || (decide (1<(h:Int))&&(cell % 2 == 1)))=lv→ext=(if lv then h else w)→2≤ext→(a=if lv then .north else .west)→(b=if lv then .south else .east) →
   ∃ (sd:Side) (over:Bool) (k:Nat),1≤k∧(k<if sd.up then w else h)∧aN G 6 gR [.int cell,.int w,.int h]=some (.ok (bI sd over k)):=by
  intro lv ext a b h1 h2 h3 ha hb
  have mx:op2 .mod (.int (cell / 8)) (.int ((ext:Int)-1))=some (.int (cell / 8 % ((ext:Int)-1))):=gK (by omega)
  have r0:=Int.emod_nonneg (cell / 8) (show ((ext:Int)-1)≠0 by omega)
  have r1:=Int.emod_lt_of_pos (cell / 8) (show (0:Int)<(ext:Int)-1 by omega)
  have hk:(((1+cell / 8 % ((ext:Int)-1)).toNat:Nat):Int)=1+cell / 8 % ((ext:Int)-1):=by omega
  have up_a:(if a.up then w else h)=ext:=by subst ha h2; cases lv<;>rfl
  have up_b:(if b.up then w else h)=ext:=by subst hb h2; cases lv<;>rfl
  have e4:ev G (.ite (.tr (.var 3)) (.var 2) (.var 1)) [.im (.int cell),.im (.int w),.im (.int h),.im (.bl lv),.un,.un]=some (.int ext):=by subst h2; cases lv<;>simp only [zz,yy,aA,aB,tru]<;>rfl
  have e5:ev G (.ite (.tr (.var 3)) (.lst (.cons (.lit (.str "north")) (.cons (.lit (.str "south")) .nil))) (.lst (.cons (.lit (.str "west")) (.cons (.lit (.str "east")) .nil)))) [.im (.int cell),.im (.int w),.im (.int h),.im (.bl lv),.im (.int ext),.un]=some (.lst [.str a.str,.str b.str]):=by subst ha hb; cases lv<;>simp only [zz,yy,aA,aB,tru]<;>rfl
  rcases mod2 (cell / 2) with q|q
  ·refine ⟨a,(cell / 4 % 2 == 1),(1+cell / 8 % ((ext:Int)-1)).toNat,by omega,by rw [up_a]; omega,?_⟩
   refine aK (ρ:=[.im (.int cell),.im (.int w),.im (.int h),.un,.un,.un]) rfl (aE (aH (e3.trans (by rw [h1]))) (aE (aH e4) (aE (aH e5) (aR ?_))))
   show ev G _ [.im (.int cell),.im (.int w),.im (.int h),.im (.bl lv),.im (.int ext),.im (.lst [.str a.str,.str b.str])]=_
   simp only [zz,yy,aA,aB,d2,m2,q,s01,d4,d8,mx]
   unfold bI
   rw [hk]
  ·refine ⟨b,(cell / 4 % 2 == 1),(1+cell / 8 % ((ext:Int)-1)).toNat,by omega,by rw [up_b]; omega,?_⟩
   refine aK (ρ:=[.im (.int cell),.im (.int w),.im (.int h),.un,.un,.un]) rfl (aE (aH (e3.trans (by rw [h1]))) (aE (aH e4) (aE (aH e5) (aR ?_))))
   show ev G _ [.im (.int cell),.im (.int w),.im (.int h),.im (.bl lv),.im (.int ext),.im (.lst [.str a.str,.str b.str])]=_
   simp only [zz,yy,aA,aB,d2,m2,q,s11,d4,d8,mx]
   unfold bI
   rw [hk]
 cases hb:(((w:Int) == 1) || (decide (1<(h:Int))&&(cell % 2 == 1))) with
 | true =>
  refine fin true h .north .south hb rfl ?_ rfl rfl
  rw [Bool.or_eq_true,Bool.and_eq_true,beq_iff_eq,decide_eq_true_eq] at hb
  rcases hb with hb|hb
  ·have:w=1:=by omega
   subst this; omega
  ·omega
 | false =>
  refine fin false w .west .east hb rfl ?_ rfl rfl
  rw [Bool.or_eq_false_iff] at hb
  have:(w:Int)≠1:=by simpa using hb.1
  omega
end
end Pg
end Z
namespace Z
open PySem
theorem bS {s:Sl} {r:List Sl}:view (s::r)=cF s::view r:=id rfl
theorem SA {α β:Type} {f:α→β} {xs:List α} {a b:Option Int}:cut (xs.map f) a b=(cut xs a b).map f:=by
 unfold cut
 rw [List.length_map,List.map_take,List.map_drop]
theorem SB {α:Type} {xs:List α} {a b:Nat}:(cut xs (some (a:Int)) (some (b:Int))).length≤b-a:=by
 simp only [cut,sIx]
 rw [if_neg (by omega),if_neg (by omega)]
 refine Nat.le_trans (List.length_take_le _ _) ?_
 rw [Int.toNat_natCast,Int.toNat_natCast]
 generalize xs.length=n
 omega
namespace Pg
def Full (s:aW):Prop:=∀ h ∈ s,h≠[]
def jS (T:Table):Prop:=∀ s ∈ T,Full s
theorem getD_mem {s:aW} {k:Nat} (h:k<s.length):s.getD k [] ∈ s:=by
 rw [List.getD_eq_getElem?_getD,List.getElem?_eq_getElem h]
 exact List.getElem_mem h
theorem Full.turn {s:aW} {u:Bool} (h:Full s):Full (dE u s):=by
 intro x hx
 unfold dE at hx
 obtain ⟨y,hy,rfl⟩:=List.mem_map.mp hx
 unfold eA
 intro z
 exact h y hy (by simpa using z)
theorem Full.tog {u l:aW} (h1:Full u) (h2:Full l):Full (tog u l):=by
 intro x hx
 unfold Pg.tog at hx
 obtain ⟨k,hk,rfl⟩:=List.mem_map.mp hx
 have hk:=List.mem_range.mp hk
 intro z
 have z:=List.append_eq_nil_iff.mp z
 by_cases e:k<u.length
 ·exact h1 _ (getD_mem e) z.1
 ·exact h2 _ (getD_mem (by omega)) z.2
theorem Full.sub {s t:aW} (h:Full s) (q:∀ x ∈ t,x ∈ s):Full t:=fun x hx=>h x (q x hx)
theorem zA {sd:Side} {over:Bool} {c:Nat} {s:aW} (h:Full s):Full (bW sd over c s):=by
 have a1:Full (s.take c).reverse:=h.sub fun x hx=>List.mem_of_mem_take (List.mem_reverse.mp hx)
 have a2:Full (s.drop c):=h.sub fun x hx=>List.mem_of_mem_drop hx
 have t:∀ {u l:aW},Full u→Full l→Full (bM u l over):=fun {u l} p q=>by
  unfold bM
  cases over with
  | true=>exact p.tog q
  | false=>exact q.tog p
 unfold bW
 split
 ·exact t a1.turn a2
 ·exact (t a2.turn a1).sub fun x hx=>List.mem_reverse.mp hx
theorem jS.transp {T:Table} {w h:Nat} (r:Rect T w h) (f:jS T):jS (transp T):=by
 intro s hs
 unfold Pg.transp at hs
 obtain ⟨x,hx,rfl⟩:=List.mem_map.mp hs
 have hx:=List.mem_range.mp hx
 intro y hy
 obtain ⟨t,ht,rfl⟩:=List.mem_map.mp hy
 exact f t ht _ (getD_mem (by rw [r.row t ht,← r.width]; exact hx))
theorem jS.foldT {T:Table} {w h:Nat} {sd:Side} {over:Bool} {c:Nat} (r:Rect T w h) (f:jS T) (h1:1≤c) (h2:c<if sd.up then w else h):jS (foldT sd over c T):=by
 have g:∀ {U:Table},jS U→jS (U.map (bW sd over c)):=fun {U} q s hs=>by
  obtain ⟨s',hs',rfl⟩:=List.mem_map.mp hs
  exact zA (q s' hs')
 unfold Pg.foldT
 cases hu:sd.up with
 | true=>exact g f
 | false =>
  rw [hu] at h2
  exact (g (f.transp r)).transp (r.transp.fold h1 h2)
theorem FI {c r:Nat}:jS (eW c r):=by
 intro s hs
 unfold eW at hs
 obtain ⟨y,_,rfl⟩:=List.mem_map.mp hs
 intro h hh
 obtain ⟨x,_,rfl⟩:=List.mem_map.mp hh
 exact List.cons_ne_nil _ _
end Pg
end Z
namespace Z
open PySem
namespace Pg
structure Spot where
 x:Nat
 y:Nat
 z:Int
 e:Bool
 n:Bool
noncomputable def hAt (T:Table) (x y:Nat):cV:=(T.getD y []).getD x []
noncomputable def zAt (sp:List Spot) (k:Int):Int:=match sp[k.toNat]? with
 | some s=>s.z
 | none=>0
structure Lk (T:Table) (sp:List Spot):Prop where
 mem:∀ (x y:Nat) (c:Cell),c ∈ hAt T x y↔∃ (i:Nat) (s:Spot),sp[i]?=some s∧s.x=x∧s.y=y∧c=((i:Int),s.e,s.n)
 ord:∀ x y:Nat,(hAt T x y).Pairwise (fun a b=>zAt sp b.1<zAt sp a.1)
def Spot.al (up:Bool) (s:Spot):Nat:=if up then s.x else s.y
def Spot.ac (up:Bool) (s:Spot):Nat:=if up then s.y else s.x
def iC (c p:Nat):Nat:=if c≤p then p-c else c-1-p
def cC (nr:Bool) (c gr p:Nat):Nat:=if nr then iC c p else gr-1-iC c p
def moves (nr:Bool) (c p:Nat):Bool:=decide (c≤p) != nr
noncomputable def aV (sd:Side) (over:Bool) (c gr:Nat) (top low:Int) (s:Spot):Spot:=
 {x:=if sd.up then cC sd.near c gr (s.al sd.up) else s.x
  y:=if sd.up then s.y else cC sd.near c gr (s.al sd.up)
  z:=if moves sd.near c (s.al sd.up) then (if over then 2*top+1-s.z else 2*low-1-s.z) else s.z
  e:=if moves sd.near c (s.al sd.up)&&sd.up then !s.e else s.e
  n:=if moves sd.near c (s.al sd.up)&&!sd.up then !s.n else s.n }
theorem kE {sd:Side} {over:Bool} {c gr:Nat} {top low:Int} {s:Spot}:(aV sd over c gr top low s).al sd.up=cC sd.near c gr (s.al sd.up):=by
 unfold aV Spot.al
 cases sd.up<;>rfl
theorem nN {sd:Side} {over:Bool} {c gr:Nat} {top low:Int} {s:Spot}:(aV sd over c gr top low s).ac sd.up=s.ac sd.up:=by
 unfold aV Spot.ac
 cases sd.up<;>rfl
noncomputable def hA (up:Bool) (T:Table) (p q:Nat):cV:=if up then hAt T p q else hAt T q p
theorem getD_map {α β:Type} {f:α→β} {l:List α} {k:Nat} {d:β} {d':α} (h:f d'=d):(l.map f).getD k d=f (l.getD k d'):=by
 rw [List.getD_eq_getElem?_getD,List.getD_eq_getElem?_getD,List.getElem?_map]
 cases l[k]?<;>simp [h]
theorem getD_none {α:Type} {l:List α} {k:Nat} {d:α} (h:l.length≤k):l.getD k d=d:=by
 rw [List.getD_eq_getElem?_getD,List.getElem?_eq_none h]; rfl
theorem pN {u:Bool}:eA u []=[]:=rfl
theorem vA {s:aW} {c k:Nat} (hc:c≤s.length):(s.take c).reverse.getD k []=if k<c then s.getD (c-1-k) [] else []:=by
 by_cases h:k<c
 ·rw [if_pos h,List.getD_eq_getElem?_getD,List.getElem?_reverse (by rw [List.length_take]; omega),List.length_take,Nat.min_eq_left hc,List.getElem?_take,if_pos (by omega),List.getD_eq_getElem?_getD]
 ·rw [if_neg h]
  exact getD_none (by rw [List.length_reverse,List.length_take]; omega)
theorem CI {s:aW} {c k:Nat}:(s.drop c).getD k []=s.getD (c+k) []:=by
 rw [List.getD_eq_getElem?_getD,List.getElem?_drop,List.getD_eq_getElem?_getD]
theorem GH {u l:aW} {k:Nat}:(tog u l).getD k []=u.getD k []++l.getD k []:=by
 by_cases h:k<max u.length l.length
 ·unfold tog
  rw [List.getD_eq_getElem?_getD,List.getElem?_map,List.getElem?_range h]; rfl
 ·rw [getD_none (by rw [rK]; omega),getD_none (by omega),getD_none (by omega)]; rfl
noncomputable def pZ (over:Bool) (m s:cV):cV:=if over then m++s else s++m
theorem lW {m s:aW} {over:Bool} {k:Nat}:(bM m s over).getD k []=pZ over (m.getD k []) (s.getD k []):=by
 unfold bM pZ
 cases over
 ·exact GH
 ·exact GH
theorem uR {u:Bool} {p:aW} {k:Nat}:(dE u p).getD k []=eA u (p.getD k []):=by unfold dE; exact getD_map pN
noncomputable def loP (c g:Nat) (s:Nat→cV):cV:=if g<c then s (c-1-g) else []
noncomputable def yE (sd:Side) (over:Bool) (c g:Nat) (s:Nat→cV):cV:=pZ over (eA sd.up (if sd.near then loP c g s else s (c+g))) (if sd.near then s (c+g) else loP c g s)
theorem JU {sd:Side} {over:Bool} {c:Nat} {s:aW} (hc:c≤s.length) {k:Nat} (hk:k<max c (s.length-c)) :
  (bW sd over c s).getD k []=yE sd over c (if sd.near then k else max c (s.length-c)-1-k) fun j=>s.getD j []:=by
 unfold bW yE loP
 cases hn:sd.near with
 | true =>
  simp only [if_true]
  rw [lW,uR,vA hc,CI]
 | false =>
  simp only [Bool.false_eq_true,if_false]
  have hl:(bM (dE sd.up (s.drop c)) (s.take c).reverse over).length=max c (s.length-c):=by
   rw [gU,gH,List.length_reverse,List.length_take,List.length_drop,Nat.min_eq_left hc,Nat.max_comm]
  rw [List.getD_eq_getElem?_getD,List.getElem?_reverse (by rw [hl]; exact hk),hl,← List.getD_eq_getElem?_getD,lW,uR,vA hc,CI]
theorem pO {T:Table} {w h:Nat} (r:Rect T w h) {x y:Nat}:hAt (transp T) x y=hAt T y x:=by
 unfold hAt
 by_cases hy:y<w
 ·have e1:(transp T).getD y []=T.map fun s=>s.getD y []:=by
   unfold transp
   rw [r.width,List.getD_eq_getElem?_getD,List.getElem?_map,List.getElem?_range hy]; rfl
  rw [e1]
  exact getD_map (f:=fun s:aW=>s.getD y []) (by simp)
 ·rw [show (transp T).getD y []=[] from getD_none (by unfold transp; rw [List.length_map,List.length_range,r.width]; omega)]
  rw [show ([]:aW).getD x []=[] by simp]
  by_cases hx:x<T.length
  ·have hm:T.getD x [] ∈ T:=by rw [List.getD_eq_getElem?_getD,List.getElem?_eq_getElem hx]; exact List.getElem_mem hx
   rw [getD_none (by rw [r.row _ hm]; omega)]
  ·rw [getD_none (l:=T) (by omega)]; simp
def ext (sd:Side) (w h:Nat):Nat:=if sd.up then w else h
theorem yU {T:Table} {w h:Nat} (r:Rect T w h) {sd:Side} {p q:Nat} (hp:ext sd w h≤p):hA sd.up T p q=[]:=by
 unfold hA
 unfold ext at hp
 unfold hAt
 cases hu:sd.up with
 | true =>
  rw [hu] at hp
  simp only [if_true] at hp ⊢
  by_cases hq:q<T.length
  ·have hm:T.getD q [] ∈ T:=by rw [List.getD_eq_getElem?_getD,List.getElem?_eq_getElem hq]; exact List.getElem_mem hq
   exact getD_none (by rw [r.row _ hm]; exact hp)
  ·rw [getD_none (l:=T) (by omega)]; simp
 | false =>
  rw [hu] at hp
  simp only [Bool.false_eq_true,if_false] at hp ⊢
  rw [getD_none (l:=T) (by rw [r.len]; exact hp)]; simp
theorem AU {T:Table} {w h:Nat} (r:Rect T w h) {sd:Side} {over:Bool} {c:Nat} (h1:1≤c) (h2:c<ext sd w h) {p q:Nat} (hp:p<max c (ext sd w h-c)) :
  hA sd.up (foldT sd over c T) p q=yE sd over c (if sd.near then p else max c (ext sd w h-c)-1-p) fun j=>hA sd.up T j q:=by
 have key:∀ {U:Table} {w h:Nat},Rect U w h→c<w→∀ {p q:Nat},p<max c (w-c)→hAt (U.map (bW sd over c)) p q=yE sd over c (if sd.near then p else max c (w-c)-1-p) fun j=>hAt U j q:=by
  intro U w h r h2 p q hp
  unfold hAt
  by_cases hq:q<U.length
  ·have hm:U.getD q [] ∈ U:=by rw [List.getD_eq_getElem?_getD,List.getElem?_eq_getElem hq]; exact List.getElem_mem hq
   have hw:=r.row _ hm
   have e1:(U.map (bW sd over c)).getD q []=bW sd over c (U.getD q []):=by
    rw [List.getD_eq_getElem?_getD,List.getElem?_map,List.getD_eq_getElem?_getD,List.getElem?_eq_getElem hq]; rfl
   rw [e1,JU (by omega) (by rw [hw]; exact hp),hw]
  ·rw [getD_none (l:=U.map (bW sd over c)) (by rw [List.length_map]; omega),getD_none (l:=U) (by omega)]
   unfold yE loP pZ
   simp [pN]
 unfold hA foldT
 unfold ext at h2 hp ⊢
 cases hu:sd.up with
 | true =>
  rw [hu] at h2 hp
  simp only [if_true] at h2 hp ⊢
  exact key r h2 hp
 | false =>
  rw [hu] at h2 hp
  simp only [Bool.false_eq_true,if_false] at h2 hp ⊢
  rw [pO (r.transp.fold h1 h2),key r.transp h2 hp]
  congr 1
  funext j
  exact pO r
theorem sL {c p ex:Nat} (h1:1≤c) (hp:p<ex):iC c p<max c (ex-c):=by
 unfold iC
 split<;>omega
theorem place_lt {nr:Bool} {c p ex:Nat} (h1:1≤c) (hp:p<ex):cC nr c (max c (ex-c)) p<max c (ex-c):=by
 have:=sL h1 hp
 unfold cC
 split<;>omega
theorem rJ {u:Bool} {c:Cell}:(fV u c).1=c.1:=by unfold fV; cases u<;>rfl
theorem vO {u:Bool} {h:cV} {c:Cell}:c ∈ eA u h↔fV u c ∈ h:=by
 have inv:∀ d:Cell,fV u (fV u d)=d:=fun d=>by unfold fV; cases u<;>simp
 unfold eA
 rw [List.mem_map]
 constructor
 ·rintro ⟨d,hd,rfl⟩
  rw [inv]; exact List.mem_reverse.mp hd
 ·intro hc
  exact ⟨_,List.mem_reverse.mpr hc,inv c⟩
theorem zO {sp:List Spot} {f:Spot→Spot} {i:Nat} {s:Spot} (h:sp[i]?=some s):zAt (sp.map f) (i:Int)=(f s).z:=by
 unfold zAt
 rw [Int.toNat_natCast,List.getElem?_map,h]; rfl
theorem qX {sp:List Spot} {i:Nat} {s:Spot} (h:sp[i]?=some s):zAt sp (i:Int)=s.z:=by
 unfold zAt
 rw [Int.toNat_natCast,h]
section
variable {T:Table}{w h:Nat}{sp:List Spot}
theorem Lk.memA (L:Lk T sp) (up:Bool) {p q:Nat} {c:Cell}:c ∈ hA up T p q↔∃ (i:Nat) (s:Spot),sp[i]?=some s∧s.al up=p∧s.ac up=q∧c=((i:Int),s.e,s.n):=by
 unfold hA Spot.al Spot.ac
 cases up with
 | true=>exact L.mem p q c
 | false =>
  refine (L.mem q p c).trans ⟨fun ⟨i,s,a,b,d,e⟩=>⟨i,s,a,d,b,e⟩,fun ⟨i,s,a,b,d,e⟩=>⟨i,s,a,d,b,e⟩⟩
theorem Lk.of {up:Bool} (h1:∀ (p q:Nat) (c:Cell),c ∈ hA up T p q↔∃ (i:Nat) (s:Spot),sp[i]?=some s∧s.al up=p∧s.ac up=q∧c=((i:Int),s.e,s.n)) (h2:∀ p q:Nat,(hA up T p q).Pairwise (fun a b=>zAt sp b.1<zAt sp a.1)):Lk T sp:=by
 cases up with
 | true=>exact ⟨h1,h2⟩
 | false=>exact ⟨fun x y c=>(h1 y x c).trans ⟨fun ⟨i,s,a,b,d,e⟩=>⟨i,s,a,d,b,e⟩,fun ⟨i,s,a,b,d,e⟩=>⟨i,s,a,d,b,e⟩⟩,fun x y=>h2 y x⟩
theorem Lk.al_lt (L:Lk T sp) (r:Rect T w h) (sd:Side) {i:Nat} {s:Spot} (e:sp[i]?=some s):s.al sd.up<ext sd w h:=by
 refine Nat.lt_of_not_le fun z=>?_
 have:=(L.memA sd.up (p:=s.al sd.up) (q:=s.ac sd.up) (c:=((i:Int),s.e,s.n))).mpr ⟨i,s,e,rfl,rfl,rfl⟩
 rw [yU r z] at this
 cases this
theorem Lk.fold (L:Lk T sp) (r:Rect T w h) {sd:Side} {over:Bool} {c:Nat} {top low:Int} (h1:1≤c) (h2:c<ext sd w h) (ht:∀ s ∈ sp,s.z≤top) (hl:∀ s ∈ sp,low≤s.z) :
  Lk (foldT sd over c T) (sp.map (aV sd over c (max c (ext sd w h-c)) top low)):=by
 have get:∀ {i:Nat} {s':Spot},(sp.map (aV sd over c (max c (ext sd w h-c)) top low))[i]?=some s'→∃ s,sp[i]?=some s∧s'=aV sd over c (max c (ext sd w h-c)) top low s:=fun {i s'} e=>by
  rw [List.getElem?_map] at e
  obtain ⟨s,a,b⟩:=Option.map_eq_some_iff.mp e
  exact ⟨s,a,b.symm⟩
 have mvP:∀ {p' p:Nat},p'<ext sd w h→cC sd.near c (max c (ext sd w h-c)) p'=p→moves sd.near c p'=true→p<max c (ext sd w h-c) →
   p'=(if sd.near then c-1-p else c+(max c (ext sd w h-c)-1-p))∧(sd.near=true→p<c):=by
  intro p' p q0 q1 q2 q3
  have:=sL h1 q0
  unfold moves at q2
  unfold cC at q1
  cases hn:sd.near with
  | true =>
   rw [hn] at q1 q2
   simp only [if_true] at q1 ⊢
   simp only [bne_iff_ne,ne_eq,decide_eq_true_eq] at q2
   unfold iC at q1
   rw [if_neg q2] at q1
   exact ⟨by omega,fun _=>by omega⟩
  | false =>
   rw [hn] at q1 q2
   simp only [Bool.false_eq_true,if_false] at q1 ⊢
   simp only [bne_iff_ne,ne_eq,decide_eq_false_iff_not,Classical.not_not] at q2
   unfold iC at q1 this
   rw [if_pos q2] at q1 this
   exact ⟨by omega,fun z=>absurd z (by decide)⟩
 have stP:∀ {p' p:Nat},p'<ext sd w h→cC sd.near c (max c (ext sd w h-c)) p'=p→moves sd.near c p'=false→p<max c (ext sd w h-c) →
   p'=(if sd.near then c+p else c-1-(max c (ext sd w h-c)-1-p))∧(sd.near=false→max c (ext sd w h-c)-1-p<c):=by
  intro p' p q0 q1 q2 q3
  have:=sL h1 q0
  unfold moves at q2
  unfold cC at q1
  cases hn:sd.near with
  | true =>
   rw [hn] at q1 q2
   simp only [if_true] at q1 ⊢
   simp only [bne_eq_false_iff_eq,decide_eq_true_eq] at q2
   unfold iC at q1
   rw [if_pos q2] at q1
   exact ⟨by omega,fun z=>absurd z (by decide)⟩
  | false =>
   rw [hn] at q1 q2
   simp only [Bool.false_eq_true,if_false] at q1 ⊢
   simp only [bne_eq_false_iff_eq,decide_eq_false_iff_not] at q2
   unfold iC at q1 this
   rw [if_neg q2] at q1 this
   exact ⟨by omega,fun _=>by omega⟩
 have bk:∀ {p' p:Nat},p<max c (ext sd w h-c)→p'<ext sd w h→(p'=(if sd.near then c-1-p else c+(max c (ext sd w h-c)-1-p))∧(sd.near=true→p<c)→moves sd.near c p'=true∧cC sd.near c (max c (ext sd w h-c)) p'=p) ∧
   (p'=(if sd.near then c+p else c-1-(max c (ext sd w h-c)-1-p))∧(sd.near=false→max c (ext sd w h-c)-1-p<c)→moves sd.near c p'=false∧cC sd.near c (max c (ext sd w h-c)) p'=p):=by
  intro p' p q3 q0
  unfold moves cC iC
  cases hn:sd.near with
  | true =>
   simp only [if_true]
   refine ⟨fun ⟨a,b⟩=>?_,fun ⟨a,b⟩=>?_⟩
   ·have:=b trivial
    have z:¬ c≤p':=by omega
    rw [decide_eq_false z,if_neg z]
    exact ⟨rfl,by omega⟩
   ·have z:c≤p':=by omega
    rw [decide_eq_true z,if_pos z]
    exact ⟨rfl,by omega⟩
  | false =>
   simp only [Bool.false_eq_true,if_false]
   refine ⟨fun ⟨a,b⟩=>?_,fun ⟨a,b⟩=>?_⟩
   ·have z:c≤p':=by omega
    rw [decide_eq_true z,if_pos z]
    exact ⟨rfl,by omega⟩
   ·have:=b trivial
    have z:¬ c≤p':=by omega
    rw [decide_eq_false z,if_neg z]
    exact ⟨rfl,by omega⟩
 have mvI:∀ {p q:Nat} {d:Cell},p<max c (ext sd w h-c)→(d ∈ (if sd.near then loP c (if sd.near then p else max c (ext sd w h-c)-1-p) (fun j=>hA sd.up T j q) else hA sd.up T (c+(if sd.near then p else max c (ext sd w h-c)-1-p)) q) ↔
   ∃ (i:Nat) (s:Spot),sp[i]?=some s∧moves sd.near c (s.al sd.up)=true∧cC sd.near c (max c (ext sd w h-c)) (s.al sd.up)=p∧s.ac sd.up=q∧d=((i:Int),s.e,s.n)):=by
  intro p q d hp
  constructor
  ·intro hd
   have:∃ p',d ∈ hA sd.up T p' q∧p'=(if sd.near then c-1-p else c+(max c (ext sd w h-c)-1-p))∧(sd.near=true→p<c):=by
    cases hn:sd.near with
    | true =>
     rw [hn] at hd
     simp only [if_true,loP] at hd
     by_cases hq:p<c
     ·rw [if_pos hq] at hd; exact ⟨_,hd,rfl,fun _=>hq⟩
     ·rw [if_neg hq] at hd; cases hd
    | false =>
     rw [hn] at hd
     simp only [Bool.false_eq_true,if_false] at hd
     exact ⟨_,hd,rfl,fun z=>absurd z (by decide)⟩
   obtain ⟨p',hd,e1,e2⟩:=this
   obtain ⟨i,s,a1,a2,a3,a4⟩:=(L.memA sd.up).mp hd
   have b:=(bk (p':=p') hp (by rw [← a2]; exact L.al_lt r sd a1)).1 ⟨e1,e2⟩
   rw [← a2] at b
   exact ⟨i,s,a1,b.1,b.2,a3,a4⟩
  ·rintro ⟨i,s,a1,a2,a3,a4,a5⟩
   have b:=mvP (L.al_lt r sd a1) a3 a2 hp
   have hd:=(L.memA sd.up (p:=s.al sd.up) (q:=q) (c:=d)).mpr ⟨i,s,a1,rfl,a4,a5⟩
   rw [b.1] at hd
   cases hn:sd.near with
   | true =>
    rw [hn] at hd b
    simp only [if_true,loP] at hd ⊢
    rw [if_pos (b.2 rfl)]; exact hd
   | false =>
    rw [hn] at hd
    simp only [Bool.false_eq_true,if_false] at hd ⊢
    exact hd
 have stI:∀ {p q:Nat} {d:Cell},p<max c (ext sd w h-c)→(d ∈ (if sd.near then hA sd.up T (c+(if sd.near then p else max c (ext sd w h-c)-1-p)) q else loP c (if sd.near then p else max c (ext sd w h-c)-1-p) (fun j=>hA sd.up T j q)) ↔
   ∃ (i:Nat) (s:Spot),sp[i]?=some s∧moves sd.near c (s.al sd.up)=false∧cC sd.near c (max c (ext sd w h-c)) (s.al sd.up)=p∧s.ac sd.up=q∧d=((i:Int),s.e,s.n)):=by
  intro p q d hp
  constructor
  ·intro hd
   have:∃ p',d ∈ hA sd.up T p' q∧p'=(if sd.near then c+p else c-1-(max c (ext sd w h-c)-1-p))∧(sd.near=false→max c (ext sd w h-c)-1-p<c):=by
    cases hn:sd.near with
    | true =>
     rw [hn] at hd
     simp only [if_true] at hd
     exact ⟨_,hd,rfl,fun z=>absurd z (by decide)⟩
    | false =>
     rw [hn] at hd
     simp only [Bool.false_eq_true,if_false,loP] at hd
     by_cases hq:max c (ext sd w h-c)-1-p<c
     ·rw [if_pos hq] at hd; exact ⟨_,hd,rfl,fun _=>hq⟩
     ·rw [if_neg hq] at hd; cases hd
   obtain ⟨p',hd,e1,e2⟩:=this
   obtain ⟨i,s,a1,a2,a3,a4⟩:=(L.memA sd.up).mp hd
   have b:=(bk (p':=p') hp (by rw [← a2]; exact L.al_lt r sd a1)).2 ⟨e1,e2⟩
   rw [← a2] at b
   exact ⟨i,s,a1,b.1,b.2,a3,a4⟩
  ·rintro ⟨i,s,a1,a2,a3,a4,a5⟩
   have b:=stP (L.al_lt r sd a1) a3 a2 hp
   have hd:=(L.memA sd.up (p:=s.al sd.up) (q:=q) (c:=d)).mpr ⟨i,s,a1,rfl,a4,a5⟩
   rw [b.1] at hd
   cases hn:sd.near with
   | true =>
    rw [hn] at hd
    simp only [if_true] at hd ⊢
    exact hd
   | false =>
    rw [hn] at hd b
    simp only [Bool.false_eq_true,if_false,loP] at hd ⊢
    rw [if_pos (b.2 rfl)]; exact hd
 refine Lk.of (up:=sd.up) (fun p q d=>?_) fun p q=>?_
 ·by_cases hp:p<max c (ext sd w h-c)
  ·rw [AU r h1 h2 hp]
   unfold yE pZ
   have sw:∀ a b:cV,d ∈ (if over then a++b else b++a)↔d ∈ a∨d ∈ b:=fun a b=>by cases over<;>simp [or_comm]
   rw [sw,vO,mvI hp,stI hp]
   constructor
   ·rintro (⟨i,s,a1,a2,a3,a4,a5⟩|⟨i,s,a1,a2,a3,a4,a5⟩)
    ·refine ⟨i,aV sd over c (max c (ext sd w h-c)) top low s,by rw [List.getElem?_map,a1]; rfl,by rw [kE]; exact a3,by rw [nN]; exact a4,?_⟩
     have inv:d=fV sd.up (fV sd.up d):=by unfold fV; cases sd.up<;>simp
     rw [inv,a5]
     unfold fV aV
     dsimp only
     rw [a2]
     cases sd.up<;>rfl
    ·refine ⟨i,aV sd over c (max c (ext sd w h-c)) top low s,by rw [List.getElem?_map,a1]; rfl,by rw [kE]; exact a3,by rw [nN]; exact a4,?_⟩
     rw [a5]
     unfold aV
     dsimp only
     rw [a2]
     rfl
   ·rintro ⟨i,s',a1,a2,a3,a4⟩
    obtain ⟨s,e1,rfl⟩:=get a1
    rw [kE] at a2
    rw [nN] at a3
    cases hm:moves sd.near c (s.al sd.up) with
    | true =>
     refine .inl ⟨i,s,e1,hm,a2,a3,?_⟩
     rw [a4]
     unfold fV aV
     dsimp only
     rw [hm]
     cases sd.up<;>simp
    | false =>
     refine .inr ⟨i,s,e1,hm,a2,a3,?_⟩
     rw [a4]
     unfold aV
     dsimp only
     rw [hm]
     rfl
  ·constructor
   ·intro hd
    have r':=r.foldT (over:=over) h1 h2
    rw [yU r' (by unfold ext; unfold ext at hp; cases hu:sd.up<;>rw [hu] at hp<;>simp only [if_true,Bool.false_eq_true,if_false] at hp ⊢<;>omega)] at hd
    cases hd
   ·rintro ⟨i,s',a1,a2,a3,a4⟩
    obtain ⟨s,e1,rfl⟩:=get a1
    rw [kE] at a2
    exact absurd (a2 ▸ place_lt h1 (L.al_lt r sd e1)) hp
 ·by_cases hp:p<max c (ext sd w h-c)
  ·rw [AU r h1 h2 hp]
   unfold yE
   have ordA:∀ j,(hA sd.up T j q).Pairwise (fun a b=>zAt sp b.1<zAt sp a.1):=fun j=>by
    unfold hA
    cases sd.up
    ·exact L.ord q j
    ·exact L.ord j q
   have ordL:∀ g,(loP c g fun j=>hA sd.up T j q).Pairwise (fun a b=>zAt sp b.1<zAt sp a.1):=fun g=>by
    unfold loP
    split
    ·exact ordA _
    ·exact List.Pairwise.nil
   have mvZ:∀ {d:Cell},d ∈ (if sd.near then loP c (if sd.near then p else max c (ext sd w h-c)-1-p) (fun j=>hA sd.up T j q) else hA sd.up T (c+(if sd.near then p else max c (ext sd w h-c)-1-p)) q) →
     zAt (sp.map (aV sd over c (max c (ext sd w h-c)) top low)) d.1=(if over then 2*top+1-zAt sp d.1 else 2*low-1-zAt sp d.1)∧zAt sp d.1≤top∧low≤zAt sp d.1:=fun {d} hd=>by
    obtain ⟨i,s,a1,a2,a3,a4,a5⟩:=(mvI hp).mp hd
    rw [a5]
    dsimp only
    rw [zO a1,qX a1]
    refine ⟨?_,ht s (List.mem_of_getElem? a1),hl s (List.mem_of_getElem? a1)⟩
    unfold aV
    dsimp only
    rw [a2]; rfl
   have stZ:∀ {d:Cell},d ∈ (if sd.near then hA sd.up T (c+(if sd.near then p else max c (ext sd w h-c)-1-p)) q else loP c (if sd.near then p else max c (ext sd w h-c)-1-p) (fun j=>hA sd.up T j q)) →
     zAt (sp.map (aV sd over c (max c (ext sd w h-c)) top low)) d.1=zAt sp d.1∧zAt sp d.1≤top∧low≤zAt sp d.1:=fun {d} hd=>by
    obtain ⟨i,s,a1,a2,a3,a4,a5⟩:=(stI hp).mp hd
    rw [a5]
    dsimp only
    rw [zO a1,qX a1]
    refine ⟨?_,ht s (List.mem_of_getElem? a1),hl s (List.mem_of_getElem? a1)⟩
    unfold aV
    dsimp only
    rw [a2]; rfl
   have mvO:(if sd.near then loP c (if sd.near then p else max c (ext sd w h-c)-1-p) (fun j=>hA sd.up T j q) else hA sd.up T (c+(if sd.near then p else max c (ext sd w h-c)-1-p)) q).Pairwise (fun a b=>zAt sp b.1<zAt sp a.1):=by
    split
    ·exact ordL _
    ·exact ordA _
   have stO:(if sd.near then hA sd.up T (c+(if sd.near then p else max c (ext sd w h-c)-1-p)) q else loP c (if sd.near then p else max c (ext sd w h-c)-1-p) (fun j=>hA sd.up T j q)).Pairwise (fun a b=>zAt sp b.1<zAt sp a.1):=by
    split
    ·exact ordA _
    ·exact ordL _
   generalize (if sd.near then loP c (if sd.near then p else max c (ext sd w h-c)-1-p) (fun j=>hA sd.up T j q) else hA sd.up T (c+(if sd.near then p else max c (ext sd w h-c)-1-p)) q)=mv at *
   generalize (if sd.near then hA sd.up T (c+(if sd.near then p else max c (ext sd w h-c)-1-p)) q else loP c (if sd.near then p else max c (ext sd w h-c)-1-p) (fun j=>hA sd.up T j q))=st at *
   have mvO':(eA sd.up mv).Pairwise (fun a b=>zAt (sp.map (aV sd over c (max c (ext sd w h-c)) top low)) b.1<zAt (sp.map (aV sd over c (max c (ext sd w h-c)) top low)) a.1):=by
    unfold eA
    rw [List.pairwise_map,List.pairwise_reverse]
    refine mvO.imp_of_mem fun {a b} ha hb k=>?_
    rw [rJ,rJ,(mvZ ha).1,(mvZ hb).1]
    split<;>omega
   have stO':st.Pairwise (fun a b=>zAt (sp.map (aV sd over c (max c (ext sd w h-c)) top low)) b.1<zAt (sp.map (aV sd over c (max c (ext sd w h-c)) top low)) a.1):=
    stO.imp_of_mem fun {a b} ha hb k=>by rw [(stZ ha).1,(stZ hb).1]; exact k
   have mvM:∀ {d:Cell},d ∈ eA sd.up mv→zAt (sp.map (aV sd over c (max c (ext sd w h-c)) top low)) d.1=(if over then 2*top+1-zAt sp d.1 else 2*low-1-zAt sp d.1)∧zAt sp d.1≤top∧low≤zAt sp d.1:=fun {d} hd=>by
    have:=mvZ (vO.mp hd)
    rw [rJ] at this
    exact this
   unfold pZ
   cases over with
   | true =>
    refine List.pairwise_append.mpr ⟨mvO',stO',fun a ha b hb=>?_⟩
    have k1:=mvM ha
    have k2:=stZ hb
    rw [k1.1,k2.1]
    simp only [if_true]
    omega
   | false =>
    refine List.pairwise_append.mpr ⟨stO',mvO',fun a ha b hb=>?_⟩
    have k1:=mvM hb
    have k2:=stZ ha
    rw [k1.1,k2.1]
    simp only [Bool.false_eq_true,if_false]
    omega
  ·have r':=r.foldT (over:=over) h1 h2
   rw [yU r' (by unfold ext; unfold ext at hp; cases hu:sd.up<;>rw [hu] at hp<;>simp only [if_true,Bool.false_eq_true,if_false] at hp ⊢<;>omega)]
   exact List.Pairwise.nil
end
end Pg
end Z
namespace Z
open PySem
theorem eM {x y:Int × Int}:pLt x y=true↔x.1<y.1∨(x.1=y.1∧x.2<y.2):=by
 unfold pLt
 simp only [Bool.or_eq_true,Bool.and_eq_true,decide_eq_true_eq,beq_iff_eq]
theorem mT {x y:Int × Int}:pLt x y=false↔¬ (x.1<y.1∨(x.1=y.1∧x.2<y.2)):=by rw [← eM,Bool.not_eq_true]
theorem lP (x:Int × Int):∀ l:List (Int × Int),(yS x l).Perm (x::l)
 | []=>List.Perm.refl _
 | y::r=>by
  unfold yS
  split
  ·exact List.Perm.refl _
  ·exact ((lP x r).cons y).trans (List.Perm.swap x y r)
theorem gW:∀ l:List (Int × Int),(jN l).Perm l
 | []=>List.Perm.refl _
 | x::r=>(lP x _).trans ((gW r).cons x)
theorem mD {x:Int × Int}:∀ {l:List (Int × Int)},l.Pairwise (fun a b=>pLt a b=true)→x ∉ l→(yS x l).Pairwise (fun a b=>pLt a b=true)
 | [],_,_=>by unfold yS; simp
 | y::r,h,n=>by
  obtain ⟨h1,h2⟩:=List.pairwise_cons.mp h
  unfold yS
  split
  ·rename_i e
   refine List.pairwise_cons.mpr ⟨fun z hz=>?_,h⟩
   rcases List.mem_cons.mp hz with rfl|hz
   ·exact e
   ·have:=h1 z hz
    rw [eM] at this e ⊢
    omega
  ·rename_i e
   rw [Bool.not_eq_true] at e
   refine List.pairwise_cons.mpr ⟨fun z hz=>?_,mD h2 fun z=>n (List.mem_cons_of_mem _ z)⟩
   rcases List.mem_cons.mp ((lP x r).mem_iff.mp hz) with rfl|hz
   ·have hne:z≠y:=fun q=>n (by rw [q]; simp)
    rw [mT] at e
    rw [eM]
    have:¬ (z.1=y.1∧z.2=y.2):=fun q=>hne (Prod.ext q.1 q.2)
    omega
   ·exact h1 z hz
theorem kF:∀ {l:List (Int × Int)},l.Nodup→(jN l).Pairwise (fun a b=>pLt a b=true)
 | [],_=>List.Pairwise.nil
 | x::r,h=>by
  obtain ⟨h1,h2⟩:=List.nodup_cons.mp h
  exact mD (kF h2) fun z=>h1 ((gW r).mem_iff.mp z)
theorem uZ {l m:List (Int × Int)} (p:m.Perm l) (h:m.Pairwise (fun a b=>pLt a b=true)):m=jN l:=by
 have nd:m.Nodup:=h.imp fun {a b} e q=>by subst q; rw [eM] at e; omega
 exact List.Perm.eq_of_pairwise (fun a b _ _ e1 e2=>by rw [eM] at e1 e2; omega) h (kF (p.nodup_iff.mp nd)) (p.trans (gW l).symm)
theorem jE:∀ (r:List Int) (m:Int),(jL m r=m∨jL m r ∈ r)∧m≤jL m r∧∀ a ∈ r,a≤jL m r
 | [],m=>⟨.inl rfl,Int.le_refl _,fun a h=>by simp at h⟩
 | x::r,m=>by
  obtain ⟨h1,h2,h3⟩:=jE r (if x > m then x else m)
  show (jL (if x > m then x else m) r=m∨_)∧m≤jL (if x > m then x else m) r∧_
  have e:jL m (x::r)=jL (if x > m then x else m) r:=rfl
  rw [e]
  refine ⟨?_,?_,fun a ha=>?_⟩
  ·rcases h1 with h|h
   ·split at h
    ·rename_i hx; rw [if_pos hx,h]; exact .inr (by simp)
    ·rename_i hx; rw [if_neg hx,h]; exact .inl rfl
   ·exact .inr (List.mem_cons_of_mem _ h)
  ·split at h2
   ·rename_i hx; rw [if_pos hx]; omega
   ·rename_i hx; rw [if_neg hx]; exact h2
  ·rcases List.mem_cons.mp ha with rfl|ha
   ·split at h2
    ·rename_i hx; rw [if_pos hx]; exact h2
    ·rename_i hx; rw [if_neg hx]; omega
   ·exact h3 a ha
theorem lL:∀ (r:List Int) (m:Int),(mM m r=m∨mM m r ∈ r)∧mM m r≤m∧∀ a ∈ r,mM m r≤a
 | [],m=>⟨.inl rfl,Int.le_refl _,fun a h=>by simp at h⟩
 | x::r,m=>by
  obtain ⟨h1,h2,h3⟩:=lL r (if x<m then x else m)
  have e:mM m (x::r)=mM (if x<m then x else m) r:=rfl
  rw [e]
  refine ⟨?_,?_,fun a ha=>?_⟩
  ·rcases h1 with h|h
   ·split at h
    ·rename_i hx; rw [if_pos hx,h]; exact .inr (by simp)
    ·rename_i hx; rw [if_neg hx,h]; exact .inl rfl
   ·exact .inr (List.mem_cons_of_mem _ h)
  ·split at h2
   ·rename_i hx; rw [if_pos hx]; omega
   ·rename_i hx; rw [if_neg hx]; exact h2
  ·rcases List.mem_cons.mp ha with rfl|ha
   ·split at h2
    ·rename_i hx; rw [if_pos hx]; exact h2
    ·rename_i hx; rw [if_neg hx]; omega
   ·exact h3 a ha
end Z
namespace Z
open PySem
namespace Pg
noncomputable def spE (s:Spot):D:=.tup [.int s.x,.int s.y,.int s.z,.bl s.e,.bl s.n]
noncomputable def bD (sp:List Spot):D:=.lst (sp.map spE)
noncomputable def cZ (c r:Nat):List Spot:=(List.range (c*r)).map fun k=>⟨k % c,k / c,0,false,false⟩
section
variable {G:GS}
noncomputable def mY:IS:=(.ret true (.comp 3 [(2,0)] [1] false .rng (.tup (.cons (.bin .mul (.var 0) (.var 1)) .nil)) (.lit (.bl true)) (.tup (.cons (.bin .mod (.var 1) (.var 2)) (.cons (.bin .fdiv (.var 1) (.var 2)) (.cons (.lit (.int 0)) (.cons (.lit (.bl false)) (.cons (.lit (.bl false)) .nil))))))))
theorem IU {c r:Nat} (hc:1≤c) (hcr:c*r≤1000) (hc2:c≤1000):aN G 2 mY [.int c,.int r]=some (.ok (bD (cZ c r))):=by
 refine aK (ρ:=[.im (.int c),.im (.int r)]) rfl (aR ?_)
 have m1:op2 .mul (.int (c:Int)) (.int (r:Int))=some (.int ((c*r:Nat):Int)):=by rw [vI (by omega) (by omega)]; push_cast; rfl
 refine (cG (L:=List.range (c*r)) (fun k=>.int (k:Nat)) (fun k=>spE ⟨k % c,k / c,0,false,false⟩) (s:=.tup [.int ((c*r:Nat):Int)]) (by simp only [zz,yy,aA,aB,m1]) (dQ (by omega)) (fun k _=>⟨[.un,.im (.int k),.im (.int c)],rfl,by simp only [zz,yy,aA,aB],?_⟩)).trans ?_
 ·simp only [zz,yy,aA,aB,gK (show (0:Int)<c by omega),jO (show (0:Int)<c by omega) (show (c:Int)<1000000 by omega)]
  unfold spE
  push_cast
  rfl
 ·unfold bD cZ
  rw [List.map_map]; rfl
theorem AV {c r x y:Nat}:hAt (eW c r) x y=if x<c∧y<r then [(((y*c+x:Nat):Int),false,false)] else []:=by
 unfold hAt eW
 by_cases hy:y<r
 ·have e1:((List.range r).map fun y=>(List.range c).map fun x=>[(((y*c+x:Nat):Int),false,false)]).getD y []=(List.range c).map fun x=>[(((y*c+x:Nat):Int),false,false)]:=by
   rw [List.getD_eq_getElem?_getD,List.getElem?_map,List.getElem?_range hy]; rfl
  rw [e1]
  by_cases hx:x<c
  ·rw [if_pos ⟨hx,hy⟩,List.getD_eq_getElem?_getD,List.getElem?_map,List.getElem?_range hx]; rfl
  ·rw [if_neg (fun z=>hx z.1)]
   exact getD_none (by rw [List.length_map,List.length_range]; omega)
 ·rw [if_neg (fun z=>hy z.2),getD_none (l:=List.map _ _) (by rw [List.length_map,List.length_range]; omega)]
  simp
theorem RH {c r:Nat} (hc:1≤c):Lk (eW c r) (cZ c r):=by
 have get:∀ {i:Nat} {s:Spot},(cZ c r)[i]?=some s↔i<c*r∧s=⟨i % c,i / c,0,false,false⟩:=fun {i s}=>by
  unfold cZ
  rw [List.getElem?_map]
  by_cases hi:i<c*r
  ·rw [List.getElem?_range hi]
   simp only [Option.map_some,Option.some.injEq,hi,true_and]
   exact eq_comm
  ·rw [List.getElem?_eq_none (by rw [List.length_range]; omega)]
   simp [hi]
 refine ⟨fun x y d=>?_,fun x y=>?_⟩
 ·rw [AV]
  constructor
  ·intro h
   split at h
   ·rename_i hxy
    have e:d=(((y*c+x:Nat):Int),false,false):=by simpa using h
    have h1:(y*c+x) % c=x:=by rw [Nat.add_comm,Nat.add_mul_mod_self_right]; exact Nat.mod_eq_of_lt hxy.1
    have h2:(y*c+x) / c=y:=by rw [Nat.add_comm,Nat.add_mul_div_right _ _ (by omega),Nat.div_eq_of_lt hxy.1]; omega
    refine ⟨y*c+x,_,get.mpr ⟨?_,rfl⟩,h1,h2,e⟩
    have:(y+1)*c≤r*c:=Nat.mul_le_mul_right c (by omega)
    rw [Nat.add_mul,Nat.one_mul] at this
    rw [Nat.mul_comm c r]
    omega
   ·cases h
  ·rintro ⟨i,s,a1,rfl,rfl,a4⟩
   obtain ⟨hi,rfl⟩:=get.mp a1
   have h1:i % c<c:=Nat.mod_lt _ (by omega)
   have h2:i / c<r:=by rw [Nat.div_lt_iff_lt_mul (by omega),Nat.mul_comm]; exact hi
   rw [if_pos ⟨h1,h2⟩,a4]
   have:=Nat.div_add_mod i c
   rw [Nat.mul_comm] at this
   simp [this]
 ·rw [AV]
  split
  ·simp
  ·exact List.Pairwise.nil
theorem oH {c r:Nat}:(cZ c r).length=c*r:=by unfold cZ; simp
noncomputable def kO:IS:=(.seq (.sett [5,6,7] (.var 1)) (.seq (.set 8 (.bcall .int (.cons (.bin .isin (.var 5) (.tup (.cons (.lit (.str "north")) (.cons (.lit (.str "south")) .nil)))) .nil))) (.seq (.set 9 (.bin .isin (.var 5) (.tup (.cons (.lit (.str "east")) (.cons (.lit (.str "south")) .nil))))) (.seq (.set 10 (.bin .sub (.bin .sub (.var 7) (.lit (.int 1))) (.ix (.var 0) (.var 8)))) (.seq (.iff (.bin .ge (.ix (.var 0) (.var 8)) (.var 7)) (.set 10 (.bin .sub (.ix (.var 0) (.var 8)) (.var 7))) .nop) (.seq (.set 11 (.ite (.tr (.var 9)) (.bin .sub (.bin .sub (.var 2) (.lit (.int 1))) (.var 10)) (.var 10))) (.seq (.setm 12 (.lst (.cons (.ix (.var 0) (.lit (.int 0))) (.cons (.ix (.var 0) (.lit (.int 1))) (.cons (.ix (.var 0) (.lit (.int 2))) (.cons (.ix (.var 0) (.lit (.int 3))) (.cons (.ix (.var 0) (.lit (.int 4))) .nil))))))) (.seq (.put 12 (.var 8) (.var 11)) (.seq (.iff (.bin .eq (.bin .ge (.ix (.var 0) (.var 8)) (.var 7)) (.var 9)) (.seq (.put 12 (.lit (.int 2)) (.ite (.tr (.var 6)) (.bin .sub (.bin .add (.bin .mul (.lit (.int 2)) (.var 3)) (.lit (.int 1))) (.ix (.var 0) (.lit (.int 2)))) (.bin .sub (.bin .sub (.bin .mul (.lit (.int 2)) (.var 4)) (.lit (.int 1))) (.ix (.var 0) (.lit (.int 2)))))) (.put 12 (.bin .add (.lit (.int 3)) (.var 8)) (.not (.tr (.ix (.var 0) (.bin .add (.lit (.int 3)) (.var 8))))))) .nop) (.ret false (.tup (.cons (.ixm 12 (.lit (.int 0))) (.cons (.ixm 12 (.lit (.int 1))) (.cons (.ixm 12 (.lit (.int 2))) (.cons (.ixm 12 (.lit (.int 3))) (.cons (.ixm 12 (.lit (.int 4))) .nil))))))))))))))))
noncomputable def cFR:D:=.tup [.str "east",.str "south"]
theorem aGc {sd:Side}:op2 .isin (.str sd.str) cFR=some (.bl (!sd.near)):=by cases sd<;>exact cR (by decide +kernel) (by decide +kernel)
theorem at5 {α:Type} {a b c d e:α}:atI [a,b,c,d,e] 0=some a∧atI [a,b,c,d,e] 1=some b∧atI [a,b,c,d,e] 2=some c∧atI [a,b,c,d,e] 3=some d∧atI [a,b,c,d,e] 4=some e:=⟨rfl,rfl,rfl,rfl,rfl⟩
theorem VP {a b:Bool}:op2 .eq (.bl a) (.bl b)=some (.bl (a == b)):=by cases a<;>cases b<;>rfl
theorem zE {ρ:List Sl} {x:Nat} {k e:IE} {d:D} {i:Int} {ds:List D} {j:Nat} (h1:ev G e ρ=some d) (h2:ev G k ρ=some (.int i)) (h3:ρ[x]?=some (.mu (.lst ds))) (h4:ixN ds.length i=some j):ex G (.put x k e) ρ=some (.nx (ρ.set x (.mu (.lst (ds.set j d))))):=by
 show (evs G e ρ).bind (fun d=>(intOf (evs G k ρ)).bind fun i=>_)=_
 rw [jX h1,jX h2]
 show (match ρ[x]? with|some (.mu o)=>_|_=>_)=_
 rw [h3]
 show Option.map _ (Option.map _ (ixN ds.length i))=_
 rw [h4]; rfl
theorem RS {ρ ρ':List Sl} {tg:List Nat} {e:IE} {d:D} (h1:ev G e ρ=some d) (h2:bE tg true d ρ=some ρ'):ex G (.sett tg e) ρ=some (.nx ρ'):=by rw [wC,h1]; show Option.map _ (bE tg true d ρ)=_; rw [h2]; rfl
noncomputable def alI (sd:Side):Int:=if sd.up then 0 else 1
theorem IR {s:Spot} {sd:Side} {over:Bool} {c gr:Nat} {top low:Int} (h1:1≤c) (hg:iC c (s.al sd.up)<gr):aN G 13 kO [spE s,bI sd over c,.int gr,.int top,.int low]=some (.ok (spE (aV sd over c gr top low s))):=by
 have pa:∀ ρ:List Sl,slot ρ 0=some (spE s)→slot ρ 8=some (.int (alI sd))→ev G (.ix (.var 0) (.var 8)) ρ=some (.int (s.al sd.up)):=fun ρ e0 e8=>by
  rw [fB,eI,eI,e0,e8]
  unfold spE alI Spot.al
  cases sd.up<;>rfl
 let S0:Sl:=.im (spE s)
 let S1:Sl:=.im (bI sd over c)
 have e2:(2:Int)*top=2*top:=rfl
 have m2:∀ i:Int,op2 .mul (.int 2) (.int i)=some (.int (2*i)):=fun i=>vI (by decide) (by decide)
 refine aK (ρ:=[S0,S1,.im (.int gr),.im (.int top),.im (.int low),.un,.un,.un,.un,.un,.un,.un,.un]) rfl ?_
 unfold kO
 refine aE (RS (d:=bI sd over c) (by simp only [zz,yy,aA,aB,S0,S1]) rfl) ?_
 refine aE (aH (d:=.int (alI sd)) ?_) ?_
 ·simp only [List.set,S0,S1]
  simp only [zz,yy,aA,aB]
  rw [show op2 .isin (.str sd.str) (.tup [.str "north",.str "south"])=some (.bl (!sd.up)) from AO]
  unfold alI
  cases sd.up<;>rfl
 refine aE (aH (d:=.bl (!sd.near)) ?_) ?_
 ·simp only [List.set,S0,S1]
  simp only [zz,yy,aA,aB]
  exact aGc
 refine aE (aH (d:=.int ((c:Int)-1-(s.al sd.up:Nat))) ?_) ?_
 ·simp only [List.set,S0,S1]
  rw [bG,pa _ (by simp only [yy]) (by simp only [yy])]
  simp only [zz,yy,aA,aB]
 have e10:∀ s11 s12,ex G (.iff (.bin .ge (.ix (.var 0) (.var 8)) (.var 7)) (.set 10 (.bin .sub (.ix (.var 0) (.var 8)) (.var 7))) .nop) [S0,S1,.im (.int gr),.im (.int top),.im (.int low),.im (.str sd.str),.im (.bl over),.im (.int c),.im (.int (alI sd)),.im (.bl (!sd.near)),.im (.int ((c:Int)-1-(s.al sd.up:Nat))),s11,s12] =
   some (.nx [S0,S1,.im (.int gr),.im (.int top),.im (.int low),.im (.str sd.str),.im (.bl over),.im (.int c),.im (.int (alI sd)),.im (.bl (!sd.near)),.im (.int (iC c (s.al sd.up):Nat)),s11,s12]):=fun s11 s12=>by
  have et:ev G (.bin .ge (.ix (.var 0) (.var 8)) (.var 7)) (view [S0,S1,.im (.int gr),.im (.int top),.im (.int low),.im (.str sd.str),.im (.bl over),.im (.int c),.im (.int (alI sd)),.im (.bl (!sd.near)),.im (.int ((c:Int)-1-(s.al sd.up:Nat))),s11,s12])=some (.bl (decide (c≤s.al sd.up))):=by
   simp only [bS,cF,S0,S1]
   rw [bG,pa _ (by simp only [yy]) (by simp only [yy])]
   simp only [zz,yy,aA,aB]
   congr 2
   exact decide_eq_decide.mpr (by omega)
  by_cases hc:c≤s.al sd.up
  ·refine gE (et.trans (by rw [decide_eq_true hc])) ?_
   rw [aH (d:=.int (iC c (s.al sd.up):Nat))]
   ·rfl
   ·rw [bG,pa _ (by simp only [yy,S0]) (by simp only [yy])]
    simp only [zz,yy,aA,aB]
    unfold iC
    rw [if_pos hc]
    congr 2
    omega
  ·refine cD (et.trans (by rw [decide_eq_false hc])) ?_
   rw [aU]
   have:(c:Int)-1-(s.al sd.up:Nat)=(iC c (s.al sd.up):Nat):=by
    unfold iC
    rw [if_neg hc]
    omega
   rw [this]
 refine aE (e10 .un .un) ?_
 refine aE (aH (d:=.int (cC sd.near c gr (s.al sd.up):Nat)) ?_) ?_
 ·simp only [zz,yy,aA,aB,tru,S0,S1]
  unfold cC
  cases sd.near with
  | true=>simp only [Bool.not_true,if_true]
  | false =>
   simp only [Bool.not_false,Bool.false_eq_true,if_false]
   congr 2
   omega
 refine aE (kS (ds:=[.int s.x,.int s.y,.int s.z,.bl s.e,.bl s.n]) ?_) ?_
 ·simp only [List.set,S0,S1]
  simp only [zz,yy,aA,aB,spE,at5.1,at5.2.1,at5.2.2.1,at5.2.2.2.1,at5.2.2.2.2]
 refine aE (zE (d:=.int (cC sd.near c gr (s.al sd.up):Nat)) (i:=alI sd) (ds:=[.int s.x,.int s.y,.int s.z,.bl s.e,.bl s.n]) (j:=if sd.up then 0 else 1) ?_ ?_ rfl ?_) ?_
 ·simp only [List.set]
  simp only [zz,yy,aA,aB]
 ·simp only [List.set]
  simp only [zz,yy,aA,aB]
 ·unfold alI
  cases sd.up<;>rfl
 have L1:([.int s.x,.int s.y,.int s.z,.bl s.e,.bl s.n]:List D).set (if sd.up then 0 else 1) (.int (cC sd.near c gr (s.al sd.up):Nat))=[.int (aV sd over c gr top low s).x,.int (aV sd over c gr top low s).y,.int s.z,.bl s.e,.bl s.n]:=by
  unfold aV
  cases sd.up<;>rfl
 rw [L1]
 simp only [List.set,S0,S1]
 have em:ev G (.bin .eq (.bin .ge (.ix (.var 0) (.var 8)) (.var 7)) (.var 9)) (view [.im (spE s),.im (bI sd over c),.im (.int gr),.im (.int top),.im (.int low),.im (.str sd.str),.im (.bl over),.im (.int c),.im (.int (alI sd)),.im (.bl (!sd.near)),.im (.int (iC c (s.al sd.up):Nat)),.im (.int (cC sd.near c gr (s.al sd.up):Nat)),.mu (.lst [.int (aV sd over c gr top low s).x,.int (aV sd over c gr top low s).y,.int s.z,.bl s.e,.bl s.n])])=some (.bl (moves sd.near c (s.al sd.up))):=by
  simp only [bS,cF]
  rw [bG,bG,pa _ (by simp only [yy]) (by simp only [yy])]
  simp only [zz,yy,aA,aB,VP]
  unfold moves
  rw [show (decide (((c:Nat):Int)≤((s.al sd.up:Nat):Int)))=decide (c≤s.al sd.up) from decide_eq_decide.mpr (by omega)]
  cases sd.near<;>cases decide (c≤s.al sd.up)<;>rfl
 cases hm:moves sd.near c (s.al sd.up) with
 | false =>
  refine aE (cD (em.trans (by rw [hm])) aU) (aR ?_)
  simp only [zz,yy,aA,aB,eT,List.getElem?_cons_succ,List.getElem?_cons_zero,intOf,at5.1,at5.2.1,at5.2.2.1,at5.2.2.2.1,at5.2.2.2.2]
  unfold spE aV
  dsimp only
  rw [hm]
  rfl
 | true =>
  refine aE (gE (em.trans (by rw [hm])) (aE (zE (d:=.int (aV sd over c gr top low s).z) (i:=2) (j:=2) ?_ ?_ rfl rfl) (zE (d:=.bl (!(if sd.up then s.e else s.n))) (i:=3+alI sd) (j:=if sd.up then 3 else 4) ?_ ?_ rfl ?_))) (aR ?_)
  ·simp only [zz,yy,aA,aB,tru,m2,spE,at5.2.2.1]
   unfold aV
   dsimp only
   rw [hm]
   cases over<;>rfl
  ·simp only [zz,yy,aA,aB]
  ·simp only [List.set]
   simp only [zz,yy,aA,aB,spE]
   unfold alI
   cases sd.up
   ·simp only [Bool.false_eq_true,if_false]
    rw [show (3:Int)+1=4 from rfl,at5.2.2.2.2]
    rfl
   ·simp only [if_true]
    rw [show (3:Int)+0=3 from rfl,at5.2.2.2.1]
    rfl
  ·simp only [List.set]
   simp only [zz,yy,aA,aB]
  ·unfold alI
   cases sd.up<;>rfl
  ·have L2:([.int (aV sd over c gr top low s).x,.int (aV sd over c gr top low s).y,.int (aV sd over c gr top low s).z,.bl s.e,.bl s.n]:List D).set (if sd.up then 3 else 4) (.bl (!(if sd.up then s.e else s.n)))=[.int (aV sd over c gr top low s).x,.int (aV sd over c gr top low s).y,.int (aV sd over c gr top low s).z,.bl (aV sd over c gr top low s).e,.bl (aV sd over c gr top low s).n]:=by
    unfold aV
    dsimp only
    rw [hm]
    cases sd.up<;>rfl
   simp only [List.set]
   rw [L2]
   simp only [zz,yy,aA,aB,eT,List.getElem?_cons_succ,List.getElem?_cons_zero,intOf,at5.1,at5.2.1,at5.2.2.1,at5.2.2.2.1,at5.2.2.2.2]
   rfl
end
end Pg
end Z
namespace Z
open PySem
namespace Pg
section
variable {G:GS}
theorem ints_map {α:Type} {f:α→Int}:∀ {l:List α},iA (l.map fun a=>D.int (f a))=some (l.map f)
 | []=>rfl
 | a::l=>by
  simp only [List.map_cons,iA]
  rw [ints_map]; rfl
theorem yG {α:Type} {f:α→Int} {l:List α} {m:Int} (h1:∀ a ∈ l,f a≤m) (h2:∃ a ∈ l,f a=m):bf .max [.lst (l.map fun a=>D.int (f a))]=some (.int m):=by
 obtain ⟨a,ha,e⟩:=h2
 cases l with
 | nil=>cases ha
 | cons b r =>
  simp only [bf,zC]
  rw [ints_map]
  simp only [List.map_cons]
  obtain ⟨q1,q2,q3⟩:=jE (r.map f) (f b)
  have u:jL (f b) (r.map f)≤m:=by
   rcases q1 with q|q
   ·rw [q]; exact h1 b (by simp)
   ·obtain ⟨d,hd,q⟩:=List.mem_map.mp q
    rw [← q]; exact h1 d (List.mem_cons_of_mem _ hd)
  have v:m≤jL (f b) (r.map f):=by
   rw [← e]
   rcases List.mem_cons.mp ha with rfl|ha
   ·exact q2
   ·exact q3 _ (List.mem_map.mpr ⟨a,ha,rfl⟩)
  rw [Int.le_antisymm u v]
theorem aAf {α:Type} {f:α→Int} {l:List α} (h:l≠[]):∃ m,bf .max [.lst (l.map fun a=>D.int (f a))]=some (.int m)∧∀ a ∈ l,f a≤m:=by
 cases l with
 | nil=>exact absurd rfl h
 | cons b r =>
  obtain ⟨q1,q2,q3⟩:=jE (r.map f) (f b)
  refine ⟨jL (f b) (r.map f),?_,fun a ha=>?_⟩
  ·simp only [bf,zC]
   rw [ints_map]; rfl
  ·rcases List.mem_cons.mp ha with rfl|ha
   ·exact q2
   ·exact q3 _ (List.mem_map.mpr ⟨a,ha,rfl⟩)
theorem aAe {α:Type} {f:α→Int} {l:List α} (h:l≠[]):∃ m,bf .min [.lst (l.map fun a=>D.int (f a))]=some (.int m)∧∀ a ∈ l,m≤f a:=by
 cases l with
 | nil=>exact absurd rfl h
 | cons b r =>
  obtain ⟨q1,q2,q3⟩:=lL (r.map f) (f b)
  refine ⟨mM (f b) (r.map f),?_,fun a ha=>?_⟩
  ·simp only [bf,JY]
   rw [ints_map]; rfl
  ·rcases List.mem_cons.mp ha with rfl|ha
   ·exact q2
   ·exact q3 _ (List.mem_map.mpr ⟨a,ha,rfl⟩)
theorem iW {α:Type} {a b c:α}:atI [a,b,c] 0=some a∧atI [a,b,c] 1=some b∧atI [a,b,c] 2=some c:=⟨rfl,rfl,rfl⟩
theorem tV {ρ:List Sl} {v n:Nat} {fr:List (Nat × Nat)} {k:IE} {sp:List Spot} {f:Spot→Int} (h1:slot ρ v=some (bD sp)) (h2:∀ s ∈ sp,∃ ρ1,bE [1] false (spE s) (frame n fr ρ)=some ρ1∧ev G (.ix (.var 1) k) ρ1=some (.int (f s))) :
  ev G (.comp n fr [1] false .seq (.var v) (.lit (.bl true)) (.ix (.var 1) k)) ρ=some (.lst (sp.map fun s=>D.int (f s))):=by
 refine cG (L:=sp) spE (fun s=>.int (f s)) (s:=bD sp) (by rw [eI]; exact h1) (by unfold bD; exact dP) fun s hs=>?_
 obtain ⟨ρ1,a,b⟩:=h2 s hs
 exact ⟨ρ1,a,by simp only [zz,yy,aA,aB],b⟩
noncomputable def gP:IS:=(.seq (.set 2 (.bcall .int (.cons (.bin .isin (.ix (.var 1) (.lit (.int 0))) (.tup (.cons (.lit (.str "north")) (.cons (.lit (.str "south")) .nil)))) .nil))) (.seq (.set 3 (.bin .add (.lit (.int 1)) (.bcall .max (.cons (.comp 3 [(2,2)] [1] false .seq (.var 0) (.lit (.bl true)) (.ix (.var 1) (.var 2))) .nil)))) (.seq (.set 4 (.bcall .max (.cons (.ix (.var 1) (.lit (.int 2))) (.cons (.bin .sub (.var 3) (.ix (.var 1) (.lit (.int 2)))) .nil)))) (.seq (.set 5 (.bcall .max (.cons (.comp 2 [] [1] false .seq (.var 0) (.lit (.bl true)) (.ix (.var 1) (.lit (.int 2)))) .nil))) (.seq (.set 6 (.bcall .min (.cons (.comp 2 [] [1] false .seq (.var 0) (.lit (.bl true)) (.ix (.var 1) (.lit (.int 2)))) .nil))) (.ret true (.comp 6 [(2,1),(3,4),(4,6),(5,5)] [1] false .seq (.var 0) (.lit (.bl true)) (.call "_law_spot" (.cons (.var 1) (.cons (.var 2) (.cons (.var 3) (.cons (.var 5) (.cons (.var 4) .nil)))))))))))))
theorem yL (hs:∀ (s:Spot) (sd:Side) (over:Bool) (c gr:Nat) (top low:Int),1≤c→iC c (s.al sd.up)<gr→G.fn "_law_spot" [spE s,bI sd over c,.int gr,.int top,.int low]=some (.ok (spE (aV sd over c gr top low s))))
  {sp:List Spot} {sd:Side} {over:Bool} {c ex:Nat} (h1:1≤c) (h2:c<ex) (hne:sp≠[]) (hlt:∀ s ∈ sp,s.al sd.up<ex) (hex:∃ s ∈ sp,s.al sd.up+1=ex) :
  ∃ top low:Int,(∀ s ∈ sp,s.z≤top)∧(∀ s ∈ sp,low≤s.z)∧aN G 7 gP [bD sp,bI sd over c]=some (.ok (bD (sp.map (aV sd over c (max c (ex-c)) top low)))):=by
 obtain ⟨top,et,ht⟩:=aAf (f:=fun s:Spot=>s.z) hne
 obtain ⟨low,el,hl⟩:=aAe (f:=fun s:Spot=>s.z) hne
 refine ⟨top,low,ht,hl,aK (ρ:=[.im (bD sp),.im (bI sd over c),.un,.un,.un,.un,.un]) rfl ?_⟩
 unfold gP
 have ea:ev G (.comp 3 [(2,2)] [1] false .seq (.var 0) (.lit (.bl true)) (.ix (.var 1) (.var 2))) [.im (bD sp),.im (bI sd over c),.im (.int (alI sd)),.un,.un,.un,.un]=some (.lst (sp.map fun s=>D.int (s.al sd.up:Nat))):=
  tV (f:=fun s=>((s.al sd.up:Nat):Int)) rfl fun s _=>⟨[.un,.im (spE s),.im (.int (alI sd))],rfl,by
   rw [fB,eI,eI]
   simp only [yy,aA]
   unfold spE alI Spot.al
   cases sd.up<;>rfl⟩
 have ez:∀ s3 s4 s5 s6,ev G (.comp 2 [] [1] false .seq (.var 0) (.lit (.bl true)) (.ix (.var 1) (.lit (.int 2)))) [.im (bD sp),.im (bI sd over c),.im (.int (alI sd)),s3,s4,s5,s6]=some (.lst (sp.map fun s=>D.int s.z)):=fun s3 s4 s5 s6 =>
  tV (f:=fun s=>s.z) rfl fun s _=>⟨[.un,.im (spE s)],rfl,by
   simp only [zz,yy,aA,aB,spE,at5.2.2.1]⟩
 have em:bf .max [.lst (sp.map fun s=>D.int (s.al sd.up:Nat))]=some (.int ((ex:Int)-1)):=yG (f:=fun s:Spot=>((s.al sd.up:Nat):Int)) (fun s hs=>by have:=hlt s hs; omega) (by obtain ⟨s,hs,e⟩:=hex; exact ⟨s,hs,by omega⟩)
 refine aE (aH (d:=.int (alI sd)) ?_) (aE (aH (d:=.int (ex:Nat)) ?_) (aE (aH (d:=.int ((max c (ex-c):Nat):Int)) ?_) (aE (aH (d:=.int top) ?_) (aE (aH (d:=.int low) ?_) (aR ?_)))))
 ·simp only [zz,yy,aA,aB,bI,iW.1]
  rw [show op2 .isin (.str sd.str) (.tup [.str "north",.str "south"])=some (.bl (!sd.up)) from AO]
  unfold alI
  cases sd.up<;>rfl
 ·show ev G _ [.im (bD sp),.im (bI sd over c),.im (.int (alI sd)),.un,.un,.un,.un]=_
  rw [bG,gS,aI,ea]
  simp only [zz,yy,aA,aB,em]
  congr 2
  omega
 ·show ev G _ [.im (bD sp),.im (bI sd over c),.im (.int (alI sd)),.im (.int (ex:Nat)),.un,.un,.un]=_
  simp only [zz,yy,aA,aB,bI,iW.2.2]
  rw [show ((ex:Nat):Int)-(c:Nat)=((ex-c:Nat):Int) by omega,aFU]
 ·show ev G _ [.im (bD sp),.im (bI sd over c),.im (.int (alI sd)),.im (.int (ex:Nat)),.im (.int ((max c (ex-c):Nat):Int)),.un,.un]=_
  rw [gS,aI,ez]
  simp only [zz,yy,aA,aB,et]
 ·show ev G _ [.im (bD sp),.im (bI sd over c),.im (.int (alI sd)),.im (.int (ex:Nat)),.im (.int ((max c (ex-c):Nat):Int)),.im (.int top),.un]=_
  rw [gS,aI,ez]
  simp only [zz,yy,aA,aB,el]
 ·show ev G _ [.im (bD sp),.im (bI sd over c),.im (.int (alI sd)),.im (.int (ex:Nat)),.im (.int ((max c (ex-c):Nat):Int)),.im (.int top),.im (.int low)]=_
  refine (cG (L:=sp) spE (fun s=>spE (aV sd over c (max c (ex-c)) top low s)) (s:=bD sp) (by simp only [zz,yy]) (by unfold bD; exact dP) fun s hm=>⟨[.un,.im (spE s),.im (bI sd over c),.im (.int ((max c (ex-c):Nat):Int)),.im (.int low),.im (.int top)],rfl,by simp only [zz,yy,aA,aB],?_⟩).trans ?_
  ·simp only [zz,yy,aA,aB,hs s sd over c (max c (ex-c)) top low h1 (sL h1 (hlt s hm))]
  ·unfold bD
   rw [List.map_map]; rfl
def isAt (x y:Nat) (s:Spot):Bool:=(s.x == x)&&(s.y == y)
noncomputable def kN (sp:List Spot) (x y i:Nat):Option (Int × Int):=match sp[i]? with
 | some s=>if isAt x y s then some (0-s.z,(i:Int)) else none
 | none=>none
noncomputable def lay (sp:List Spot) (x y k:Nat):List (Int × Int):=(List.range k).filterMap (kN sp x y)
theorem nX {sp:List Spot} {x y k:Nat}:lay sp x y (k+1)=lay sp x y k++(kN sp x y k).toList:=by
 unfold lay
 rw [List.range_succ,List.filterMap_append]
 congr 1
noncomputable def vS (sp:List Spot) (c:Cell):Int × Int:=(0-zAt sp c.1,c.1)
theorem QS {sp:List Spot} {x y:Nat} {p:Int × Int}:p ∈ lay sp x y sp.length↔∃ (i:Nat) (s:Spot),sp[i]?=some s∧s.x=x∧s.y=y∧p=(0-s.z,(i:Int)):=by
 unfold lay
 rw [List.mem_filterMap]
 constructor
 ·rintro ⟨i,hi,e⟩
  unfold kN at e
  split at e
  ·rename_i s hs
   split at e
   ·rename_i hxy
    cases e
    unfold isAt at hxy
    rw [Bool.and_eq_true,beq_iff_eq,beq_iff_eq] at hxy
    exact ⟨i,s,hs,hxy.1,hxy.2,rfl⟩
   ·cases e
  ·cases e
 ·rintro ⟨i,s,hs,rfl,rfl,rfl⟩
  refine ⟨i,List.mem_range.mpr (List.getElem?_eq_some_iff.mp hs).1,?_⟩
  unfold kN isAt
  rw [hs]
  simp
theorem pX {sp:List Spot} {x y k:Nat}:(lay sp x y k).Nodup:=by
 have h2:∀ {i:Nat} {p:Int × Int},kN sp x y i=some p→p.2=i:=fun {i p} e=>by
  unfold kN at e
  split at e
  ·split at e
   ·cases e; rfl
   ·cases e
  ·cases e
 induction k with
 | zero=>exact List.nodup_nil
 | succ k ih =>
  rw [nX]
  refine List.nodup_append.mpr ⟨ih,?_,fun a ha b hb=>?_⟩
  ·cases kN sp x y k<;>simp
  ·have hb':kN sp x y k=some b:=by simpa using hb
   unfold lay at ha
   obtain ⟨i,hi,e⟩:=List.mem_filterMap.mp ha
   intro z
   have q1:=h2 e
   have q2:=h2 hb'
   rw [z] at q1
   have:=List.mem_range.mp hi
   omega
theorem vP {T:Table} {sp:List Spot} (L:Lk T sp) {x y:Nat}:jN (lay sp x y sp.length)=(hAt T x y).map (vS sp):=by
 have pw:((hAt T x y).map (vS sp)).Pairwise (fun a b=>pLt a b=true):=by
  rw [List.pairwise_map]
  refine (L.ord x y).imp fun {a b} h=>?_
  rw [eM]
  unfold vS
  exact .inl (by dsimp only; omega)
 have nd:((hAt T x y).map (vS sp)).Nodup:=pw.imp fun {a b} e q=>by subst q; rw [eM] at e; omega
 refine (uZ ?_ pw).symm
 refine (List.perm_ext_iff_of_nodup nd pX).mpr fun p=>?_
 rw [QS,List.mem_map]
 constructor
 ·rintro ⟨c,hc,rfl⟩
  obtain ⟨i,s,a1,a2,a3,a4⟩:=(L.mem x y c).mp hc
  refine ⟨i,s,a1,a2,a3,?_⟩
  subst a4
  unfold vS
  dsimp only
  rw [qX a1]
 ·rintro ⟨i,s,a1,a2,a3,rfl⟩
  refine ⟨((i:Int),s.e,s.n),(L.mem x y _).mpr ⟨i,s,a1,a2,a3,rfl⟩,?_⟩
  unfold vS
  dsimp only
  rw [qX a1]
theorem AI {T:Table} {sp:List Spot} (L:Lk T sp) {x y:Nat}:(lay sp x y sp.length).length=(hAt T x y).length:=by
 rw [← (gW _).length_eq,vP L,List.length_map]
theorem pV:∀ {l:List (Int × Int)},jU (l.map eX)=some l
 | []=>rfl
 | p::l=>by
  show (jU (l.map eX)).map (fun r=>(p.1,p.2)::r)=_
  rw [pV]; rfl
theorem zF {ρ:List Sl} {x:Nat} {e:IE} {d:D} {ds:List D} (h1:ev G e ρ=some d) (h2:ρ[x]?=some (.mu (.lst ds))) (h3:ds.length<1000000):ex G (.app x e) ρ=some (.nx (ρ.set x (.mu (.lst (ds++[d]))))):=by
 show (evs G e ρ).bind _=_
 rw [jX h1]
 show (match ρ[x]? with|some (.mu (.lst ds))=>_|_=>_)=_
 rw [h2]
 exact if_pos h3
noncomputable def kP:IS:=(.seq (.setm 3 (.lst .nil)) (.seq (.loop [4] false .rng (.tup (.cons (.bcall .len (.cons (.var 0) .nil)) .nil)) (.iff (.and (.bin .eq (.ix (.ix (.var 0) (.var 4)) (.lit (.int 0))) (.var 1)) (.bin .eq (.ix (.ix (.var 0) (.var 4)) (.lit (.int 1))) (.var 2))) (.app 3 (.tup (.cons (.bin .sub (.lit (.int 0)) (.ix (.ix (.var 0) (.var 4)) (.lit (.int 2)))) (.cons (.var 4) .nil)))) .nop)) (.ret true (.comp 4 [(3,0)] [1,2] true .seq (.sortm 3) (.lit (.bl true)) (.tup (.cons (.var 2) (.cons (.ix (.ix (.var 3) (.var 2)) (.lit (.int 3))) (.cons (.ix (.ix (.var 3) (.var 2)) (.lit (.int 4))) .nil))))))))
theorem uX {sp:List Spot} {i:Nat} {s:Spot} (h:sp[i]?=some s):atI (sp.map spE) (i:Int)=some (spE s):=dY (by rw [List.getElem?_map,h]; rfl)
theorem IT {T:Table} {sp:List Spot} (L:Lk T sp) {x y:Nat} (hl:sp.length≤1000) (h64:(hAt T x y).length<64):aN G 5 kP [bD sp,.int x,.int y]=some (.ok (hE (hAt T x y))):=by
 refine aK (ρ:=[.im (bD sp),.im (.int x),.im (.int y),.un,.un]) rfl ?_
 unfold kP
 refine aE (kS (ds:=[]) (by simp only [zz,yy,aA,aB])) ?_
 simp only [List.set]
 have lp:∃ ρ',eB (bE [4] false) (ex G (.iff (.and (.bin .eq (.ix (.ix (.var 0) (.var 4)) (.lit (.int 0))) (.var 1)) (.bin .eq (.ix (.ix (.var 0) (.var 4)) (.lit (.int 1))) (.var 2))) (.app 3 (.tup (.cons (.bin .sub (.lit (.int 0)) (.ix (.ix (.var 0) (.var 4)) (.lit (.int 2)))) (.cons (.var 4) .nil)))) .nop))
   ((List.range sp.length).map fun (k:Nat)=>D.int k) [.im (bD sp),.im (.int x),.im (.int y),.mu (.lst []),.un]=some (.nx ρ')∧∃ s4,ρ'=[.im (bD sp),.im (.int x),.im (.int y),.mu (.lst ((lay sp x y (0+((List.range sp.length).map fun (k:Nat)=>D.int k).length)).map eX)),s4]:=by
  refine dC (k:=0) (fun k ρ=>∃ s4,ρ=[.im (bD sp),.im (.int x),.im (.int y),.mu (.lst ((lay sp x y k).map eX)),s4]) ⟨.un,rfl⟩ ?_
  rintro i d ρ hd ⟨s4,rfl⟩
  have hi:i<sp.length:=by
   have:=(List.getElem?_eq_some_iff.mp hd).1
   simpa using this
  have ed:d=.int (i:Int):=by
   rw [List.getElem?_map,List.getElem?_range hi] at hd
   simpa using hd.symm
  subst ed
  rw [Nat.zero_add]
  obtain ⟨s,hs⟩:∃ s,sp[i]?=some s:=⟨_,List.getElem?_eq_getElem hi⟩
  have ll:(lay sp x y i).length≤1000:=by
   unfold lay
   have:=List.length_filterMap_le (kN sp x y) (List.range i)
   rw [List.length_range] at this
   omega
  have eqn:∀ a b:Nat,(((a:Nat):Int) == ((b:Nat):Int))=(a == b):=fun a b=>by
   rw [Bool.eq_iff_iff,beq_iff_eq,beq_iff_eq]; omega
  have et:ev G (.and (.bin .eq (.ix (.ix (.var 0) (.var 4)) (.lit (.int 0))) (.var 1)) (.bin .eq (.ix (.ix (.var 0) (.var 4)) (.lit (.int 1))) (.var 2))) (view [.im (bD sp),.im (.int x),.im (.int y),.mu (.lst ((lay sp x y i).map eX)),.im (.int i)])=some (.bl (isAt x y s)):=by
   simp only [bS,cF]
   unfold isAt
   refine nB ?_ fun _=>?_
   ·simp only [zz,yy,aA,aB,bD,uX hs]
    simp only [spE,at5.1,aA,yy,eqn]
   ·simp only [zz,yy,aA,aB,bD,uX hs]
    simp only [spE,at5.2.1,aA,yy,eqn]
  refine ⟨_,rfl,?_⟩
  show ∃ ρ2,ex G _ [.im (bD sp),.im (.int x),.im (.int y),.mu (.lst ((lay sp x y i).map eX)),.im (.int i)]=_∧_
  cases ha:isAt x y s with
  | true =>
   refine ⟨_,gE (et.trans (by rw [ha])) (zF (d:=eX (0-s.z,(i:Int))) ?_ rfl (by rw [List.length_map]; omega)),.im (.int i),?_⟩
   ·simp only [zz,yy,aA,aB,bD,uX hs]
    simp only [spE,at5.2.2.1,aA,yy]
    rfl
   ·have:kN sp x y i=some (0-s.z,(i:Int)):=by unfold kN; rw [hs]; simp [ha]
    simp only [List.set]
    rw [nX,this]
    simp
  | false =>
   refine ⟨_,cD (et.trans (by rw [ha])) aU,.im (.int i),?_⟩
   have:kN sp x y i=none:=by unfold kN; rw [hs]; simp [ha]
   rw [nX,this]
   simp
 obtain ⟨ρ',h1,s4,rfl⟩:=lp
 rw [List.length_map,List.length_range,Nat.zero_add] at h1
 refine aE ((cP (d:=.tup [.int ((sp.length:Nat):Int)]) ?_ (dQ (by omega))).trans h1) (aR ?_)
 ·unfold bD
  simp only [zz,yy,aA,aB,List.length_map]
 ·have cs:jJ (lay sp x y sp.length)=true:=by
   unfold jJ
   rw [Bool.and_eq_true,decide_eq_true_eq,decide_eq_true_eq,AI L]
   exact ⟨h64,pX⟩
  have es:kG ((lay sp x y sp.length).map eX)=some ((jN (lay sp x y sp.length)).map eX):=by
   unfold kG
   rw [pV]
   exact if_pos cs
  rw [vP L,List.map_map] at es
  refine (cG (L:=hAt T x y) (fun c=>eX (vS sp c)) cE' (s:=.lst ((hAt T x y).map fun c=>eX (vS sp c))) ?_ dP fun c hc=>⟨[.un,.im (.int (0-zAt sp c.1)),.im (.int c.1),.im (bD sp)],rfl,by simp only [zz,yy,aA,aB],?_⟩)
  ·rw [KC]
   show hU [.lst ((lay sp x y sp.length).map eX)]=_
   show Option.map D.lst (kG _)=_
   rw [es]; rfl
  ·obtain ⟨i,s,a1,a2,a3,rfl⟩:=(L.mem x y c).mp hc
   simp only [zz,yy,aA,aB,bD,uX a1]
   simp only [spE,at5.2.2.2.1,at5.2.2.2.2,aA,yy]
   rfl
theorem KM {c:Cell}:deq (cE' c) (cE' c)=true:=by
 unfold cE'
 simp [deq,iT]
theorem xV {c:Cell}:plain (cE' c)=true:=by
 unfold cE' plain
 rfl
theorem ne_self {d:D} (h1:plain d=true) (h2:deq d d=true):op2 .ne d d=some (.bl false):=by
 show oNe d d=_
 unfold oNe
 rw [h1,h2]; rfl
theorem cQ {b:Bool}:tru (.bl b)=some b:=rfl
noncomputable def eV:IS:=(.seq (.iff (.or (.not (.tr (.isi (.var 0) "list"))) (.bin .ne (.bcall .len (.cons (.var 0) .nil)) (.bcall .len (.cons (.var 1) .nil)))) (.ret false (.lit (.bl false))) .nop) (.seq (.loop [2] false .rng (.tup (.cons (.bcall .len (.cons (.var 1) .nil)) .nil)) (.seq (.set 3 (.ix (.var 0) (.var 2))) (.seq (.iff (.or (.not (.tr (.isi (.var 3) "tuple"))) (.or (.bin .ne (.bcall .len (.cons (.var 3) .nil)) (.lit (.int 3))) (.not (.tr (.call "_law_whole" (.cons (.ix (.var 3) (.lit (.int 0))) .nil)))))) (.ret false (.lit (.bl false))) .nop) (.iff (.or (.not (.tr (.isi (.ix (.var 3) (.lit (.int 1))) "bool"))) (.or (.not (.tr (.isi (.ix (.var 3) (.lit (.int 2))) "bool"))) (.bin .ne (.var 3) (.ix (.var 1) (.var 2))))) (.ret false (.lit (.bl false))) .nop)))) (.ret false (.lit (.bl true)))))
theorem rP (hw:∀ i:Int,G.fn "_law_whole" [.int i]=some (.ok (.bl true))) {h:cV} (hl:h.length≤1000):aN G 4 eV [hE h,hE h]=some (.ok (.bl true)):=by
 refine aK (ρ:=[.im (hE h),.im (hE h),.un,.un]) rfl ?_
 unfold eV
 refine aE (cD ?_ aU) ?_
 ·simp only [bS,cF,aY]
  refine fA (x:=false) (y:=false) (by unfold hE; simp only [zz,yy,aA,aB,QY,cQ,Bool.not_true]) fun _=>?_
  unfold hE
  simp only [zz,yy,aA,aB]
  simp
 obtain ⟨ρ',h1,s2,s3,rfl⟩:=jI (bind:=bE [2] false) (body:=ex G (.seq (.set 3 (.ix (.var 0) (.var 2))) (.seq (.iff (.or (.not (.tr (.isi (.var 3) "tuple"))) (.or (.bin .ne (.bcall .len (.cons (.var 3) .nil)) (.lit (.int 3))) (.not (.tr (.call "_law_whole" (.cons (.ix (.var 3) (.lit (.int 0))) .nil)))))) (.ret false (.lit (.bl false))) .nop) (.iff (.or (.not (.tr (.isi (.ix (.var 3) (.lit (.int 1))) "bool"))) (.or (.not (.tr (.isi (.ix (.var 3) (.lit (.int 2))) "bool"))) (.bin .ne (.var 3) (.ix (.var 1) (.var 2))))) (.ret false (.lit (.bl false))) .nop))))
  (fun ρ=>∃ s2 s3,ρ=[.im (hE h),.im (hE h),s2,s3]) (ds:=(List.range h.length).map fun (k:Nat)=>D.int k) ⟨.un,.un,rfl⟩ (by
   rintro d hd ρ ⟨s2,s3,rfl⟩
   obtain ⟨k,hk,rfl⟩:=List.mem_map.mp hd
   have hk:=List.mem_range.mp hk
   obtain ⟨c,hc⟩:∃ c,h[k]?=some c:=⟨_,List.getElem?_eq_getElem hk⟩
   have ec:atI (h.map cE') (k:Int)=some (cE' c):=dY (by rw [List.getElem?_map,hc]; rfl)
   refine ⟨_,rfl,_,aE (aH (d:=cE' c) ?_) (aE (cD ?_ aU) (cD ?_ aU)),_,_,rfl⟩
   ·show ev G _ [.im (hE h),.im (hE h),.im (.int k),s3]=_
    unfold hE
    simp only [zz,yy,aA,aB,ec]
   ·show ev G _ (view [.im (hE h),.im (hE h),.im (.int k),.im (cE' c)])=_
    simp only [bS,cF,aY]
    unfold cE'
    refine fA (x:=false) (y:=false) (by simp only [zz,yy,aA,aB,QX,cQ,Bool.not_true]) fun _=>fA (x:=false) (y:=false) ?_ fun _=>?_
    ·simp only [zz,yy,aA,aB]; rfl
    ·simp only [zz,yy,aA,aB,iW.1,hw,cQ,Bool.not_true]
   ·show ev G _ (view [.im (hE h),.im (hE h),.im (.int k),.im (cE' c)])=_
    simp only [bS,cF,aY]
    refine fA (x:=false) (y:=false) (by unfold cE'; simp only [zz,yy,aA,aB,iW.2.1,mC,cQ,Bool.not_true]) fun _=>fA (x:=false) (y:=false) (by unfold cE'; simp only [zz,yy,aA,aB,iW.2.2,mC,cQ,Bool.not_true]) fun _=>?_
    unfold hE
    simp only [zz,yy,aA,aB,ec]
    exact ne_self xV KM)
 refine aE ((cP (d:=.tup [.int ((h.length:Nat):Int)]) ?_ (dQ (by omega))).trans h1) (aR (by simp only [zz,yy,aA,aB]))
 unfold hE
 simp only [zz,yy,aA,aB,List.length_map]
structure Fold where
 sd:Side
 over:Bool
 k:Nat
noncomputable def Fold.d (f:Fold):D:=bI f.sd f.over f.k
theorem xU {f:Fold}:plain f.d=true:=by
 obtain ⟨sd,over,k⟩:=f
 have:okS sd.str=true:=by cases sd<;>decide +kernel
 show (okS sd.str&&(true&&(true&&true)))=true
 rw [this]; rfl
end
end Pg
end Z
namespace Z
open PySem
namespace Pg
structure Sits (T:Table) (w h:Nat) (sp:List Spot):Prop where
 lk:Lk T sp
 rect:Rect T w h
 full:jS T
 w64:w≤64
 h64:h≤64
 len:sp.length≤64
section
variable {G:GS}{T:Table}{w h:Nat}{sp:List Spot}
theorem Sits.xlt (S:Sits T w h sp) {s:Spot} (hs:s ∈ sp):s.x<w:=by
 obtain ⟨i,hi,rfl⟩:=List.getElem_of_mem hs
 exact S.lk.al_lt S.rect .west (List.getElem?_eq_getElem hi)
theorem Sits.ylt (S:Sits T w h sp) {s:Spot} (hs:s ∈ sp):s.y<h:=by
 obtain ⟨i,hi,rfl⟩:=List.getElem_of_mem hs
 exact S.lk.al_lt S.rect .north (List.getElem?_eq_getElem hi)
theorem Sits.some_at (S:Sits T w h sp) {x y:Nat} (hx:x<w) (hy:y<h):∃ s ∈ sp,s.x=x∧s.y=y:=by
 have hy':y<T.length:=by rw [S.rect.len]; exact hy
 have hm:T.getD y [] ∈ T:=by rw [List.getD_eq_getElem?_getD,List.getElem?_eq_getElem hy']; exact List.getElem_mem hy'
 have hne:hAt T x y≠[]:=S.full _ hm _ (getD_mem (by rw [S.rect.row _ hm]; exact hx))
 cases e:hAt T x y with
 | nil=>exact absurd e hne
 | cons c r =>
  obtain ⟨i,s,a1,a2,a3,_⟩:=(S.lk.mem x y c).mp (by rw [e]; simp)
  exact ⟨s,List.mem_of_getElem? a1,a2,a3⟩
theorem Sits.ne (S:Sits T w h sp):sp≠[]:=by
 have:=S.rect.w1
 have:=S.rect.h1
 obtain ⟨s,hs,_⟩:=S.some_at (x:=0) (y:=0) (by omega) (by omega)
 intro z
 rw [z] at hs
 cases hs
theorem Sits.al_lt (S:Sits T w h sp) (sd:Side):∀ s ∈ sp,s.al sd.up<ext sd w h:=fun s hs=>by
 obtain ⟨i,hi,rfl⟩:=List.getElem_of_mem hs
 exact S.lk.al_lt S.rect sd (List.getElem?_eq_getElem hi)
theorem Sits.al_ex (S:Sits T w h sp) (sd:Side):∃ s ∈ sp,s.al sd.up+1=ext sd w h:=by
 have h1:=S.rect.w1
 have h2:=S.rect.h1
 unfold ext Spot.al
 cases sd.up with
 | true =>
  obtain ⟨s,hs,a,b⟩:=S.some_at (x:=w-1) (y:=0) (by omega) (by omega)
  exact ⟨s,hs,by simp only [if_true]; omega⟩
 | false =>
  obtain ⟨s,hs,a,b⟩:=S.some_at (x:=0) (y:=h-1) (by omega) (by omega)
  exact ⟨s,hs,by simp only [Bool.false_eq_true,if_false]; omega⟩
theorem Lk.short (L:Lk T sp) {x y:Nat}:(hAt T x y).length≤sp.length:=by
 rw [← AI L]
 unfold lay
 have:=List.length_filterMap_le (kN sp x y) (List.range sp.length)
 rwa [List.length_range] at this
theorem Sits.few (S:Sits T w h sp):fU 64 T:=by
 intro s hs hp hm
 obtain ⟨y,hy,rfl⟩:=List.getElem_of_mem hs
 obtain ⟨x,hx,rfl⟩:=List.getElem_of_mem hm
 have e:hAt T x y=T[y][x]:=by
  unfold hAt
  rw [List.getD_eq_getElem?_getD (l:=T),List.getElem?_eq_getElem hy]
  simp [hx]
 rw [← e]
 exact Nat.le_trans S.lk.short S.len
theorem Sits.fold (S:Sits T w h sp) {sd:Side} {over:Bool} {c:Nat} {top low:Int} (h1:1≤c) (h2:c<ext sd w h) (ht:∀ s ∈ sp,s.z≤top) (hl:∀ s ∈ sp,low≤s.z) :
  Sits (foldT sd over c T) (if sd.up then max c (w-c) else w) (if sd.up then h else max c (h-c)) (sp.map (aV sd over c (max c (ext sd w h-c)) top low)):=by
 have a:=S.w64
 have b:=S.h64
 have h2':c<if sd.up then w else h:=h2
 refine ⟨S.lk.fold S.rect h1 h2 ht hl,S.rect.foldT h1 h2,S.full.foldT S.rect h1 h2,?_,?_,by rw [List.length_map]; exact S.len⟩
 ·split
  ·rename_i hu; rw [if_pos hu] at h2'; omega
  ·exact a
 ·split
  ·exact b
  ·rename_i hu; rw [if_neg hu] at h2'; omega
theorem FG {c r:Nat} (hc:1≤c) (hr:1≤r) (hcr:c*r≤64):Sits (eW c r) c r (cZ c r):=
 ⟨RH hc,FH hc hr,FI,Nat.le_trans (Nat.le_mul_of_pos_right c hr) hcr,Nat.le_trans (Nat.le_mul_of_pos_left r hc) hcr,by rw [oH]; exact hcr⟩
theorem aFT (S:Sits T w h sp):bf .max [.lst (sp.map fun s=>D.int (s.x:Nat))]=some (.int ((w:Int)-1)):=by
 have:=S.rect.w1
 refine yG (f:=fun s:Spot=>((s.x:Nat):Int)) (fun s hs=>by have:=S.xlt hs; omega) ?_
 obtain ⟨s,hs,a,_⟩:=S.some_at (x:=w-1) (y:=0) (by omega) (by have:=S.rect.h1; omega)
 exact ⟨s,hs,by omega⟩
theorem aFS (S:Sits T w h sp):bf .max [.lst (sp.map fun s=>D.int (s.y:Nat))]=some (.int ((h:Int)-1)):=by
 have:=S.rect.h1
 refine yG (f:=fun s:Spot=>((s.y:Nat):Int)) (fun s hs=>by have:=S.ylt hs; omega) ?_
 obtain ⟨s,hs,_,a⟩:=S.some_at (x:=0) (y:=h-1) (by have:=S.rect.w1; omega) (by omega)
 exact ⟨s,hs,by omega⟩
theorem aGk {ρ:List Sl} {v:Nat} (h1:slot ρ v=some (bD sp)):ev G (.comp 2 [] [1] false .seq (.var v) (.lit (.bl true)) (.ix (.var 1) (.lit (.int 0)))) ρ=some (.lst (sp.map fun s=>D.int (s.x:Nat))):=
 tV (f:=fun s=>((s.x:Nat):Int)) h1 fun s _=>⟨[.un,.im (spE s)],rfl,by simp only [zz,yy,aA,aB,spE,at5.1]⟩
theorem aGj {ρ:List Sl} {v:Nat} (h1:slot ρ v=some (bD sp)):ev G (.comp 2 [] [1] false .seq (.var v) (.lit (.bl true)) (.ix (.var 1) (.lit (.int 1)))) ρ=some (.lst (sp.map fun s=>D.int (s.y:Nat))):=
 tV (f:=fun s=>((s.y:Nat):Int)) h1 fun s _=>⟨[.un,.im (spE s)],rfl,by simp only [zz,yy,aA,aB,spE,at5.2.1]⟩
noncomputable def LD:IS:=(.iff (.not (.tr (.call "_law_whole" (.cons (.var 7) .nil)))) (.ret false (.lit (.bl false))) .nop)
noncomputable def uE:IS:=(.iff (.not (.tr (.call "_law_same_heap" (.cons (.meth (.var 0) "heap" (.cons (.var 9) (.cons (.var 8) .nil))) (.cons (.call "_law_heap" (.cons (.var 1) (.cons (.var 9) (.cons (.var 8) .nil)))) .nil))))) (.ret false (.lit (.bl false))) .nop)
noncomputable def eU:IS:=(.seq (.set 4 (.bin .add (.lit (.int 1)) (.bcall .max (.cons (.comp 2 [] [1] false .seq (.var 1) (.lit (.bl true)) (.ix (.var 1) (.lit (.int 0)))) .nil)))) (.seq (.set 5 (.bin .add (.lit (.int 1)) (.bcall .max (.cons (.comp 2 [] [1] false .seq (.var 1) (.lit (.bl true)) (.ix (.var 1) (.lit (.int 1)))) .nil)))) (.seq (.set 6 (.lst (.cons (.fld (.var 0) "columns") (.cons (.fld (.var 0) "rows") (.cons (.fld (.var 0) "wide") (.cons (.fld (.var 0) "high") .nil)))))) (.seq (.loop [7] false .seq (.var 6) LD) (.seq (.iff (.bin .ne (.var 6) (.lst (.cons (.var 2) (.cons (.var 3) (.cons (.var 4) (.cons (.var 5) .nil)))))) (.ret false (.lit (.bl false))) .nop) (.seq (.loop [8] false .rng (.tup (.cons (.var 5) .nil)) (.loop [9] false .rng (.tup (.cons (.var 4) .nil)) uE)) (.ret false (.lit (.bl true)))))))))
theorem rO (hf:G.fl "Pile" = pFl) (hw:∀ i:Int,G.fn "_law_whole" [.int i]=some (.ok (.bl true)))
  (hsh:∀ hp:cV,hp.length≤1000→G.fn "_law_same_heap" [hE hp,hE hp]=some (.ok (.bl true)))
  (hlh:∀ (T:Table) (sp:List Spot) (x y:Nat),Lk T sp→sp.length≤1000→(hAt T x y).length<64→G.fn "_law_heap" [bD sp,.int x,.int y]=some (.ok (hE (hAt T x y))))
  (hhp:∀ (c r w h:Nat) (T:Table) (F S:List D) (x y:Nat),Rect T w h→x<w→y<h→G.me "Pile" "heap" [aL c r w h T F S,.int x,.int y]=some (.ok (hE (hAt T x y))))
  {c r:Nat} {F C:List D} (S:Sits T w h sp) (hs:∀ x y,(hAt T x y).length<64):aN G 10 eU [aL c r w h T F C,bD sp,.int c,.int r]=some (.ok (.bl true)):=by
 have w64:=S.w64
 have h64:=S.h64
 have e0:∀ r',ev G (.var 0) (.im (aL c r w h T F C)::r')=some (bJ c r w h (T.map sE) F C):=fun _=>by simp only [zz,yy]; rfl
 refine aK (ρ:=[.im (aL c r w h T F C),.im (bD sp),.im (.int c),.im (.int r),.un,.un,.un,.un,.un,.un]) rfl ?_
 unfold eU
 refine aE (aH (d:=.int (w:Nat)) ?_) (aE (aH (d:=.int (h:Nat)) ?_) (aE (aH (d:=.lst [.int c,.int r,.int w,.int h]) ?_) ?_))
 ·rw [bG,gS,aI,aGk (sp:=sp) (by simp only [yy])]
  simp only [zz,yy,aA,aB,aFT S]
  congr 2
  omega
 ·simp only [List.set]
  rw [bG,gS,aI,aGj (sp:=sp) (by simp only [yy])]
  simp only [zz,yy,aA,aB,aFS S]
  congr 2
  omega
 ·simp only [List.set]
  rw [zH,aI,gJ hf (e0 _),aI,nT hf (e0 _),aI,iJ hf (e0 _),aI,iK hf (e0 _)]
  simp only [zz,yy,aA,aB]
 simp only [List.set]
 obtain ⟨ρ1,l1,s7,rfl⟩:=jI (bind:=bE [7] false) (body:=ex G LD) (fun ρ=>∃ s7,ρ=[.im (aL c r w h T F C),.im (bD sp),.im (.int c),.im (.int r),.im (.int w),.im (.int h),.im (.lst [.int c,.int r,.int w,.int h]),s7,.un,.un]) (ds:=[.int c,.int r,.int w,.int h]) ⟨.un,rfl⟩ (by
  rintro d hd ρ ⟨s7,rfl⟩
  obtain ⟨i,rfl⟩:∃ i:Int,d=.int i:=by
   simp only [List.mem_cons,List.not_mem_nil,or_false] at hd
   rcases hd with rfl|rfl|rfl|rfl<;>exact ⟨_,rfl⟩
  refine ⟨_,rfl,_,cD ?_ aU,_,rfl⟩
  simp only [List.set]
  simp only [zz,yy,aA,aB,hw,cQ,Bool.not_true])
 refine aE ((cP (d:=.lst [.int c,.int r,.int w,.int h]) (by simp only [zz,yy]) dP).trans l1) (aE (cD ?_ aU) ?_)
 ·simp only [bS,cF,aY]
  simp only [zz,yy,aA,aB]
  exact ne_self rfl (by simp [deq,iT])
 obtain ⟨ρ2,l2,t7,t8,t9,rfl⟩:=jI (bind:=bE [8] false) (body:=ex G (.loop [9] false .rng (.tup (.cons (.var 4) .nil)) uE)) (fun ρ=>∃ t7 t8 t9,ρ=[.im (aL c r w h T F C),.im (bD sp),.im (.int c),.im (.int r),.im (.int w),.im (.int h),.im (.lst [.int c,.int r,.int w,.int h]),t7,t8,t9]) (ds:=(List.range h).map fun (k:Nat)=>D.int k) ⟨s7,.un,.un,rfl⟩ (by
  rintro d hd ρ ⟨t7,t8,t9,rfl⟩
  obtain ⟨y,hy,rfl⟩:=List.mem_map.mp hd
  have hy:=List.mem_range.mp hy
  obtain ⟨ρ3,l3,u9,rfl⟩:=jI (bind:=bE [9] false) (body:=ex G uE) (fun ρ=>∃ u9,ρ=[.im (aL c r w h T F C),.im (bD sp),.im (.int c),.im (.int r),.im (.int w),.im (.int h),.im (.lst [.int c,.int r,.int w,.int h]),t7,.im (.int y),u9]) (ds:=(List.range w).map fun (k:Nat)=>D.int k) ⟨t9,rfl⟩ (by
   rintro d hd ρ ⟨u9,rfl⟩
   obtain ⟨x,hx,rfl⟩:=List.mem_map.mp hd
   have hx:=List.mem_range.mp hx
   refine ⟨_,rfl,_,cD ?_ aU,_,rfl⟩
   show ev G _ [.im (aL c r w h T F C),.im (bD sp),.im (.int c),.im (.int r),.im (.int w),.im (.int h),.im (.lst [.int c,.int r,.int w,.int h]),cF t7,.im (.int y),.im (.int x)]=_
   have em:=yA (G:=G) (c:=c) (r:=r) (w:=w) (h:=h) (T:=T.map sE) (F:=F) (S:=C) (m:="heap") (es:=.cons (.var 9) (.cons (.var 8) .nil)) (ds:=[.int x,.int y]) (o:=some (.ok (hE (hAt T x y)))) (ρ:=[.im (aL c r w h T F C),.im (bD sp),.im (.int c),.im (.int r),.im (.int w),.im (.int h),.im (.lst [.int c,.int r,.int w,.int h]),cF t7,.im (.int y),.im (.int x)]) rfl (e0 _) (by simp only [zz,yy,aA,aB]) (hhp c r w h T F C x y S.rect hx hy)
   rw [tT,qI,cK,aI,em]
   have hle:=hs x y
   simp only [zz,yy,aA,aB,hlh T sp x y S.lk (by have:=S.len; omega) hle,hsh (hAt T x y) (by omega),cQ,Bool.not_true])
  refine ⟨_,rfl,_,(cP (d:=.tup [.int ((w:Nat):Int)]) ?_ (dQ (by omega))).trans l3,_,_,_,rfl⟩
  simp only [List.set]
  simp only [zz,yy,aA,aB])
 refine aE ((cP (d:=.tup [.int ((h:Nat):Int)]) ?_ (dQ (by omega))).trans l2) (aR (by simp only [zz,yy,aA,aB]))
 simp only [zz,yy,aA,aB]
end
end Pg
end Z
namespace Z
open PySem
theorem dB {i k:Int} {d:D} {r:List (Int × D)}:dD ((i,d)::r) k=if i=k then some d else dD r k:=by
 unfold dD
 by_cases e:i=k
 ·rw [List.find?_cons_of_pos (by simpa using e),if_pos e]; rfl
 ·rw [List.find?_cons_of_neg (by simpa using e),if_neg e]
theorem uP {k:Int}:∀ {kvs:List (Int × D)},(kvs.any fun kv=>decide (kv.1=k))=(dD kvs k).isSome
 | []=>rfl
 | (i,d)::r=>by
  rw [List.any_cons,dB,uP (kvs:=r)]
  by_cases e:i=k
  ·rw [if_pos e,decide_eq_true e]; rfl
  ·rw [if_neg e,decide_eq_false e]; rfl
theorem nF {k j:Int} {d:D}:∀ {kvs:List (Int × D)},dD (kvs.map fun kv=>if kv.1=k then (kv.1,d) else kv) j=if j=k then (dD kvs j).map fun _=>d else dD kvs j
 | []=>by
  show none=_
  split<;>rfl
 | (i,e)::r=>by
  rw [List.map_cons]
  by_cases h:i=k
  ·rw [if_pos h,dB,dB,nF (kvs:=r)]
   by_cases g:i=j
   ·rw [if_pos g,if_pos g,if_pos (g.symm.trans h)]; rfl
   ·rw [if_neg g,if_neg g]
  ·rw [if_neg h,dB,dB,nF (kvs:=r)]
   by_cases g:i=j
   ·rw [if_pos g,if_pos g,if_neg (fun z=>h (g.trans z))]
   ·rw [if_neg g,if_neg g]
theorem pM {k j:Int} {d:D}:∀ {kvs:List (Int × D)},dD (kvs++[(k,d)]) j=(dD kvs j).or (if k=j then some d else none)
 | []=>by
  rw [List.nil_append,dB]
  split<;>rfl
 | (i,e)::r=>by
  rw [List.cons_append,dB,dB,pM (kvs:=r)]
  split<;>rfl
theorem uO {kvs:List (Int × D)} {k j:Int} {d:D}:dD (lG kvs k d) j=if j=k then some d else dD kvs j:=by
 unfold lG
 rw [uP]
 by_cases h:(dD kvs k).isSome=true
 ·rw [if_pos h,nF]
  by_cases e:j=k
  ·subst e
   rw [if_pos rfl,if_pos rfl]
   obtain ⟨x,hx⟩:=Option.isSome_iff_exists.mp h
   rw [hx]; rfl
  ·rw [if_neg e,if_neg e]
 ·rw [if_neg h,pM]
  by_cases e:j=k
  ·subst e
   rw [if_pos rfl,if_pos rfl,Option.not_isSome_iff_eq_none.mp h]; rfl
  ·rw [if_neg e,if_neg (Ne.symm e)]
   cases dD kvs j<;>rfl
theorem GZ {kvs:List (Int × D)} {k:Int} {d:D}:(lG kvs k d).length≤kvs.length+1:=by
 unfold lG
 split
 ·rw [List.length_map]; omega
 ·rw [List.length_append]; exact Nat.le_refl _
theorem RU {G:GS} {ρ:List Sl} {x:Nat} {k e:IE} {d:D} {i:Int} {kvs:List (Int × D)} (h1:ev G e ρ=some d) (h2:ev G k ρ=some (.int i)) (h3:ρ[x]?=some (.mu (.dct kvs))) (h4:kvs.length<1000000):ex G (.put x k e) ρ=some (.nx (ρ.set x (.mu (.dct (lG kvs i d))))):=by
 show (evs G e ρ).bind (fun d=>(intOf (evs G k ρ)).bind fun i=>_)=_
 rw [jX h1,jX h2]
 show (match ρ[x]? with|some (.mu o)=>_|_=>_)=_
 rw [h3]
 show Option.map _ (if kvs.length<big then some (D.dct (lG kvs i d)) else none)=_
 rw [if_pos (by unfold big; exact h4)]; rfl
theorem RT {G:GS} {ρ:List Sl} {x:Nat}:ex G (.setd x) ρ=some (.nx (ρ.set x (.mu (.dct [])))):=id rfl
theorem mZ {G:GS} {ρ:List Sl} {x:Nat} {d:D} (h:ρ[x]?=some (.mu d)):ex G (.retm x) ρ=some (.rt d):=by
 show (match ρ[x]? with|some (.mu d)=>some (Out.rt d)|_=>none)=_
 rw [h]
namespace Pg
section
variable {G:GS}{T:Table}{w h:Nat}{sp:List Spot}
noncomputable def wI (s:Spot):Int:=if s.e then s.x else s.x+1
noncomputable def vK (s:Spot):Int:=if s.n then s.y else s.y+1
noncomputable def iL (s:Spot):D:=.tup [.int (wI s),.int (vK s)]
noncomputable def zL:IS:=(.put 1 (.var 4) (.tup (.cons (.ite (.tr (.var 5)) (.var 3) (.bin .add (.var 3) (.lit (.int 1)))) (.cons (.ite (.tr (.var 6)) (.var 2) (.bin .add (.var 2) (.lit (.int 1)))) .nil))))
noncomputable def CT:IS:=(.loop [4,5,6] true .seq (.meth (.var 0) "heap" (.cons (.var 3) (.cons (.var 2) .nil))) zL)
noncomputable def uF:IS:=(.loop [3] false .rng (.tup (.cons (.fld (.var 0) "wide") .nil)) CT)
noncomputable def fG:IS:=(.seq (.setd 1) (.seq (.loop [2] false .rng (.tup (.cons (.fld (.var 0) "high") .nil)) uF) (.retm 1)))
structure Lines (sp:List Spot) (kvs:List (Int × D)) (n:Nat) (P:Nat→Spot→Prop):Prop where
 ok:∀ (k:Int) (d:D),dD kvs k=some d→∃ (i:Nat) (s:Spot),k=i∧sp[i]?=some s∧d=iL s
 has:∀ (i:Nat) (s:Spot),sp[i]?=some s→P i s→(dD kvs i).isSome=true
 len:kvs.length≤n
theorem Lines.put {kvs:List (Int × D)} {n:Nat} {P Q:Nat→Spot→Prop} (L:Lines sp kvs n P) {i:Nat} {s:Spot} (hs:sp[i]?=some s) (h:∀ j t,sp[j]?=some t→Q j t→P j t∨j=i):Lines sp (lG kvs i (iL s)) (n+1) Q:=by
 refine ⟨fun k d e=>?_,fun j t ht hq=>?_,Nat.le_trans GZ (Nat.succ_le_succ L.len)⟩
 ·rw [uO] at e
  by_cases z:k=i
  ·rw [if_pos z] at e
   cases e
   exact ⟨i,s,z,hs,rfl⟩
  ·rw [if_neg z] at e
   exact L.ok k d e
 ·rw [uO]
  by_cases z:(j:Int)=i
  ·rw [if_pos z]; rfl
  ·rw [if_neg z]
   rcases h j t ht hq with g|g
   ·exact L.has j t ht g
   ·exact absurd (by rw [g]) z
theorem Lines.mono {kvs:List (Int × D)} {n m:Nat} {P Q:Nat→Spot→Prop} (L:Lines sp kvs n P) (hm:n≤m) (h:∀ j t,sp[j]?=some t→Q j t→P j t):Lines sp kvs m Q:=
 ⟨L.ok,fun i s hs hq=>L.has i s hs (h i s hs hq),Nat.le_trans L.len hm⟩
theorem Lines.at_ {kvs:List (Int × D)} {n:Nat} {P:Nat→Spot→Prop} (L:Lines sp kvs n P) {i:Nat} {s:Spot} (hs:sp[i]?=some s) (hp:P i s):dD kvs i=some (iL s):=by
 obtain ⟨d,hd⟩:=Option.isSome_iff_exists.mp (L.has i s hs hp)
 obtain ⟨j,t,e,ht,rfl⟩:=L.ok _ _ hd
 have:j=i:=by exact_mod_cast e.symm
 subst this
 rw [hs] at ht
 cases ht
 exact hd
noncomputable def fr7 (P:D) (kvs:List (Int × D)) (a b c d e:Sl):List Sl:=[.im P,.mu (.dct kvs),a,b,c,d,e]
theorem pH (hf:G.fl "Pile" = pFl)
  (hhp:∀ (c r w h:Nat) (T:Table) (F S:List D) (x y:Nat),Rect T w h→x<w→y<h→G.me "Pile" "heap" [aL c r w h T F S,.int x,.int y]=some (.ok (hE (hAt T x y))))
  {c r:Nat} {F C:List D} (S:Sits T w h sp):∃ kvs,aN G 7 fG [aL c r w h T F C]=some (.ok (.dct kvs))∧∀ (i:Nat) (s:Spot),sp[i]?=some s→dD kvs i=some (iL s):=by
 have w64:=S.w64
 have h64:=S.h64
 have e0:∀ r',ev G (.var 0) (.im (aL c r w h T F C)::r')=some (bJ c r w h (T.map sE) F C):=fun _=>by simp only [zz,yy]; rfl
 have cells:∀ (x y n:Nat) (kvs:List (Int × D)) (P:Nat→Spot→Prop) (s4 s5 s6:Sl),x<w→y<h→n+64<1000000→Lines sp kvs n P →
   ∃ ρ',eB (bE [4,5,6] true) (ex G zL) ((hAt T x y).map cE') (fr7 (aL c r w h T F C) kvs (.im (.int y)) (.im (.int x)) s4 s5 s6)=some (.nx ρ')∧∃ kvs' t4 t5 t6,ρ'=fr7 (aL c r w h T F C) kvs' (.im (.int y)) (.im (.int x)) t4 t5 t6∧Lines sp kvs' (n+64) (fun i s=>P i s∨(s.x=x∧s.y=y)):=by
  intro x y n kvs P s4 s5 s6 hx hy hn L
  have hl:(hAt T x y).length≤64:=Nat.le_trans S.lk.short S.len
  obtain ⟨ρ',a,kvs',t4,t5,t6,b,L'⟩:=dC (bind:=bE [4,5,6] true) (body:=ex G zL) (fun k ρ=>∃ kvs' t4 t5 t6,ρ=fr7 (aL c r w h T F C) kvs' (.im (.int y)) (.im (.int x)) t4 t5 t6∧Lines sp kvs' (n+k) (fun i s=>P i s∨((i:Int),s.e,s.n) ∈ (hAt T x y).take k))
   (ds:=(hAt T x y).map cE') (k:=0) (ρ:=fr7 (aL c r w h T F C) kvs (.im (.int y)) (.im (.int x)) s4 s5 s6) ⟨kvs,s4,s5,s6,rfl,L.mono (by omega) fun j t _ q=>q.elim id fun z=>by simp at z⟩ (by
    rintro k d ρ hd ⟨kvs',t4,t5,t6,rfl,L'⟩
    rw [List.getElem?_map] at hd
    obtain ⟨cl,hcl,rfl⟩:=Option.map_eq_some_iff.mp hd
    have hk:k<(hAt T x y).length:=(List.getElem?_eq_some_iff.mp hcl).1
    obtain ⟨i,s,hs,sx,sy,rfl⟩:=(S.lk.mem x y cl).mp (List.mem_of_getElem? hcl)
    refine ⟨fr7 (aL c r w h T F C) kvs' (.im (.int y)) (.im (.int x)) (.im (.int i)) (.im (.bl s.e)) (.im (.bl s.n)),rfl,_,RU (kvs:=kvs') (i:=i) (d:=iL s) ?_ ?_ rfl (by have:=L'.len; omega),lG kvs' i (iL s),_,_,_,rfl,?_⟩
    ·unfold fr7 iL wI vK
     rw [sx,sy]
     cases s.e<;>cases s.n<;>(simp only [zz,yy,aA,aB,cQ]; rfl)
    ·unfold fr7; simp only [zz,yy]
    ·refine (L'.put hs fun j t ht q=>?_).mono (by omega) fun _ _ _ q=>q
     rcases q with q|q
     ·exact .inl (.inl q)
     ·rw [Nat.zero_add,List.take_add_one,hcl] at q
      rcases List.mem_append.mp q with q|q
      ·exact .inl (.inr (by rw [Nat.zero_add]; exact q))
      ·refine .inr ?_
       have q:((j:Int),t.e,t.n)=((i:Int),s.e,s.n):=by simpa using q
       have q:(j:Int)=i:=congrArg (·.1) q
       exact_mod_cast q)
  refine ⟨ρ',a,kvs',t4,t5,t6,b,L'.mono (by rw [List.length_map]; omega) fun j t ht q=>q.imp id fun ⟨q1,q2⟩=>?_⟩
  rw [List.length_map,Nat.zero_add,List.take_length]
  exact (S.lk.mem x y _).mpr ⟨j,t,ht,q1,q2,rfl⟩
 have row:∀ (y n:Nat) (kvs:List (Int × D)) (P:Nat→Spot→Prop) (s3 s4 s5 s6:Sl),y<h→n+64*64+64<1000000→Lines sp kvs n P →
   ∃ ρ',ex G uF (fr7 (aL c r w h T F C) kvs (.im (.int y)) s3 s4 s5 s6)=some (.nx ρ')∧∃ kvs' t3 t4 t5 t6,ρ'=fr7 (aL c r w h T F C) kvs' (.im (.int y)) t3 t4 t5 t6∧Lines sp kvs' (n+64*64) (fun i s=>P i s∨s.y=y):=by
  intro y n kvs P s3 s4 s5 s6 hy hn L
  obtain ⟨ρ',a,kvs',t3,t4,t5,t6,b,L'⟩:=dC (bind:=bE [3] false) (body:=ex G CT) (fun k ρ=>∃ kvs' t3 t4 t5 t6,ρ=fr7 (aL c r w h T F C) kvs' (.im (.int y)) t3 t4 t5 t6∧Lines sp kvs' (n+k*64) (fun i s=>P i s∨(s.y=y∧s.x<k)))
   (ds:=(List.range w).map fun (k:Nat)=>D.int k) (k:=0) (ρ:=fr7 (aL c r w h T F C) kvs (.im (.int y)) s3 s4 s5 s6) ⟨kvs,s3,s4,s5,s6,rfl,L.mono (by omega) fun j t _ q=>q.elim id fun z=>by omega⟩ (by
    rintro x d ρ hd ⟨kvs',t3,t4,t5,t6,rfl,L'⟩
    rw [List.getElem?_map] at hd
    obtain ⟨x',hx',rfl⟩:=Option.map_eq_some_iff.mp hd
    have hx:x<w:=by have:=(List.getElem?_eq_some_iff.mp hx').1; rwa [List.length_range] at this
    obtain rfl:x=x':=by rw [List.getElem?_range hx] at hx'; exact Option.some.inj hx'
    rw [Nat.zero_add] at L'
    have bx:n+x*64+64<1000000:=by have:x*64≤64*64:=Nat.mul_le_mul_right 64 (by omega); omega
    obtain ⟨ρ2,l2,kvs2,u4,u5,u6,rfl,L2⟩:=cells x y _ kvs' _ t4 t5 t6 hx hy bx L'
    refine ⟨fr7 (aL c r w h T F C) kvs' (.im (.int y)) (.im (.int x)) t4 t5 t6,rfl,_,(cP (d:=hE (hAt T x y)) ?_ dP).trans l2,kvs2,_,u4,u5,u6,rfl,L2.mono (by omega) fun j t ht q=>?_⟩
    ·exact yA (c:=c) (r:=r) (w:=w) (h:=h) (T:=T.map sE) (F:=F) (S:=C) (ds:=[.int x,.int y]) rfl (e0 _) (by simp only [zz,yy,aA,aB]) (hhp c r w h T F C x y S.rect hx hy)
    ·rcases q with q|⟨q1,q2⟩
     ·exact .inl (.inl q)
     ·by_cases z:t.x=x
      ·exact .inr ⟨z,q1⟩
      ·exact .inl (.inr ⟨q1,by omega⟩))
  refine ⟨ρ',(cP (d:=.tup [.int ((w:Nat):Int)]) ?_ (dQ (by omega))).trans a,kvs',t3,t4,t5,t6,b,L'.mono ?_ fun j t ht q=>q.imp id fun q=>⟨q,?_⟩⟩
  ·unfold fr7
   rw [zG,aI,iJ hf (e0 _)]
   simp only [zz,yy,aA,aB]
  ·rw [List.length_map,List.length_range]
   have:(0+w)*64≤64*64:=Nat.mul_le_mul_right 64 (by omega)
   omega
  ·rw [List.length_map,List.length_range,Nat.zero_add]
   exact S.xlt (List.mem_of_getElem? ht)
 obtain ⟨ρ',a,kvs',t2,t3,t4,t5,t6,rfl,L'⟩:=dC (bind:=bE [2] false) (body:=ex G uF) (fun k ρ=>∃ kvs' t2 t3 t4 t5 t6,ρ=fr7 (aL c r w h T F C) kvs' t2 t3 t4 t5 t6∧Lines sp kvs' (k*(64*64)) (fun i s=>s.y<k))
  (ds:=(List.range h).map fun (k:Nat)=>D.int k) (k:=0) (ρ:=fr7 (aL c r w h T F C) [] .un .un .un .un .un) ⟨[],.un,.un,.un,.un,.un,rfl,⟨fun _ _ z=>(nomatch (show none=some _ from z)),fun _ _ _ z=>absurd z (Nat.not_lt_zero _),Nat.zero_le _⟩⟩ (by
   rintro y d ρ hd ⟨kvs',t2,t3,t4,t5,t6,rfl,L'⟩
   rw [List.getElem?_map] at hd
   obtain ⟨y',hy',rfl⟩:=Option.map_eq_some_iff.mp hd
   have hy:y<h:=by have:=(List.getElem?_eq_some_iff.mp hy').1; rwa [List.length_range] at this
   obtain rfl:y=y':=by rw [List.getElem?_range hy] at hy'; exact Option.some.inj hy'
   rw [Nat.zero_add] at L'
   have by_:y*(64*64)+64*64+64<1000000:=by have:y*(64*64)≤64*(64*64):=Nat.mul_le_mul_right _ (by omega); omega
   obtain ⟨ρ2,l2,kvs2,u3,u4,u5,u6,rfl,L2⟩:=row y _ kvs' _ t3 t4 t5 t6 hy by_ L'
   exact ⟨fr7 (aL c r w h T F C) kvs' (.im (.int y)) t3 t4 t5 t6,rfl,_,l2,kvs2,_,u3,u4,u5,u6,rfl,L2.mono (by omega) fun j t ht q=>by omega⟩)
 refine ⟨kvs',aK (ρ:=[.im (aL c r w h T F C),.un,.un,.un,.un,.un,.un]) rfl (aE RT (aE ((cP (d:=.tup [.int ((h:Nat):Int)]) ?_ (dQ (by omega))).trans a) (mZ rfl))),fun i s hs=>L'.at_ hs ?_⟩
 ·simp only [List.set]
  rw [zG,aI,iK hf (e0 _)]
  simp only [zz,yy,aA,aB]
 ·rw [List.length_map,List.length_range,Nat.zero_add]
  exact S.ylt (List.mem_of_getElem? hs)
end
end Pg
end Z
namespace Z
open PySem
theorem GO {α:Type} {l:List α} {x:Nat} {a:α} (h:l[x]?=some a):l.set x a=l:=by
 apply List.ext_getElem?
 intro i
 by_cases e:x=i
 ·subst e
  rw [List.getElem?_set_self (List.getElem?_eq_some_iff.mp h).1,h]
 ·rw [List.getElem?_set_ne e]
theorem kT {G:GS} {ρ:List Sl} {x:Nat} {t e:IE} {b:Bool} {d:D} {ds:List D} (ht:ev G t (view ρ)=some (.bl b)) (he:ev G e ρ=some d) (hx:ρ[x]?=some (.mu (.lst ds))) (hl:ds.length<1000000):ex G (.iff t (.app x e) .nop) ρ=some (.nx (ρ.set x (.mu (.lst (ds++if b then [d] else []))))):=by
 cases b with
 | true=>exact gE ht (Pg.zF he hx hl)
 | false =>
  rw [cD ht aU,if_neg (by decide),List.append_nil,GO hx]
theorem qG {bind:D→List Sl→Option (List Sl)} {body:List Sl→Option Out} (P:Nat→List Sl→Prop) {n:Nat} {ρ:List Sl} (h0:P 0 ρ) (st:∀ k,k<n→∀ ρ,P k ρ→∃ ρ1,bind (.int (k:Nat)) ρ=some ρ1∧∃ ρ2,body ρ1=some (.nx ρ2)∧P (k+1) ρ2) :
  ∃ ρ',eB bind body ((List.range n).map fun (k:Nat)=>D.int k) ρ=some (.nx ρ')∧P n ρ':=by
 obtain ⟨ρ',a,b⟩:=dC (bind:=bind) (body:=body) P (ds:=(List.range n).map fun (k:Nat)=>D.int k) (k:=0) h0 fun k d ρ hd hp=>by
  rw [List.getElem?_map] at hd
  obtain ⟨k',hk',rfl⟩:=Option.map_eq_some_iff.mp hd
  have hk:k<n:=by have:=(List.getElem?_eq_some_iff.mp hk').1; rwa [List.length_range] at this
  obtain rfl:k=k':=by rw [List.getElem?_range hk] at hk'; exact Option.some.inj hk'
  rw [Nat.zero_add] at hp ⊢
  exact st k hk ρ hp
 exact ⟨ρ',a,by rw [List.length_map,List.length_range,Nat.zero_add] at b; exact b⟩
theorem lQ {α:Type} {enc:α→D} {bind:D→List Sl→Option (List Sl)} {body:List Sl→Option Out} (P:Nat→List Sl→Prop) {L:List α} {ρ:List Sl} (h0:P 0 ρ) (st:∀ k a,L[k]?=some a→∀ ρ,P k ρ→∃ ρ1,bind (enc a) ρ=some ρ1∧∃ ρ2,body ρ1=some (.nx ρ2)∧P (k+1) ρ2) :
  ∃ ρ',eB bind body (L.map enc) ρ=some (.nx ρ')∧P L.length ρ':=by
 obtain ⟨ρ',a,b⟩:=dC (bind:=bind) (body:=body) P (ds:=L.map enc) (k:=0) h0 fun k d ρ hd hp=>by
  rw [List.getElem?_map] at hd
  obtain ⟨x,hx,rfl⟩:=Option.map_eq_some_iff.mp hd
  rw [Nat.zero_add] at hp ⊢
  exact st k x hx ρ hp
 exact ⟨ρ',a,by rw [List.length_map,Nat.zero_add] at b; exact b⟩
namespace Pg
section
variable {G:GS}{T:Table}{w h:Nat}{sp:List Spot}
noncomputable def nb1 (c n k:Nat):List (Nat × Nat × Bool):=(if decide (k % c<c-1) then [(k,k+1,false)] else [])++(if decide (k+c<n) then [(k,k+c,true)] else [])
noncomputable def nbs (c n k:Nat):List (Nat × Nat × Bool):=(List.range k).flatMap (nb1 c n)
theorem nU {c n k:Nat}:nbs c n (k+1)=nbs c n k++nb1 c n k:=by
 unfold nbs
 rw [List.range_succ,List.flatMap_append,List.flatMap_cons,List.flatMap_nil,List.append_nil]
theorem QL {c n k:Nat}:(nb1 c n k).length≤2:=by
 unfold nb1
 rw [List.length_append]
 split<;>split<;>simp
theorem kL {c n:Nat}:∀ k,(nbs c n k).length≤2*k
 | 0=>Nat.zero_le _
 | k+1=>by
  rw [nU,List.length_append]
  have:=kL (c:=c) (n:=n) k
  have:=QL (c:=c) (n:=n) (k:=k)
  omega
theorem ZT {c n k:Nat} {j:Nat × Nat × Bool} (h:j ∈ nbs c n k):j.1<k:=by
 unfold nbs at h
 obtain ⟨i,hi,hj⟩:=List.mem_flatMap.mp h
 have hi:=List.mem_range.mp hi
 unfold nb1 at hj
 rcases List.mem_append.mp hj with q|q<;>(split at q<;>first|(simp only [List.mem_singleton] at q; rw [q]; exact hi)|(simp at q))
theorem SJ {α:Type} {a b:α}:atI [a,b] 0=some a∧atI [a,b] 1=some b:=⟨rfl,rfl⟩
noncomputable def nbD (j:Nat × Nat × Bool):D:=.tup [.int j.1,.int j.2.1,.bl j.2.2]
noncomputable def ER (sp:List Spot) (k:Nat) (l:Bool):Int:=match sp[k]? with
 | some s=>if l then vK s else wI s
 | none=>0
noncomputable def jD (sp:List Spot) (j:Nat × Nat × Bool):D:=.tup [.int j.1,.int j.2.1,.bl j.2.2,.int (ER sp j.1 j.2.2)]
noncomputable def jsE (sp:List Spot) (c r:Nat):D:=.lst ((nbs c (c*r) (c*r)).map (jD sp))
theorem AG {c n k:Nat} {α:Type} {f:Nat × Nat × Bool→α}:(nb1 c n k).map f=(if decide (k % c<c-1) then [f (k,k+1,false)] else [])++(if decide (k+c<n) then [f (k,k+c,true)] else []):=by
 unfold nb1
 rw [List.map_append]
 cases decide (k % c<c-1)<;>cases decide (k+c<n)<;>rfl
noncomputable def fF:IS:=(.seq (.set 2 (.bin .mul (.var 0) (.var 1))) (.seq (.setm 3 (.lst .nil)) (.seq (.loop [4] false .rng (.tup (.cons (.var 2) .nil)) (.seq (.iff (.bin .lt (.bin .mod (.var 4) (.var 0)) (.bin .sub (.var 0) (.lit (.int 1)))) (.app 3 (.tup (.cons (.var 4) (.cons (.bin .add (.var 4) (.lit (.int 1))) (.cons (.lit (.bl false)) .nil))))) .nop) (.iff (.bin .lt (.bin .add (.var 4) (.var 0)) (.var 2)) (.app 3 (.tup (.cons (.var 4) (.cons (.bin .add (.var 4) (.var 0)) (.cons (.lit (.bl true)) .nil))))) .nop))) (.retm 3))))
theorem AH {a b:Nat} (h:0<b):op2 .mod (.int (a:Int)) (.int (b:Int))=some (.int ((a % b:Nat):Int)):=(gK (by omega)).trans (by rw [Int.natCast_emod])
theorem RZ {a b:Nat} (h:0<b) (h1:b<1000000):op2 .fdiv (.int (a:Int)) (.int (b:Int))=some (.int ((a / b:Nat):Int)):=(jO (by omega) (by omega)).trans (by rw [Int.natCast_ediv])
theorem rZ {a b:Nat} (h:a≤1000000):op2 .mul (.int (a:Int)) (.int (b:Int))=some (.int ((a*b:Nat):Int)):=(vI (by omega) (by omega)).trans (by rw [Int.natCast_mul])
theorem tX {a b:Nat} (hb:1≤b):decide ((a:Int)<(b:Int)-1)=decide (a<b-1):=decide_eq_decide.mpr (by omega)
theorem pF {c r:Nat} (hc:1≤c) (hcr:c*r≤64) (hc6:c≤64):aN G 5 fF [.int c,.int r]=some (.ok (.lst ((nbs c (c*r) (c*r)).map nbD))):=by
 refine aK (ρ:=[.im (.int c),.im (.int r),.un,.un,.un]) rfl ?_
 refine aE (aH (d:=.int ((c*r:Nat):Int)) (by simp only [zz,yy,aA,aB,rZ (show c≤1000000 by omega)])) (aE (kS (ds:=[]) (by simp only [zz,yy,aB])) ?_)
 simp only [List.set]
 obtain ⟨ρ',l,s4,rfl⟩:=qG (bind:=bE [4] false) (body:=ex G (.seq (.iff (.bin .lt (.bin .mod (.var 4) (.var 0)) (.bin .sub (.var 0) (.lit (.int 1)))) (.app 3 (.tup (.cons (.var 4) (.cons (.bin .add (.var 4) (.lit (.int 1))) (.cons (.lit (.bl false)) .nil))))) .nop) (.iff (.bin .lt (.bin .add (.var 4) (.var 0)) (.var 2)) (.app 3 (.tup (.cons (.var 4) (.cons (.bin .add (.var 4) (.var 0)) (.cons (.lit (.bl true)) .nil))))) .nop)))
  (fun k ρ=>∃ s4,ρ=[.im (.int c),.im (.int r),.im (.int ((c*r:Nat):Int)),.mu (.lst ((nbs c (c*r) k).map nbD)),s4]) (n:=c*r) (ρ:=[.im (.int c),.im (.int r),.im (.int ((c*r:Nat):Int)),.mu (.lst []),.un]) ⟨_,rfl⟩ (by
   rintro k hk ρ ⟨s4,rfl⟩
   have hl:=kL (c:=c) (n:=c*r) k
   refine ⟨_,rfl,_,aE (kT (b:=decide (k % c<c-1)) (d:=nbD (k,k+1,false)) ?_ ?_ rfl (by rw [List.length_map]; omega)) (kT (b:=decide (k+c<c*r)) (d:=nbD (k,k+c,true)) ?_ ?_ rfl ?_),.im (.int k),?_⟩
   ·simp only [List.set]
    simp only [zz,yy,aA,aB,AH hc,tX hc]
   ·simp only [List.set]
    simp only [zz,yy,aA,aB]
    rfl
   ·simp only [List.set]
    simp only [zz,yy,aA,aB]
    exact congrArg (fun b=>some (D.bl b)) (decide_eq_decide.mpr (by omega))
   ·simp only [List.set]
    simp only [zz,yy,aA,aB]
    rfl
   ·rw [List.length_append,List.length_map]
    split<;>simp<;>omega
   ·simp only [List.set,nU,List.map_append,List.append_assoc,AG])
 exact aE ((cP (d:=.tup [.int ((c*r:Nat):Int)]) (by simp only [zz,yy,aA,aB]) (dQ (by omega))).trans l) (mZ rfl)
noncomputable def aGy:IS:=(.app 2 (.tup (.cons (.var 3) (.cons (.var 4) (.cons (.var 5) (.cons (.ite (.tr (.var 5)) (.ix (.ix (.var 1) (.var 3)) (.lit (.int 1))) (.ix (.ix (.var 1) (.var 3)) (.lit (.int 0)))) .nil))))))
noncomputable def fH:IS:=(.seq (.set 1 (.call "edge_lines" (.cons (.var 0) .nil))) (.seq (.setm 2 (.lst .nil)) (.seq (.loop [3,4,5] true .seq (.call "neighbours" (.cons (.fld (.var 0) "columns") (.cons (.fld (.var 0) "rows") .nil))) aGy) (.retm 2))))
theorem sA {k:Nat} {s:Spot} {l:Bool} (h:sp[k]?=some s):ER sp k l=if l then vK s else wI s:=by unfold ER; rw [h]
theorem pK (hf:G.fl "Pile" = pFl) {c r:Nat} {F C:List D} {kvs:List (Int × D)} (hel:G.fn "edge_lines" [aL c r w h T F C]=some (.ok (.dct kvs))) (hk:∀ (i:Nat) (s:Spot),sp[i]?=some s→dD kvs i=some (iL s))
  (hnb:G.fn "neighbours" [.int c,.int r]=some (.ok (.lst ((nbs c (c*r) (c*r)).map nbD)))) (hcr:c*r≤64) (hsp:sp.length=c*r):aN G 6 fH [aL c r w h T F C]=some (.ok (jsE sp c r)):=by
 have e0:∀ r',ev G (.var 0) (.im (aL c r w h T F C)::r')=some (bJ c r w h (T.map sE) F C):=fun _=>by simp only [zz,yy]; rfl
 refine aK (ρ:=[.im (aL c r w h T F C),.un,.un,.un,.un,.un]) rfl ?_
 refine aE (aH (d:=.dct kvs) (by simp only [zz,yy,aA,aB,hel])) (aE (kS (ds:=[]) (by simp only [zz,yy,aB])) ?_)
 simp only [List.set]
 have hl:=kL (c:=c) (n:=c*r) (c*r)
 obtain ⟨ρ',l,s3,s4,s5,rfl⟩:=lQ (enc:=nbD) (bind:=bE [3,4,5] true) (body:=ex G aGy) (fun k ρ=>∃ s3 s4 s5,ρ=[.im (aL c r w h T F C),.im (.dct kvs),.mu (.lst (((nbs c (c*r) (c*r)).take k).map (jD sp))),s3,s4,s5])
  (L:=nbs c (c*r) (c*r)) (ρ:=[.im (aL c r w h T F C),.im (.dct kvs),.mu (.lst []),.un,.un,.un]) ⟨_,_,_,rfl⟩ (by
   rintro k j hj ρ ⟨s3,s4,s5,rfl⟩
   have ha:j.1<sp.length:=by rw [hsp]; exact ZT (List.mem_of_getElem? hj)
   have hs:=List.getElem?_eq_getElem ha
   refine ⟨[.im (aL c r w h T F C),.im (.dct kvs),.mu (.lst (((nbs c (c*r) (c*r)).take k).map (jD sp))),.im (.int j.1),.im (.int j.2.1),.im (.bl j.2.2)],rfl,_,zF (d:=jD sp j) ?_ rfl (by rw [List.length_map,List.length_take]; omega),.im (.int j.1),.im (.int j.2.1),.im (.bl j.2.2),?_⟩
   ·have hv:=hk j.1 _ hs
    unfold jD
    rw [sA hs]
    cases hb:j.2.2
    ·simp only [zz,yy,aA,aB,cQ,hv,iL,SJ.1,SJ.2]
     rfl
    ·simp only [zz,yy,aA,aB,cQ,hv,iL,SJ.1,SJ.2]
     rfl
   ·rw [List.take_add_one,hj,List.map_append]
    rfl)
 rw [List.take_length] at l
 refine aE ((cP (d:=.lst ((nbs c (c*r) (c*r)).map nbD)) ?_ dP).trans l) (mZ rfl)
 rw [cK,aI,gJ hf (e0 _),aI,nT hf (e0 _)]
 simp only [zz,yy,aA,aB,hnb]
noncomputable def kQ:IS:=(.ret true (.comp 3 [(2,0)] [1] false .seq (.call "all_joints" (.cons (.var 0) .nil)) (.bin .notin (.sl (.var 1) false (.lit .non) true (.lit (.int 2))) (.fld (.var 2) "severed")) (.var 1)))
noncomputable def aGv:IS:=(.seq (.set 5 (.ix (.var 0) (.var 4))) (.seq (.iff (.bin .lt (.bin .mod (.var 4) (.var 1)) (.bin .sub (.var 1) (.lit (.int 1)))) (.app 3 (.tup (.cons (.var 4) (.cons (.bin .add (.var 4) (.lit (.int 1))) (.cons (.lit (.bl false)) (.cons (.ite (.tr (.ix (.var 5) (.lit (.int 3)))) (.ix (.var 5) (.lit (.int 0))) (.bin .add (.ix (.var 5) (.lit (.int 0))) (.lit (.int 1)))) .nil)))))) .nop) (.iff (.bin .lt (.bin .fdiv (.var 4) (.var 1)) (.bin .sub (.var 2) (.lit (.int 1)))) (.app 3 (.tup (.cons (.var 4) (.cons (.bin .add (.var 4) (.var 1)) (.cons (.lit (.bl true)) (.cons (.ite (.tr (.ix (.var 5) (.lit (.int 4)))) (.ix (.var 5) (.lit (.int 1))) (.bin .add (.ix (.var 5) (.lit (.int 1))) (.lit (.int 1)))) .nil)))))) .nop)))
noncomputable def jF:IS:=(.seq (.setm 3 (.lst .nil)) (.seq (.loop [4] false .rng (.tup (.cons (.bin .mul (.var 1) (.var 2)) .nil)) aGv) (.retm 3)))
theorem yK {c r:Nat} (hc:1≤c) (hcr:c*r≤64) (hc6:c≤64) (hsp:sp.length=c*r):aN G 6 jF [bD sp,.int c,.int r]=some (.ok (jsE sp c r)):=by
 refine aK (ρ:=[.im (bD sp),.im (.int c),.im (.int r),.un,.un,.un]) rfl ?_
 refine aE (kS (ds:=[]) (by simp only [zz,yy,aB])) ?_
 simp only [List.set]
 obtain ⟨ρ',l,s4,s5,rfl⟩:=qG (bind:=bE [4] false) (body:=ex G aGv) (fun k ρ=>∃ s4 s5,ρ=[.im (bD sp),.im (.int c),.im (.int r),.mu (.lst ((nbs c (c*r) k).map (jD sp))),s4,s5]) (n:=c*r) (ρ:=[.im (bD sp),.im (.int c),.im (.int r),.mu (.lst []),.un,.un]) ⟨_,_,rfl⟩ (by
   rintro k hk ρ ⟨s4,s5,rfl⟩
   have hl:=kL (c:=c) (n:=c*r) k
   have ha:k<sp.length:=by rw [hsp]; exact hk
   have hs:=List.getElem?_eq_getElem ha
   generalize sp[k]=s at hs
   have hr:1≤r:=Nat.pos_of_ne_zero fun z=>by rw [z] at hk; exact absurd hk (Nat.not_lt_zero _)
   have hdv:decide (k / c<r-1)=decide (k+c<c*r):=decide_eq_decide.mpr (by
    rw [Nat.div_lt_iff_lt_mul hc,Nat.sub_mul,Nat.one_mul,Nat.mul_comm r c]
    have:c≤c*r:=Nat.le_mul_of_pos_right c hr
    omega)
   refine ⟨_,rfl,_,aE (aH (d:=spE s) ?_) (aE (kT (b:=decide (k % c<c-1)) (d:=jD sp (k,k+1,false)) ?_ ?_ rfl (by rw [List.length_map]; omega)) (kT (b:=decide (k+c<c*r)) (d:=jD sp (k,k+c,true)) ?_ ?_ rfl ?_)),.im (.int k),.im (spE s),?_⟩
   ·simp only [List.set]
    unfold bD
    simp only [zz,yy,aA,aB,uX hs]
   ·simp only [List.set]
    simp only [zz,yy,aA,aB,AH hc,tX hc]
   ·simp only [List.set]
    unfold jD spE
    rw [sA (l:=false) hs]
    unfold wI
    cases hb:s.e<;>simp only [zz,yy,aA,aB,at5.1,at5.2.2.2.1,hb,cQ]<;>rfl
   ·simp only [List.set]
    simp only [zz,yy,aA,aB,RZ hc (show c<1000000 by omega),tX hr,hdv]
   ·simp only [List.set]
    unfold jD spE
    rw [sA (l:=true) hs]
    unfold vK
    cases hb:s.n<;>simp only [zz,yy,aA,aB,at5.2.1,at5.2.2.2.2,hb,cQ]<;>rfl
   ·rw [List.length_append,List.length_map]
    split<;>simp<;>omega
   ·simp only [List.set,nU,List.map_append,List.append_assoc,AG])
 exact aE ((cP (d:=.tup [.int ((c*r:Nat):Int)]) (by simp only [zz,yy,aA,aB,rZ (show c≤1000000 by omega)]) (dQ (by omega))).trans l) (mZ rfl)
end
end Pg
end Z
namespace Z
open PySem
theorem wR {α:Type} {f:D→Option (Option D)} {enc g:α→D} {p:α→Bool}:∀ {L:List α},(∀ a ∈ L,f (enc a)=some (if p a then some (g a) else none))→bP f (L.map enc)=some ((L.filter p).map g)
 | [],_=>rfl
 | a::r,e=>by
  rw [List.map_cons]
  unfold bP
  rw [e a (List.mem_cons_self),wR fun x hx=>e x (List.mem_cons_of_mem _ hx)]
  cases h:p a
  ·rw [List.filter_cons_of_neg (by simp [h])]; rfl
  ·rw [List.filter_cons_of_pos (by simp [h])]; rfl
theorem oO {α:Type} {G:GS} {ρ:List Sl} {n:Nat} {fr:List (Nat × Nat)} {tg:List Nat} {tp:Bool} {k:Src} {src test elt:IE} {s:D} {L:List α} (enc g:α→D) (p:α→Bool) (h1:ev G src ρ=some s) (h2:items k s=some (L.map enc))
  (h3:∀ a ∈ L,∃ ρ1,bE tg tp (enc a) (frame n fr ρ)=some ρ1∧ev G test ρ1=some (.bl (p a))∧ev G elt ρ1=some (g a)):ev G (.comp n fr tg tp k src test elt) ρ=some (.lst ((L.filter p).map g)):=by
 rw [tU,h1,Option.bind_some,h2,Option.bind_some,wR (g:=g) (p:=p)]
 ·rfl
 ·intro a ha
  obtain ⟨ρ1,e1,e2,e3⟩:=h3 a ha
  rw [e1,Option.bind_some,e2,Option.bind_some]
  cases p a
  ·rfl
  ·show Option.map some (ev G elt ρ1)=_
   rw [e3]; rfl
theorem pU {α:Type} {f:α→D} {L:List α} (h:∀ a,flat 7 (f a)=true):plain (.lst (L.map f))=true:=by
 show (L.map f).all (flat 7)=true
 rw [List.all_map]
 exact List.all_eq_true.mpr fun a _=>h a
theorem CK {xs ys:List D}:deq (.lst xs) (.lst ys)=iT xs ys:=by rw [deq]
namespace Pg
section
variable {G:GS}
noncomputable def AR:IS:=(.seq (.set 3 (.ite (.tr (.var 1)) (.fld (.var 0) "high") (.fld (.var 0) "wide"))) (.seq (.iff (.or (.bin .lt (.var 2) (.lit (.int 0))) (.bin .gt (.var 2) (.var 3))) (.rse "NoPlace") .nop) (.seq (.set 4 (.comp 4 [(2,1),(3,2)] [1] false .seq (.call "joints" (.cons (.var 0) .nil)) (.bin .eq (.sl (.var 1) true (.lit (.int 2)) false (.lit .non)) (.tup (.cons (.var 2) (.cons (.var 3) .nil)))) (.sl (.var 1) false (.lit .non) true (.lit (.int 2))))) (.ret false (.mk "Pile" (.cons (.fld (.var 0) "columns") (.cons (.fld (.var 0) "rows") (.cons (.fld (.var 0) "table") (.cons (.fld (.var 0) "folds") (.cons (.bin .add (.fld (.var 0) "severed") (.bcall .tuple (.cons (.var 4) .nil))) .nil))))))))))
theorem RX {a b:Bool} {i j:Int}:op2 .eq (.tup [.bl a,.int i]) (.tup [.bl b,.int j])=some (.bl ((a == b)&&(i == j))):=by
 show oEq _ _=_
 unfold oEq
 rw [show (plain (.tup [.bl a,.int i])&&plain (.tup [.bl b,.int j]))=true from rfl]
 simp [deq,iT]
noncomputable def SY (p:Table × Nat × Nat) (f:Fold):Table × Nat × Nat:=(foldT f.sd f.over f.k p.1,if f.sd.up then max f.k (p.2.1-f.k) else p.2.1,if f.sd.up then p.2.2 else max f.k (p.2.2-f.k))
noncomputable def runs (c r:Nat) (fs:List Fold):Table × Nat × Nat:=fs.foldl SY (eW c r,c,r)
theorem lD {c r:Nat} {fs:List Fold} {f:Fold}:runs c r (fs++[f])=SY (runs c r fs) f:=by unfold runs; rw [List.foldl_append]; rfl
noncomputable def aP (c r:Nat) (fs:List Fold):D:=aL c r (runs c r fs).2.1 (runs c r fs).2.2 (runs c r fs).1 (fs.map Fold.d) []
structure Stg (c r:Nat) (fs:List Fold) (sp:List Spot):Prop where
 sits:Sits (runs c r fs).1 (runs c r fs).2.1 (runs c r fs).2.2 sp
 len:sp.length=c*r
def Fits (c r:Nat) (fs:List Fold) (f:Fold):Prop:=1≤f.k∧f.k<ext f.sd (runs c r fs).2.1 (runs c r fs).2.2
theorem Stg.fold {c r:Nat} {fs:List Fold} {sp:List Spot} (S:Stg c r fs sp) {f:Fold} {top low:Int} (ok:Fits c r fs f) (ht:∀ s ∈ sp,s.z≤top) (hl:∀ s ∈ sp,low≤s.z) :
  Stg c r (fs++[f]) (sp.map (aV f.sd f.over f.k (max f.k (ext f.sd (runs c r fs).2.1 (runs c r fs).2.2-f.k)) top low)):=by
 refine ⟨?_,by rw [List.length_map]; exact S.len⟩
 rw [lD]
 exact S.sits.fold ok.1 ok.2 ht hl
structure Stgs (c r:Nat) (fs:List Fold) (sps:List (List Spot)):Prop where
 len:sps.length=fs.length+1
 at_:∀ i sp,sps[i]?=some sp→Stg c r (fs.take i) sp
 ok:∀ i f,fs[i]?=some f→Fits c r (fs.take i) f
theorem Stgs.snoc {c r:Nat} {fs:List Fold} {sps:List (List Spot)} (S:Stgs c r fs sps) {f:Fold} {sp:List Spot} (ok:Fits c r fs f) (hs:Stg c r (fs++[f]) sp):Stgs c r (fs++[f]) (sps++[sp]):=by
 have hl:=S.len
 refine ⟨by simp [hl],fun i sp' h=>?_,fun i f' h=>?_⟩
 ·by_cases hi:i<sps.length
  ·rw [List.getElem?_append_left hi] at h
   rw [List.take_append_of_le_length (by omega)]
   exact S.at_ i sp' h
  ·rw [List.getElem?_append_right (by omega)] at h
   have hi2:i-sps.length=0:=by
    have:=(List.getElem?_eq_some_iff.mp h).1
    simp at this
    omega
   rw [hi2] at h
   cases h
   rw [List.take_of_length_le (by simp; omega)]
   exact hs
 ·by_cases hi:i<fs.length
  ·rw [List.getElem?_append_left hi] at h
   rw [List.take_append_of_le_length (by omega)]
   exact S.ok i f' h
  ·rw [List.getElem?_append_right (by omega)] at h
   have hi2:i-fs.length=0:=by
    have:=(List.getElem?_eq_some_iff.mp h).1
    simp at this
    omega
   rw [hi2] at h
   cases h
   rw [List.take_append_of_le_length (by omega),List.take_of_length_le (by omega)]
   exact ok
theorem lR (hfo:∀ (c r w h:Nat) (T:Table) (F:List D) (sd:Side) (over:Bool) (k:Nat),Rect T w h→w≤1000→h≤1000→fU 400000 T→1≤k→(k<if sd.up then w else h)→F.length≤1000 →
   G.fn "folded" [aL c r w h T F [],.str sd.str,.bl over,.int k]=some (.ok (aL c r (if sd.up then max k (w-k) else w) (if sd.up then h else max k (h-k)) (foldT sd over k T) (F++[bI sd over k]) [])))
  {c r:Nat} {fs:List Fold} {sp:List Spot} (S:Stg c r fs sp) {f:Fold} (ok:Fits c r fs f) (hl:fs.length≤1000):G.fn "folded" [aP c r fs,.str f.sd.str,.bl f.over,.int f.k]=some (.ok (aP c r (fs++[f]))):=by
 have a:=S.sits.w64
 have b:=S.sits.h64
 unfold aP
 rw [hfo c r _ _ _ _ f.sd f.over f.k S.sits.rect (by omega) (by omega) (fun s hs x hx=>Nat.le_trans (S.sits.few s hs x hx) (by decide)) ok.1 ok.2 (by rw [List.length_map]; exact hl),lD,List.map_append]
 rfl
noncomputable def dR:IS:=(.seq (.drop (.call "refuse_severed" (.cons (.var 0) .nil))) (.seq (.iff (.not (.tr (.fld (.var 0) "folds"))) (.rse "NoFold") .nop) (.seq (.set 1 (.call "laid" (.cons (.fld (.var 0) "columns") (.cons (.fld (.var 0) "rows") .nil)))) (.seq (.loop [2,3,4] true .seq (.sl (.fld (.var 0) "folds") false (.lit .non) true (.neg (.lit (.int 1)))) (.set 1 (.call "folded" (.cons (.var 1) (.cons (.var 2) (.cons (.var 3) (.cons (.var 4) .nil))))))) (.ret false (.var 1))))))
theorem KQ {α:Type} {xs:List α} (h:xs≠[]):cut xs none (some (-1))=xs.dropLast:=by
 have hl:1≤xs.length:=Nat.pos_of_ne_zero fun z=>h (List.length_eq_zero_iff.mp z)
 simp only [cut,sIx]
 rw [if_pos (by decide),List.drop_zero,Nat.sub_zero,List.dropLast_eq_take]
 congr 1
 omega
theorem DQ (hf:G.fl "Pile" = pFl) (hsv:∀ (c r w h:Nat) (T:Table) (F:List D),G.fn "refuse_severed" [aL c r w h T F []]=some (.ok .non))
  (hl:∀ c r:Nat,1≤c→1≤r→c*r≤64→G.fn "laid" [.int c,.int r]=some (.ok (aL c r c r (eW c r) [] [])))
  (hfo:∀ (c r w h:Nat) (T:Table) (F:List D) (sd:Side) (over:Bool) (k:Nat),Rect T w h→w≤1000→h≤1000→fU 400000 T→1≤k→(k<if sd.up then w else h)→F.length≤1000 →
   G.fn "folded" [aL c r w h T F [],.str sd.str,.bl over,.int k]=some (.ok (aL c r (if sd.up then max k (w-k) else w) (if sd.up then h else max k (h-k)) (foldT sd over k T) (F++[bI sd over k]) [])))
  {c r:Nat} {fs:List Fold} {sps:List (List Spot)} (hc:1≤c) (hr:1≤r) (hcr:c*r≤64) (S:Stgs c r fs sps) (hne:fs≠[]) (hlen:fs.length≤1000):aN G 5 dR [aP c r fs]=some (.ok (aP c r fs.dropLast)):=by
 have e0:∀ r',ev G (.var 0) (.im (aP c r fs)::r')=some (bJ c r (runs c r fs).2.1 (runs c r fs).2.2 ((runs c r fs).1.map sE) (fs.map Fold.d) []):=fun _=>by simp only [zz,yy]; rfl
 have hsl:=S.len
 refine aK (ρ:=[.im (aP c r fs),.un,.un,.un,.un]) rfl ?_
 refine aE (nA (d:=.non) ?_) (aE (cD ?_ aU) (aE (aH (d:=aP c r []) ?_) ?_))
 ·unfold aP
  simp only [zz,yy,aA,aB,hsv]
 ·simp only [bS,cF,aY]
  rw [tT,qI,jA hf (e0 _)]
  simp only [aA,tru,aB,zz]
  cases fs with
  | nil=>exact absurd rfl hne
  | cons f fs=>rfl
 ·rw [cK,aI,gJ hf (e0 _),aI,nT hf (e0 _)]
  simp only [zz,yy,aA,aB,hl c r hc hr hcr]
  rfl
 simp only [List.set]
 obtain ⟨ρ',l,s2,s3,s4,rfl⟩:=lQ (enc:=Fold.d) (bind:=bE [2,3,4] true) (body:=ex G (.set 1 (.call "folded" (.cons (.var 1) (.cons (.var 2) (.cons (.var 3) (.cons (.var 4) .nil)))))))
  (fun k ρ=>∃ s2 s3 s4,ρ=[.im (aP c r fs),.im (aP c r (fs.take k)),s2,s3,s4]) (L:=fs.dropLast) (ρ:=[.im (aP c r fs),.im (aP c r []),.un,.un,.un]) ⟨_,_,_,rfl⟩ (by
   rintro k f hk ρ ⟨s2,s3,s4,rfl⟩
   have hkl:=(List.getElem?_eq_some_iff.mp hk).1
   rw [List.length_dropLast] at hkl
   have hfk:fs[k]?=some f:=by
    rw [List.dropLast_eq_take,List.getElem?_take,if_pos (by omega)] at hk
    exact hk
   refine ⟨[.im (aP c r fs),.im (aP c r (fs.take k)),.im (.str f.sd.str),.im (.bl f.over),.im (.int f.k)],rfl,_,aH (d:=aP c r (fs.take (k+1))) ?_,.im (.str f.sd.str),.im (.bl f.over),.im (.int f.k),rfl⟩
   have e:=lR hfo (S.at_ k _ (List.getElem?_eq_getElem (by omega))) (S.ok k f hfk) (by rw [List.length_take]; omega)
   simp only [zz,yy,aA,aB,e]
   rw [List.take_add_one,hfk]
   rfl)
 rw [List.length_dropLast,← List.dropLast_eq_take] at l
 refine aE ((cP (d:=.tup (fs.dropLast.map Fold.d)) ?_ (show items .seq (.tup _)=some _ from rfl)).trans l) (aR (by simp only [zz,yy]))
 rw [wF,jA hf (e0 _)]
 simp only [zz,yy,aA,aB,part,intOf]
 simp only [if_true,if_false,Bool.false_eq_true,aA]
 rw [if_neg,KQ (by intro z; exact hne (List.map_eq_nil_iff.mp z)),List.map_dropLast]
 have hlp:1≤fs.length:=Nat.pos_of_ne_zero fun z=>hne (List.length_eq_zero_iff.mp z)
 intro z
 have z:=z.2
 simp only [sIx,List.length_map] at z
 rw [if_pos (by decide)] at z
 omega
end
end Pg
end Z
namespace Z
open PySem
namespace Pg
section
variable {G:GS}
noncomputable def pD (p:Nat × Nat):D:=.tup [.int p.1,.int p.2]
noncomputable def pairOf (j:Nat × Nat × Bool):Nat × Nat:=(j.1,j.2.1)
noncomputable def left (c n:Nat) (sev:List (Nat × Nat)):List (Nat × Nat × Bool):=(nbs c n n).filter fun j=>!sev.contains (pairOf j)
def HV (sp:List Spot) (l:Bool) (n:Int) (j:Nat × Nat × Bool):Bool:=(j.2.2 == l)&&(ER sp j.1 j.2.2 == n)
noncomputable def gT (c n:Nat) (sp:List Spot) (sev:List (Nat × Nat)) (l:Bool) (k:Int):List (Nat × Nat):=((left c n sev).filter (HV sp l k)).map pairOf
theorem IW {c n:Nat}:left c n []=nbs c n n:=List.filter_eq_self.mpr fun _ _=>rfl
theorem aAN {p q:Nat × Nat}:deq (pD p) (pD q)=(p == q):=by
 unfold pD
 obtain ⟨a,b⟩:=p
 obtain ⟨c,d⟩:=q
 simp only [deq,iT,Bool.and_true]
 rw [Bool.eq_iff_iff]
 simp
 omega
theorem EJ {p:Nat × Nat} {sev:List (Nat × Nat)}:op2 .notin (pD p) (.tup (sev.map pD))=some (.bl (!sev.contains p)):=by
 show (if (plain (pD p)&&(sev.map pD).all plain)=true then some (D.bl (!(sev.map pD).any fun y=>deq y (pD p))) else none)=_
 rw [if_pos]
 ·congr 2
  rw [List.any_map]
  congr 1
  rw [List.contains_eq_any_beq]
  congr 1
  funext q
  show deq (pD q) (pD p)=(p == q)
  rw [aAN,Bool.beq_comm]
 ·rw [Bool.and_eq_true]
  exact ⟨rfl,List.all_eq_true.mpr fun x hx=>by obtain ⟨y,_,rfl⟩:=List.mem_map.mp hx; rfl⟩
theorem yO (hf:G.fl "Pile" = pFl) {c r w h:Nat} {T:Table} {F:List D} {sp:List Spot} {sev:List (Nat × Nat)} (haj:G.fn "all_joints" [aL c r w h T F (sev.map pD)]=some (.ok (jsE sp c r))) :
  aN G 1 kQ [aL c r w h T F (sev.map pD)]=some (.ok (.lst ((left c (c*r) sev).map (jD sp)))):=by
 refine aK (ρ:=[.im (aL c r w h T F (sev.map pD))]) rfl (aR ?_)
 refine oO (jD sp) (jD sp) (fun j=>!sev.contains (pairOf j)) (s:=jsE sp c r) (by simp only [zz,yy,aA,aB,haj]) dP fun j _=>⟨[.un,.im (jD sp j),.im (aL c r w h T F (sev.map pD))],rfl,?_,by simp only [zz,yy]⟩
 rw [bG,gI (c:=c) (r:=r) (w:=w) (h:=h) (T:=T.map sE) (F:=F) (S:=sev.map pD) hf (by simp only [zz,yy]; rfl),wF,eI]
 unfold jD
 simp only [zz,yy,aA,aB,part,intOf]
 exact EJ (p:=pairOf j)
theorem SC (hf:G.fl "Pile" = pFl) {c r w h:Nat} {T:Table} {F:List D} {sp:List Spot} {sev:List (Nat × Nat)} (R:Rect T w h) (hjo:G.fn "joints" [aL c r w h T F (sev.map pD)]=some (.ok (.lst ((left c (c*r) sev).map (jD sp)))))
  (hmo:∀ (c r:Int) (T row:List D) (F S:List D),T[0]?=some (.lst row)→G.mo "Pile" [.int c,.int r,.lst T,.tup F,.tup S]=some (.ok (bJ c r row.length T.length T F S)))
  {l:Bool} {n:Int} (h0:0≤n) (h1:n≤((if l then h else w:Nat):Int)) (hlen:sev.length+c*r*2≤1000000) :
  aN G 5 AR [aL c r w h T F (sev.map pD),.bl l,.int n]=some (.ok (aL c r w h T F ((sev++gT c (c*r) sp sev l n).map pD))):=by
 have e0:∀ r',ev G (.var 0) (.im (aL c r w h T F (sev.map pD))::r')=some (bJ c r w h (T.map sE) F (sev.map pD)):=fun _=>by simp only [zz,yy]; rfl
 have em:=hmo c r (T.map sE) ((T.getD 0 []).map hE) F ((sev++gT c (c*r) sp sev l n).map pD) (by
  have:=R.len; have:=R.h1
  rw [List.getElem?_map,List.getD_eq_getElem?_getD,List.getElem?_eq_getElem (by omega)]; rfl)
 rw [List.length_map,List.length_map,R.len,show (T.getD 0 []).length=_ from R.width] at em
 refine aK (ρ:=[.im (aL c r w h T F (sev.map pD)),.im (.bl l),.im (.int n),.un,.un]) rfl ?_
 refine aE (aH (d:=.int ((if l then h else w:Nat):Int)) ?_) (aE (cD ?_ aU) (aE (aH (d:=.lst ((gT c (c*r) sp sev l n).map pD)) ?_) (aR ?_)))
 ·rw [jY]
  cases l
  ·simp only [zz,yy,aA,aB,cQ,iJ hf (e0 _)]
   rfl
  ·simp only [zz,yy,aA,aB,cQ,iK hf (e0 _)]
   rfl
 ·simp only [List.set]
  simp only [zz,yy,aA,aB]
  rw [decide_eq_false (show ¬ n<0 by omega),decide_eq_false (show ¬ ((if l then h else w:Nat):Int)<n by omega)]
 ·simp only [List.set]
  have e:=oO (G:=G) (L:=left c (c*r) sev) (jD sp) (fun j=>pD (pairOf j)) (HV sp l n) (n:=4) (fr:=[(2,1),(3,2)]) (tg:=[1]) (tp:=false) (k:=.seq) (src:=.call "joints" (.cons (.var 0) .nil))
   (test:=.bin .eq (.sl (.var 1) true (.lit (.int 2)) false (.lit .non)) (.tup (.cons (.var 2) (.cons (.var 3) .nil)))) (elt:=.sl (.var 1) false (.lit .non) true (.lit (.int 2))) (ρ:=[.im (aL c r w h T F (sev.map pD)),.im (.bl l),.im (.int n),.im (.int ((if l then h else w:Nat):Int)),.un]) (s:=.lst ((left c (c*r) sev).map (jD sp)))
   (by simp only [zz,yy,aA,aB,hjo]) dP fun j _=>⟨[.un,.im (jD sp j),.im (.bl l),.im (.int n)],rfl,by
    unfold jD
    rw [bG,wF,eI]
    simp only [zz,yy,aA,aB,part,intOf]
    exact RX,by
    unfold jD
    rw [wF,eI]
    simp only [zz,yy,aA,aB,part,intOf]
    rfl⟩
  rw [e]
  unfold gT
  rw [List.map_map]
  rfl
 ·simp only [List.set]
  rw [KD,aI,gJ hf (e0 _),aI,nT hf (e0 _),aI,rY hf (e0 _),aI,jA hf (e0 _),aI,bG,gI hf (e0 _)]
  simp only [zz,yy,aA,aB]
  rw [show bf .tuple [.lst ((gT c (c*r) sp sev l n).map pD)]=some (.tup ((gT c (c*r) sp sev l n).map pD)) from rfl]
  have hcl:(gT c (c*r) sp sev l n).length≤c*r*2:=by
   unfold gT left
   rw [List.length_map]
   refine Nat.le_trans (List.length_filter_le _ _) (Nat.le_trans (List.length_filter_le _ _) ?_)
   have:=kL (c:=c) (n:=c*r) (c*r)
   omega
  simp only [aA,aHc (a:=sev.map pD) (b:=(gT c (c*r) sp sev l n).map pD) (by rw [List.length_map,List.length_map]; omega),← List.map_append,zz,yy,em]
  rfl
end
end Pg
end Z
namespace Z
open PySem
namespace K18
open Pg
section
variable {G:GS}
theorem eq_nil {α:Type} {f:α→D} {L:List α} (h:∀ a,flat 7 (f a)=true):op2 .eq (.lst (L.map f)) (.lst [])=some (.bl L.isEmpty):=by
 show oEq _ _=_
 unfold oEq
 rw [pU h,show plain (.lst [])=true from rfl,CK]
 cases L with
 | nil=>simp [iT]
 | cons a r=>simp [iT]
end
end K18
end Z
namespace Z
open PySem
namespace Pg
section
variable {G:GS}
theorem DR (hf:G.fl "Pile" = pFl) (hx:G.xn "NoFold" = true) (hsv:∀ (c r w h:Nat) (T:Table) (F:List D),G.fn "refuse_severed" [aL c r w h T F []]=some (.ok .non)) {c r:Nat}:aN G 5 dR [aP c r []]=some (.er "NoFold"):=by
 have e0:∀ r',ev G (.var 0) (.im (aP c r [])::r')=some (bJ c r (runs c r []).2.1 (runs c r []).2.2 ((runs c r []).1.map sE) [] []):=fun _=>by simp only [zz,yy]; rfl
 have e:ex G dR [.im (aP c r []),.un,.un,.un,.un]=some (.er "NoFold"):=by
  unfold dR
  refine aE (nA (d:=.non) ?_) (fS (gE ?_ (zD hx)) fun _ z=>by cases z)
  ·simp only [bS,cF,aY]
   have:=hsv c r (runs c r []).2.1 (runs c r []).2.2 (runs c r []).1 []
   rw [cK,aI,e0]
   simp only [zz,yy,aA,aB]
   exact congrArg gX this
  ·simp only [bS,cF,aY]
   rw [tT,qI,jA hf (e0 _)]
   rfl
 show (match ex G dR [.im (aP c r []),.un,.un,.un,.un] with|some (.rt d)=>some (Rs.ok d)|some (.nx _)=>some (Rs.ok .non)|some (.er c)=>some (Rs.er c)|_=>none)=_
 rw [e]
end
end Pg
namespace K05
open Pg
section
variable {G:GS}
end
end K05
end Z
namespace Z
open PySem
namespace Pg
theorem fU.at_ {b:Nat} {T:Table} (h:fU b T) (x y:Nat):(hAt T x y).length≤b:=by
 unfold hAt
 by_cases hy:y<T.length
 ·have hm:T.getD y [] ∈ T:=by rw [List.getD_eq_getElem?_getD,List.getElem?_eq_getElem hy]; exact List.getElem_mem hy
  exact (h _ hm).at_ x
 ·rw [getD_none (l:=T) (by omega)]
  simp
noncomputable def fQ:IS:=(.seq (.set 1 (.bin .mod (.var 0) (.lit (.int 8)))) (.seq (.set 2 (.bin .fdiv (.var 0) (.lit (.int 8)))) (.seq (.iff (.bin .lt (.var 1) (.lit (.int 5))) (.ret false (.tup (.cons (.bin .add (.lit (.int 1)) (.bin .mod (.var 2) (.lit (.int 6)))) (.cons (.bin .add (.lit (.int 1)) (.bin .mod (.bin .fdiv (.var 2) (.lit (.int 6))) (.lit (.int 5)))) .nil)))) .nop) (.seq (.iff (.bin .eq (.var 1) (.lit (.int 5))) (.ret false (.tup (.cons (.bin .add (.lit (.int 1)) (.bin .mod (.var 2) (.lit (.int 40)))) (.cons (.lit (.int 1)) .nil)))) .nop) (.seq (.iff (.bin .eq (.var 1) (.lit (.int 6))) (.ret false (.tup (.cons (.lit (.int 1)) (.cons (.bin .add (.lit (.int 1)) (.bin .mod (.var 2) (.lit (.int 40)))) .nil)))) .nop) (.ret false (.ix (.lst (.cons (.tup (.cons (.lit (.int 8)) (.cons (.lit (.int 8)) .nil))) (.cons (.tup (.cons (.lit (.int 16)) (.cons (.lit (.int 4)) .nil))) (.cons (.tup (.cons (.lit (.int 3)) (.cons (.lit (.int 21)) .nil))) (.cons (.tup (.cons (.lit (.int 64)) (.cons (.lit (.int 1)) .nil))) .nil))))) (.bin .mod (.var 2) (.lit (.int 4))))))))))
section
variable {G:GS}
theorem md {i n:Int} (h:0<n):op2 .mod (.int i) (.int n)=some (.int (i % n)):=gK h
theorem dv {i n:Int} (h:0<n) (h':n<1000000):op2 .fdiv (.int i) (.int n)=some (.int (i / n)):=jO h h'
theorem jV (i:Int) (n:Nat) (h:0<n):∃ k:Nat,k<n∧i % (n:Int)=k:=by
 have h0:=Int.emod_nonneg i (show (n:Int)≠0 by omega)
 have h1:=Int.emod_lt_of_pos i (show (0:Int)<n by omega)
 exact ⟨(i % (n:Int)).toNat,by omega,by omega⟩
theorem DV {cell:Int}:∃ c r:Nat,1≤c∧1≤r∧c*r≤64∧aN G 3 fQ [.int cell]=some (.ok (.tup [.int c,.int r])):=by
 have e1:ev G (.bin .mod (.var 0) (.lit (.int 8))) [.im (.int cell),.un,.un]=some (.int (cell % 8)):=by simp only [zz,yy,aA,aB,md (show (0:Int)<8 by decide)]
 have e2:ev G (.bin .fdiv (.var 0) (.lit (.int 8))) [.im (.int cell),.im (.int (cell % 8)),.un]=some (.int (cell / 8)):=by simp only [zz,yy,aA,aB,dv (show (0:Int)<8 by decide) (show (8:Int)<1000000 by decide)]
 have t1:ev G (.bin .lt (.var 1) (.lit (.int 5))) (view [.im (.int cell),.im (.int (cell % 8)),.im (.int (cell / 8))])=some (.bl (decide (cell % 8<5))):=by simp only [zz,yy,aA,aB]
 have t2:ev G (.bin .eq (.var 1) (.lit (.int 5))) (view [.im (.int cell),.im (.int (cell % 8)),.im (.int (cell / 8))])=some (.bl (cell % 8 == 5)):=by simp only [zz,yy,aA,aB]
 have t3:ev G (.bin .eq (.var 1) (.lit (.int 6))) (view [.im (.int cell),.im (.int (cell % 8)),.im (.int (cell / 8))])=some (.bl (cell % 8 == 6)):=by simp only [zz,yy,aA,aB]
 have start:∀ {o:D},(∃ x,ex G x [.im (.int cell),.im (.int (cell % 8)),.im (.int (cell / 8))]=some (.rt o)∧fQ=(.seq (.set 1 (.bin .mod (.var 0) (.lit (.int 8)))) (.seq (.set 2 (.bin .fdiv (.var 0) (.lit (.int 8)))) x)))→aN G 3 fQ [.int cell]=some (.ok o):=by
  rintro o ⟨x,hx,e⟩
  rw [e]
  exact aK (ρ:=[.im (.int cell),.un,.un]) rfl (aE (aH e1) (aE (aH e2) hx))
 obtain ⟨a6,b6,f6⟩:=jV (cell / 8) 6 (by decide)
 obtain ⟨a5,b5,f5⟩:=jV (cell / 8 / 6) 5 (by decide)
 obtain ⟨a40,b40,f40⟩:=jV (cell / 8) 40 (by decide)
 obtain ⟨a4,b4,f4⟩:=jV (cell / 8) 4 (by decide)
 have f6:cell / 8 % 6=a6:=f6
 have f5:cell / 8 / 6 % 5=a5:=f5
 have f40:cell / 8 % 40=a40:=f40
 have f4:cell / 8 % 4=a4:=f4
 cases h1:decide (cell % 8<5) with
 | true =>
  refine ⟨1+a6,1+a5,by omega,by omega,?_,start ⟨_,fS (gE (t1.trans (by rw [h1])) (aR ?_)) (fun _ z=>by cases z),rfl⟩⟩
  ·have:(1+a6)*(1+a5)≤6*5:=Nat.mul_le_mul (by omega) (by omega)
   omega
  ·simp only [zz,yy,aA,aB,md (show (0:Int)<6 by decide),dv (show (0:Int)<6 by decide) (show (6:Int)<1000000 by decide),md (show (0:Int)<5 by decide),f6,f5]
   push_cast
   rfl
 | false =>
  cases h2:(cell % 8 == 5) with
  | true =>
   refine ⟨1+a40,1,by omega,by omega,by omega,start ⟨_,aE (cD (t1.trans (by rw [h1])) aU) (fS (gE (t2.trans (by rw [h2])) (aR ?_)) (fun _ z=>by cases z)),rfl⟩⟩
   simp only [zz,yy,aA,aB,md (show (0:Int)<40 by decide),f40]
   push_cast
   rfl
  | false =>
   cases h3:(cell % 8 == 6) with
   | true =>
    refine ⟨1,1+a40,by omega,by omega,by omega,start ⟨_,aE (cD (t1.trans (by rw [h1])) aU) (aE (cD (t2.trans (by rw [h2])) aU) (fS (gE (t3.trans (by rw [h3])) (aR ?_)) (fun _ z=>by cases z))),rfl⟩⟩
    simp only [zz,yy,aA,aB,md (show (0:Int)<40 by decide),f40]
    push_cast
    rfl
   | false =>
    have key:∀ (c r:Nat),1≤c→1≤r→c*r≤64→([.tup [.int 8,.int 8],.tup [.int 16,.int 4],.tup [.int 3,.int 21],.tup [.int 64,.int 1]]:List D)[a4]?=some (.tup [.int c,.int r])→∃ c r:Nat,1≤c∧1≤r∧c*r≤64∧aN G 3 fQ [.int cell]=some (.ok (.tup [.int c,.int r])):=by
     intro c r hc hr hcr he
     refine ⟨c,r,hc,hr,hcr,start ⟨_,aE (cD (t1.trans (by rw [h1])) aU) (aE (cD (t2.trans (by rw [h2])) aU) (aE (cD (t3.trans (by rw [h3])) aU) (aR ?_))),rfl⟩⟩
     simp only [zz,yy,aA,aB,md (show (0:Int)<4 by decide),f4]
     exact dY he
    have:a4=0∨a4=1∨a4=2∨a4=3:=by omega
    rcases this with rfl|rfl|rfl|rfl
    ·exact key 8 8 (by decide) (by decide) (by decide) rfl
    ·exact key 16 4 (by decide) (by decide) (by decide) rfl
    ·exact key 3 21 (by decide) (by decide) (by decide) rfl
    ·exact key 64 1 (by decide) (by decide) (by decide) rfl
end
end Pg
namespace K02
open Pg
section
variable {G:GS}
end
end K02
end Z
namespace Z
open PySem
theorem wD {G:GS} {ρ:List Sl} {f:Str} {es:IE} {as:List D} {k:Str} (ha:bH (ev G es (view ρ))=some as) (h:G.fn f as=some (.er k)) (hx:G.xn k=true):ex G (.drop (.call f es)) ρ=some (.er k):=by
 show (match ev G (.call f es) (view ρ) with|some _=>some (Out.nx ρ)|none=>match evR G (.call f es) (view ρ) with|some (.er k)=>if G.xn k then some (Out.er k) else none|_=>none)=_
 rw [cK,ha]
 show (match gX (G.fn f as) with|some _=>some (Out.nx ρ)|none=>match (bH (ev G es (view ρ))).bind (G.fn f) with|some (.er k)=>if G.xn k then some (Out.er k) else none|_=>none)=_
 rw [ha,h]
 show (match G.fn f as with|some (.er k)=>if G.xn k then some (Out.er k) else none|_=>none)=_
 rw [h]
 exact if_pos hx
theorem CD {G:GS} {ρ:List Sl} {ce:IE} {hc:Str} {hb:Option Nat} {r:HR} {d:D} (h:evR G ce (view ρ)=some (.ok d)):ex G (.tryx ce hc hb r) ρ=some (.nx ρ):=by
 show (match evR G ce (view ρ) with|some (.ok _)=>some (Out.nx ρ)|some (.er k)=>_|none=>_)=_
 rw [h]
theorem ne_nil {α:Type} {f:α→D} {L:List α} (h:∀ a,flat 7 (f a)=true):op2 .ne (.lst (L.map f)) (.lst [])=some (.bl (!L.isEmpty)):=by
 show oNe _ _=_
 unfold oNe
 rw [pU h,show plain (.lst [])=true from rfl,CK]
 cases L with
 | nil=>simp [iT]
 | cons a r=>simp [iT]
theorem ne_str {x:Str} (h:okS x=true):op2 .ne (.str x) (.str x)=some (.bl false):=Pg.ne_self h (by rw [deq]; exact beq_self_eq_true x)
namespace Pg
section
variable {G:GS}{c r w h:Nat}{T:Table}{F S:List D}
theorem yX (hx:G.xn "Severed" = true) (hr:G.fn "refuse_severed" [aL c r w h T F S]=some (.er "Severed")) {x:Str} {over:Bool} {i:Int}:aN G 6 gQ [aL c r w h T F S,.str x,.bl over,.int i]=some (.er "Severed"):=by
 refine mS (ρ:=[.im (aL c r w h T F S),.im (.str x),.im (.bl over),.im (.int i),.un,.un]) rfl (fS (wD ?_ hr hx) fun _ z=>by cases z)
 simp only [bS,cF,aY]
 simp only [zz,yy,aA,aB]
theorem xE (hx:G.xn "Severed" = true) (hr:G.fn "refuse_severed" [aL c r w h T F S]=some (.er "Severed")):aN G 5 dR [aL c r w h T F S]=some (.er "Severed"):=by
 refine mS (ρ:=[.im (aL c r w h T F S),.un,.un,.un,.un]) rfl (fS (wD ?_ hr hx) fun _ z=>by cases z)
 simp only [bS,cF,aY]
 simp only [zz,yy,aA,aB]
def Bad (w h:Nat) (x:Str) (i:Int):Prop:=(op2 .isin (.str x) cUP=some (.bl false)∧op2 .isin (.str x) cLV=some (.bl false))∨∃ sd:Side,x=sd.str∧(decide (1≤i)&&decide (i<((if sd.up then w else h:Nat):Int)))=false
theorem oB (hf:G.fl "Pile" = pFl) (h1:G.cst "UPRIGHT_SIDES" = some cUP) (h2:G.cst "LEVEL_SIDES" = some cLV) {x:Str} {i:Int} (hb:Bad w h x i):aN G 3 dS [aL c r w h T F S,.str x,.int i]=some (.ok (.bl false)):=by
 rcases hb with ⟨n1,n2⟩|⟨sd,rfl,hi⟩
 ·refine aK (ρ:=[.im (aL c r w h T F S),.im (.str x),.im (.int i)]) rfl (aE (cD ?_ aU) (aE (cD ?_ aU) (aR ?_)))
  ·simp only [zz,yy,aA,aB,h1,n1]
  ·simp only [zz,yy,aA,aB,h2,n2]
  ·simp only [zz,yy]
 ·rw [jP hf h1 h2,hi]
theorem yY (hx:G.xn "NoFold" = true) (hr:G.fn "refuse_severed" [aL c r w h T F []]=some (.ok .non)) {x:Str} {over:Bool} {i:Int} (hc:G.fn "has_crease" [aL c r w h T F [],.str x,.int i]=some (.ok (.bl false))):aN G 6 gQ [aL c r w h T F [],.str x,.bl over,.int i]=some (.er "NoFold"):=by
 refine mS (ρ:=[.im (aL c r w h T F []),.im (.str x),.im (.bl over),.im (.int i),.un,.un]) rfl (aE (nA (d:=.non) ?_) (fS (gE ?_ (zD hx)) fun _ z=>by cases z))
 ·simp only [bS,cF,aY]
  simp only [zz,yy,aA,aB,hr]
 ·simp only [bS,cF,aY]
  simp only [zz,yy,aA,aB,hc,cQ,Bool.not_false]
end
end Pg
namespace K03
open Pg
noncomputable def dX:IS:=(.seq (.tryx (.call "folded" (.cons (.var 0) (.cons (.var 1) (.cons (.var 2) (.cons (.var 3) .nil))))) "LeafError" (some 4) (.word "_law_word_of")) (.ret false (.lit (.str "done"))))
noncomputable def gO:IS:=(.seq (.tryx (.call "undone" (.cons (.var 0) .nil)) "LeafError" (some 1) (.word "_law_word_of")) (.ret false (.lit (.str "done"))))
noncomputable def cO:IS:=(.seq (.set 3 (.ix (.lst (.cons (.lit (.str "west")) (.cons (.lit (.str "north")) (.cons (.lit (.str "east")) (.cons (.lit (.str "south")) (.cons (.lit (.str "up")) (.cons (.lit (.str "")) (.cons (.lit (.str "West")) (.cons (.lit (.str "east ")) .nil))))))))) (.bin .mod (.var 0) (.lit (.int 8))))) (.seq (.set 4 (.ite (.bin .isin (.var 3) (.tup (.cons (.lit (.str "north")) (.cons (.lit (.str "south")) .nil)))) (.var 2) (.var 1))) (.seq (.set 5 (.bin .mod (.bin .fdiv (.var 0) (.lit (.int 64))) (.bin .pow (.lit (.int 10)) (.lit (.int 30))))) (.seq (.set 6 (.ix (.lst (.cons (.lit (.int 0)) (.cons (.var 4) (.cons (.bin .sub (.lit (.int 0)) (.var 5)) (.cons (.bin .add (.var 4) (.var 5)) .nil))))) (.bin .mod (.bin .fdiv (.var 0) (.lit (.int 16))) (.lit (.int 4))))) (.seq (.iff (.bin .gt (.bin .mod (.var 0) (.lit (.int 8))) (.lit (.int 3))) (.set 6 (.lit (.int 1))) .nop) (.ret false (.tup (.cons (.var 3) (.cons (.bin .eq (.bin .mod (.bin .fdiv (.var 0) (.lit (.int 8))) (.lit (.int 2))) (.lit (.int 1))) (.cons (.var 6) .nil))))))))))
noncomputable def zM:IS:=(.iff (.bin .gt (.bin .mul (.fld (.var 3) "wide") (.fld (.var 3) "high")) (.lit (.int 1))) (.seq (.set 6 (.call "_law_fold_by" (.cons (.var 5) (.cons (.fld (.var 3) "wide") (.cons (.fld (.var 3) "high") .nil))))) (.seq (.set 3 (.call "folded" (.cons (.var 3) (.cons (.ix (.var 6) (.lit (.int 0))) (.cons (.ix (.var 6) (.lit (.int 1))) (.cons (.ix (.var 6) (.lit (.int 2))) .nil)))))) (.set 4 (.call "_law_folded" (.cons (.var 4) (.cons (.var 6) .nil)))))) .nop)
noncomputable def LF:IS:=(.iff (.bin .gt (.bin .mul (.fld (.var 3) "wide") (.fld (.var 3) "high")) (.lit (.int 1))) (.seq (.set 6 (.call "_law_fold_by" (.cons (.call "_law_cell_at" (.cons (.var 0) (.cons (.lit (.int 7)) .nil))) (.cons (.fld (.var 3) "wide") (.cons (.fld (.var 3) "high") .nil))))) (.iff (.bin .ne (.call "_law_fold_tried" (.cons (.var 3) (.cons (.ix (.var 6) (.lit (.int 0))) (.cons (.ix (.var 6) (.lit (.int 1))) (.cons (.ix (.var 6) (.lit (.int 2))) .nil))))) (.lit (.str "done"))) (.ret false (.lit (.bl false))) .nop)) .nop)
noncomputable def LC:IS:=(.iff (.bin .gt (.bin .mul (.fld (.var 3) "wide") (.fld (.var 3) "high")) (.lit (.int 1))) (.seq (.set 6 (.call "_law_fold_by" (.cons (.call "_law_cell_at" (.cons (.var 0) (.cons (.lit (.int 7)) .nil))) (.cons (.fld (.var 3) "wide") (.cons (.fld (.var 3) "high") .nil))))) (.iff (.bin .ne (.call "_law_fold_tried" (.cons (.var 10) (.cons (.ix (.var 6) (.lit (.int 0))) (.cons (.ix (.var 6) (.lit (.int 1))) (.cons (.ix (.var 6) (.lit (.int 2))) .nil))))) (.ix (.var 12) (.lit (.int 2)))) (.ret false (.lit (.bl false))) .nop)) .nop)
noncomputable def AQ:IS:=(.seq (.sett [1,2] (.call "_law_sheet_by" (.cons (.call "_law_cell_at" (.cons (.var 0) (.cons (.lit (.int 0)) .nil))) .nil))) (.seq (.set 3 (.call "laid" (.cons (.var 1) (.cons (.var 2) .nil)))) (.seq (.set 4 (.call "_law_flat" (.cons (.var 1) (.cons (.var 2) .nil)))) (.seq (.iff (.bin .ne (.call "_law_undoing_tried" (.cons (.var 3) .nil)) (.lit (.str "fold"))) (.ret false (.lit (.bl false))) .nop) (.seq (.loop [5] false .seq (.sl (.var 0) true (.lit (.int 2)) true (.bin .add (.lit (.int 2)) (.bin .mod (.call "_law_cell_at" (.cons (.var 0) (.cons (.lit (.int 1)) .nil))) (.lit (.int 4))))) zM) (.seq (.set 7 (.call "_law_bad_fold" (.cons (.call "_law_cell_at" (.cons (.var 0) (.cons (.lit (.int 6)) .nil))) (.cons (.fld (.var 3) "wide") (.cons (.fld (.var 3) "high") .nil))))) (.seq (.iff (.bin .ne (.call "_law_fold_tried" (.cons (.var 3) (.cons (.ix (.var 7) (.lit (.int 0))) (.cons (.ix (.var 7) (.lit (.int 1))) (.cons (.ix (.var 7) (.lit (.int 2))) .nil))))) (.lit (.str "fold"))) (.ret false (.lit (.bl false))) .nop) (.seq LF (.seq (.set 5 (.call "_law_cell_at" (.cons (.var 0) (.cons (.lit (.int 5)) .nil)))) (.seq (.set 8 (.bin .eq (.bin .mod (.var 5) (.lit (.int 2))) (.lit (.int 1)))) (.seq (.set 9 (.bin .mod (.bin .fdiv (.var 5) (.lit (.int 2))) (.ite (.tr (.var 8)) (.bin .add (.fld (.var 3) "high") (.lit (.int 1))) (.bin .add (.fld (.var 3) "wide") (.lit (.int 1)))))) (.seq (.set 10 (.call "cut" (.cons (.var 3) (.cons (.var 8) (.cons (.var 9) .nil))))) (.seq (.set 11 (.comp 4 [(2,8),(3,9)] [1] false .seq (.call "_law_joints" (.cons (.var 4) (.cons (.var 1) (.cons (.var 2) .nil)))) (.and (.bin .eq (.ix (.var 1) (.lit (.int 2))) (.var 2)) (.bin .eq (.ix (.var 1) (.lit (.int 3))) (.var 3))) (.var 1))) (.seq (.set 12 (.lst (.cons (.lit (.str "fold")) (.cons (.ite (.bin .eq (.meth (.var 3) "done" .nil) (.lst .nil)) (.lit (.str "fold")) (.lit (.str "done"))) (.cons (.lit (.str "done")) .nil))))) (.seq (.iff (.bin .ne (.var 11) (.lst .nil)) (.set 12 (.lst (.cons (.lit (.str "severed")) (.cons (.lit (.str "severed")) (.cons (.lit (.str "severed")) .nil))))) .nop) (.seq (.iff (.or (.bin .ne (.call "_law_fold_tried" (.cons (.var 10) (.cons (.ix (.var 7) (.lit (.int 0))) (.cons (.ix (.var 7) (.lit (.int 1))) (.cons (.ix (.var 7) (.lit (.int 2))) .nil))))) (.ix (.var 12) (.lit (.int 0)))) (.bin .ne (.call "_law_undoing_tried" (.cons (.var 10) .nil)) (.ix (.var 12) (.lit (.int 1))))) (.ret false (.lit (.bl false))) .nop) (.seq LC (.ret false (.and (.call "_law_same_pile" (.cons (.var 10) (.cons (.var 4) (.cons (.var 1) (.cons (.var 2) .nil))))) (.call "_law_same_pile" (.cons (.var 3) (.cons (.var 4) (.cons (.var 1) (.cons (.var 2) .nil))))))))))))))))))))))))
section
variable {G:GS}
theorem uS {p x o i:D} {k:Str} {y:Str} (hf:G.fn "folded" [p,x,o,i]=some (.er k)) (h1:G.xn k=true) (h2:G.xn "LeafError" = true) (h3:G.sub k "LeafError" = true) (h4:G.wd "_law_word_of" k=some y):aN G 5 dX [p,x,o,i]=some (.ok (.str y)):=by
 refine aK (ρ:=[.im p,.im x,.im o,.im i,.un]) rfl (fS (o:=.rt (.str y)) ?_ (fun _ z=>by cases z))
 have e:evR G (.call "folded" (.cons (.var 0) (.cons (.var 1) (.cons (.var 2) (.cons (.var 3) .nil))))) (view [.im p,.im x,.im o,.im i,.un])=some (.er k):=by
  simp only [evR,bS,cF,aY]
  simp only [zz,yy,aA,aB,hf]
 rw [CF e]
 simp only [h1,h2,h3,hrD,h4,Bool.and_self,if_true,Option.map_some]
theorem xH {p x o i d:D} (hf:G.fn "folded" [p,x,o,i]=some (.ok d)):aN G 5 dX [p,x,o,i]=some (.ok (.str "done")):=by
 refine aK (ρ:=[.im p,.im x,.im o,.im i,.un]) rfl (aE (CD (d:=d) ?_) (aR ?_))
 ·simp only [evR,bS,cF,aY]
  simp only [zz,yy,aA,aB,hf]
 ·simp only [zz,yy]
theorem nG {p:D} {k:Str} {y:Str} (hf:G.fn "undone" [p]=some (.er k)) (h1:G.xn k=true) (h2:G.xn "LeafError" = true) (h3:G.sub k "LeafError" = true) (h4:G.wd "_law_word_of" k=some y):aN G 2 gO [p]=some (.ok (.str y)):=by
 refine aK (ρ:=[.im p,.un]) rfl (fS (o:=.rt (.str y)) ?_ (fun _ z=>by cases z))
 have e:evR G (.call "undone" (.cons (.var 0) .nil)) (view [.im p,.un])=some (.er k):=by
  simp only [evR,bS,cF,aY]
  simp only [zz,yy,aA,aB,hf]
 rw [CF e]
 simp only [h1,h2,h3,hrD,h4,Bool.and_self,if_true,Option.map_some]
theorem rG {p d:D} (hf:G.fn "undone" [p]=some (.ok d)):aN G 2 gO [p]=some (.ok (.str "done")):=by
 refine aK (ρ:=[.im p,.un]) rfl (aE (CD (d:=d) ?_) (aR ?_))
 ·simp only [evR,bS,cF,aY]
  simp only [zz,yy,aA,aB,hf]
 ·simp only [zz,yy]
def names8:List Str:=["west","north","east","south","up","","West","east "]
theorem p30:op2 .pow (.int 10) (.int 30)=some (.int (10 ^ 30)):=by
 simp only [op2,ZS]
 rw [if_pos (by decide)]
 rfl
theorem wY {cell:Int} {w h:Nat}:∃ (x:Str) (over:Bool) (i:Int),Bad w h x i∧aN G 7 cO [.int cell,.int w,.int h]=some (.ok (.tup [.str x,.bl over,.int i])):=by
 obtain ⟨m,hm,em⟩:=jV cell 8 (by decide)
 have em:cell % 8=(m:Int):=em
 obtain ⟨q,hq,eq⟩:=jV (cell / 16) 4 (by decide)
 have eq:cell / 16 % 4=(q:Int):=eq
 obtain ⟨far,hfar⟩:∃ far,far=cell / 64 % 10 ^ 30:=⟨_,rfl⟩
 have f0:0≤far:=by rw [hfar]; exact Int.emod_nonneg _ (by decide)
 have run:∀ (x:Str) (lv:Bool) (ext:Nat) (cr:Int),names8[m]?=some x→op2 .isin (.str x) (.tup [.str "north",.str "south"])=some (.bl lv)→ext=(if lv then h else w)→([0,(ext:Int),0-far,(ext:Int)+far]:List Int)[q]?=some cr →
   aN G 7 cO [.int cell,.int w,.int h]=some (.ok (.tup [.str x,.bl (cell / 8 % 2 == 1),.int (if decide (3<(m:Int)) then 1 else cr)])):=by
  intro x lv ext cr hx hi he hcr
  refine aK (ρ:=[.im (.int cell),.im (.int w),.im (.int h),.un,.un,.un,.un]) rfl ?_
  refine aE (aH (d:=.str x) ?_) (aE (aH (d:=.int (ext:Nat)) ?_) (aE (aH (d:=.int far) ?_) (aE (aH (d:=.int cr) ?_) (aE (ρ':=[.im (.int cell),.im (.int w),.im (.int h),.im (.str x),.im (.int (ext:Nat)),.im (.int far),.im (.int (if decide (3<(m:Int)) then 1 else cr))]) ?_ (aR ?_)))))
  ·rw [fB]
   simp only [zz,yy,aA,aB,gK (i:=cell) (j:=8) (by decide),em]
   exact dY (by show (names8.map D.str)[m]?=_; rw [List.getElem?_map,hx]; rfl)
  ·simp only [List.set]
   rw [jY]
   simp only [zz,yy,aA,aB,hi]
   subst he
   cases lv<;>rfl
  ·simp only [List.set]
   simp only [zz,yy,aA,aB,jO (i:=cell) (j:=64) (by decide) (by decide),p30,gK (i:=cell / 64) (j:=10 ^ 30) (by decide),hfar]
  ·simp only [List.set]
   rw [fB]
   simp only [zz,yy,aA,aB,jO (i:=cell) (j:=16) (by decide) (by decide),gK (i:=cell / 16) (j:=4) (by decide),eq]
   exact dY (by show (([0,(ext:Int),0-far,(ext:Int)+far]:List Int).map D.int)[q]?=_; rw [List.getElem?_map,hcr]; rfl)
  ·simp only [List.set]
   have et:ev G (.bin .gt (.bin .mod (.var 0) (.lit (.int 8))) (.lit (.int 3))) (view [.im (.int cell),.im (.int w),.im (.int h),.im (.str x),.im (.int (ext:Nat)),.im (.int far),.im (.int cr)])=some (.bl (decide (3<(m:Int)))):=by
    simp only [bS,cF,aY]
    simp only [zz,yy,aA,aB,gK (i:=cell) (j:=8) (by decide),em]
   cases hb:decide (3<(m:Int)) with
   | true=>exact gE (et.trans (by rw [hb])) (aH (d:=.int 1) (by simp only [zz,yy]))
   | false=>exact cD (et.trans (by rw [hb])) aU
  ·simp only [zz,yy,aA,aB,jO (i:=cell) (j:=8) (by decide) (by decide),gK (i:=cell / 8) (j:=2) (by decide)]
 have good:∀ (sd:Side),names8[m]?=some sd.str→m≤3→∃ (x:Str) (over:Bool) (i:Int),Bad w h x i∧aN G 7 cO [.int cell,.int w,.int h]=some (.ok (.tup [.str x,.bl over,.int i])):=by
  intro sd hx hm3
  obtain ⟨ext,he⟩:∃ ext:Nat,ext=if sd.up then w else h:=⟨_,rfl⟩
  have hi:op2 .isin (.str sd.str) (.tup [.str "north",.str "south"])=some (.bl (!sd.up)):=AO
  have he':ext=if (!sd.up)=true then h else w:=by rw [he]; cases sd.up<;>rfl
  have fin:∀ cr:Int,([0,(ext:Int),0-far,(ext:Int)+far]:List Int)[q]?=some cr→(cr≤0∨(ext:Int)≤cr)→∃ (x:Str) (over:Bool) (i:Int),Bad w h x i∧aN G 7 cO [.int cell,.int w,.int h]=some (.ok (.tup [.str x,.bl over,.int i])):=fun cr h1 h2=>by
   refine ⟨sd.str,_,_,?_,run sd.str (!sd.up) ext cr hx hi he' h1⟩
   refine .inr ⟨sd,rfl,?_⟩
   rw [decide_eq_false (show ¬ (3<(m:Int)) by omega)]
   simp only [Bool.false_eq_true,if_false]
   rw [← he]
   rcases h2 with h2|h2
   ·rw [decide_eq_false (show ¬ (1≤cr) by omega)]; rfl
   ·rw [decide_eq_false (show ¬ (cr<(ext:Int)) by omega),Bool.and_false]
  match q,hq with
  | 0,_=>exact fin 0 rfl (.inl (by omega))
  | 1,_=>exact fin ext rfl (.inr (by omega))
  | 2,_=>exact fin (0-far) rfl (.inl (by omega))
  | 3,_=>exact fin (ext+far) rfl (.inr (by omega))
 have odd:∀ (x:Str),names8[m]?=some x→4≤m→op2 .isin (.str x) (.tup [.str "north",.str "south"])=some (.bl false)→op2 .isin (.str x) cUP=some (.bl false)→op2 .isin (.str x) cLV=some (.bl false)→∃ (x:Str) (over:Bool) (i:Int),Bad w h x i∧aN G 7 cO [.int cell,.int w,.int h]=some (.ok (.tup [.str x,.bl over,.int i])):=by
  intro x hx hm4 h1 h2 h3
  obtain ⟨cr,hcr⟩:∃ cr,([0,(w:Int),0-far,(w:Int)+far]:List Int)[q]?=some cr:=⟨_,List.getElem?_eq_getElem (by simpa using hq)⟩
  exact ⟨x,_,_,.inl ⟨h2,h3⟩,run x false w cr hx h1 rfl hcr⟩
 match m,hm with
 | 0,_=>exact good .west rfl (by decide)
 | 1,_=>exact good .north rfl (by decide)
 | 2,_=>exact good .east rfl (by decide)
 | 3,_=>exact good .south rfl (by decide)
 | 4,_=>exact odd "up" rfl (by decide) (cR (by decide +kernel) (by decide +kernel)) (cR (by decide +kernel) (by decide +kernel)) (cR (by decide +kernel) (by decide +kernel))
 | 5,_=>exact odd "" rfl (by decide) (cR (by decide +kernel) (by decide +kernel)) (cR (by decide +kernel) (by decide +kernel)) (cR (by decide +kernel) (by decide +kernel))
 | 6,_=>exact odd "West" rfl (by decide) (cR (by decide +kernel) (by decide +kernel)) (cR (by decide +kernel) (by decide +kernel)) (cR (by decide +kernel) (by decide +kernel))
 | 7,_=>exact odd "east " rfl (by decide) (cR (by decide +kernel) (by decide +kernel)) (cR (by decide +kernel) (by decide +kernel)) (cR (by decide +kernel) (by decide +kernel))
noncomputable def fr (ns:List Int) (c r:Nat) (fs:List Fold) (sp:List Spot) (s5 s6 s7 s8 s9 s10 s11 s12:Sl):List Sl:=[.im (.frz (ns.map .int)),.im (.int c),.im (.int r),.im (aP c r fs),.im (bD sp),s5,s6,s7,s8,s9,s10,s11,s12]
def At (ns:List Int) (c r k:Nat) (ρ:List Sl):Prop:=∃ fs sps ini sp s5 s6,Stgs c r fs sps∧sps=ini++[sp]∧Stg c r fs sp∧fU (2 ^ fs.length) (runs c r fs).1∧fs.length≤k∧ρ=fr ns c r fs sp s5 s6 .un .un .un .un .un .un
theorem KH (hf:G.fl "Pile" = pFl) {ρ:List Sl} {c r:Nat} {fs:List Fold} (e:ev G (.var 3) ρ=some (aP c r fs)) (w64:(runs c r fs).2.1≤64):ev G (.bin .gt (.bin .mul (.fld (.var 3) "wide") (.fld (.var 3) "high")) (.lit (.int 1))) ρ=some (.bl (decide (1<(runs c r fs).2.1*(runs c r fs).2.2))):=by
 have e:ev G (.var 3) ρ=some (bJ c r (runs c r fs).2.1 (runs c r fs).2.2 ((runs c r fs).1.map sE) (fs.map Fold.d) []):=e
 rw [bG,bG,iJ hf e,iK hf e]
 simp only [zz,yy,aA,aB,rZ (show (runs c r fs).2.1≤1000000 by omega)]
 exact congrArg (fun b=>some (D.bl b)) (decide_eq_decide.mpr (by omega))
theorem RD (hf:G.fl "Pile" = pFl) {ns:List Int} {c r k:Nat} {cell:Int}
  (hfb:∀ (w h:Nat) (cell:Int),1≤w→1≤h→1<w*h→∃ (sd:Side) (over:Bool) (k:Nat),1≤k∧(k<if sd.up then w else h)∧G.fn "_law_fold_by" [.int cell,.int w,.int h]=some (.ok (bI sd over k)))
  (hfp:∀ (fs:List Fold) (sp:List Spot) (f:Fold),Stg c r fs sp→Fits c r fs f→fs.length≤1000→G.fn "folded" [aP c r fs,.str f.sd.str,.bl f.over,.int f.k]=some (.ok (aP c r (fs++[f]))))
  (hlo:∀ (sp:List Spot) (sd:Side) (over:Bool) (c ex:Nat),1≤c→c<ex→sp≠[]→(∀ s ∈ sp,s.al sd.up<ex)→(∃ s ∈ sp,s.al sd.up+1=ex)→∃ top low:Int,(∀ s ∈ sp,s.z≤top)∧(∀ s ∈ sp,low≤s.z)∧G.fn "_law_folded" [bD sp,bI sd over c]=some (.ok (bD (sp.map (aV sd over c (max c (ex-c)) top low)))))
  {ρ:List Sl} (hA:At ns c r k ρ) (hk2:k≤1000):∃ ρ1,bE [5] false (.int cell) ρ=some ρ1∧∃ ρ2,ex G zM ρ1=some (.nx ρ2)∧At ns c r (k+1) ρ2:=by
 obtain ⟨fs,sps,ini,sp,s5,s6,S,hs,S1,fw,hk,rfl⟩:=hA
 have w64:=S1.sits.w64
 have h64:=S1.sits.h64
 refine ⟨fr ns c r fs sp (.im (.int cell)) s6 .un .un .un .un .un .un,rfl,?_⟩
 have et:ev G (.bin .gt (.bin .mul (.fld (.var 3) "wide") (.fld (.var 3) "high")) (.lit (.int 1))) (view (fr ns c r fs sp (.im (.int cell)) s6 .un .un .un .un .un .un))=some (.bl (decide (1<(runs c r fs).2.1*(runs c r fs).2.2))):=by
  exact KH hf rfl w64
 by_cases hb:1<(runs c r fs).2.1*(runs c r fs).2.2
 ·obtain ⟨sd,over,kk,k1,k2,efb⟩:=hfb _ _ cell S1.sits.rect.w1 S1.sits.rect.h1 hb
  obtain ⟨top,low,ht,hl,elo⟩:=hlo sp sd over kk (ext sd (runs c r fs).2.1 (runs c r fs).2.2) k1 k2 S1.sits.ne (S1.sits.al_lt sd) (S1.sits.al_ex sd)
  have ok:Fits c r fs ⟨sd,over,kk⟩:=⟨k1,k2⟩
  have efp:=hfp fs sp ⟨sd,over,kk⟩ S1 ok (by omega)
  have S2:=S1.fold ok ht hl
  refine ⟨fr ns c r (fs++[⟨sd,over,kk⟩]) (sp.map (aV sd over kk (max kk (ext sd (runs c r fs).2.1 (runs c r fs).2.2-kk)) top low)) (.im (.int cell)) (.im (bI sd over kk)) .un .un .un .un .un .un,?_,fs++[⟨sd,over,kk⟩],sps++[sp.map (aV sd over kk (max kk (ext sd (runs c r fs).2.1 (runs c r fs).2.2-kk)) top low)],sps,_,_,_,S.snoc ok S2,rfl,S2,?_,by rw [List.length_append]; exact Nat.succ_le_succ hk,rfl⟩
  ·have e3:∀ t6,ev G (.var 3) (fr ns c r fs sp (.im (.int cell)) t6 .un .un .un .un .un .un)=some (bJ c r (runs c r fs).2.1 (runs c r fs).2.2 ((runs c r fs).1.map sE) (fs.map Fold.d) []):=fun _=>rfl
   refine gE (et.trans (by rw [decide_eq_true hb])) (aE (aH (d:=bI sd over kk) ?_) (aE (aH (d:=aP c r (fs++[⟨sd,over,kk⟩])) ?_) (aH (d:=bD (sp.map (aV sd over kk (max kk (ext sd (runs c r fs).2.1 (runs c r fs).2.2-kk)) top low))) ?_)))
   ·rw [cK,aI,aI,iJ hf (e3 _),aI,iK hf (e3 _)]
    unfold fr
    simp only [zz,yy,aA,aB,efb]
   ·unfold fr
    simp only [List.set]
    simp only [zz,yy,aA,aB,bI,iW.1,iW.2.1,iW.2.2,efp]
   ·unfold fr
    simp only [List.set]
    simp only [zz,yy,aA,aB,elo]
  ·rw [List.length_append,lD]
   show fU (2 ^ (fs.length+1)) _
   rw [Nat.pow_succ,Nat.mul_two]
   exact fw.foldT
 ·exact ⟨_,cD (et.trans (by rw [decide_eq_false hb])) aU,fs,sps,ini,sp,_,s6,S,hs,S1,fw,Nat.le_succ_of_le hk,rfl⟩
theorem okW:okS "fold" = true∧okS "done" = true∧okS "severed" = true:=by decide +kernel
theorem aAg (hf:G.fl "Pile" = pFl) {ns:List Int} (hca:∀ k:Nat,G.fn "_law_cell_at" [.frz (ns.map .int),.int k]=some (.ok (.int (at0 ns k))))
  (hsb:∀ cell:Int,∃ c r:Nat,1≤c∧1≤r∧c*r≤64∧G.fn "_law_sheet_by" [.int cell]=some (.ok (.tup [.int c,.int r])))
  (hl:∀ c r:Nat,1≤c→1≤r→c*r≤64→G.fn "laid" [.int c,.int r]=some (.ok (aL c r c r (eW c r) [] [])))
  (hlf:∀ c r:Nat,1≤c→c*r≤1000→c≤1000→G.fn "_law_flat" [.int c,.int r]=some (.ok (bD (cZ c r))))
  (hfb:∀ (w h:Nat) (cell:Int),1≤w→1≤h→1<w*h→∃ (sd:Side) (over:Bool) (k:Nat),1≤k∧(k<if sd.up then w else h)∧G.fn "_law_fold_by" [.int cell,.int w,.int h]=some (.ok (bI sd over k)))
  (hfp:∀ (c r:Nat) (fs:List Fold) (sp:List Spot) (f:Fold),Stg c r fs sp→Fits c r fs f→fs.length≤1000→G.fn "folded" [aP c r fs,.str f.sd.str,.bl f.over,.int f.k]=some (.ok (aP c r (fs++[f]))))
  (hlo:∀ (sp:List Spot) (sd:Side) (over:Bool) (c ex:Nat),1≤c→c<ex→sp≠[]→(∀ s ∈ sp,s.al sd.up<ex)→(∃ s ∈ sp,s.al sd.up+1=ex)→∃ top low:Int,(∀ s ∈ sp,s.z≤top)∧(∀ s ∈ sp,low≤s.z)∧G.fn "_law_folded" [bD sp,bI sd over c]=some (.ok (bD (sp.map (aV sd over c (max c (ex-c)) top low)))))
  (hlj:∀ (c r:Nat) (fs:List Fold) (sp:List Spot),1≤c→c*r≤64→c≤64→Stg c r fs sp→G.fn "_law_joints" [bD sp,.int c,.int r]=some (.ok (jsE sp c r)))
  (hct:∀ (c r:Nat) (fs:List Fold) (sp:List Spot) (l:Bool) (n:Int),1≤c→c*r≤64→c≤64→Stg c r fs sp→0≤n→n≤((if l then (runs c r fs).2.2 else (runs c r fs).2.1:Nat):Int)→G.fn "cut" [aP c r fs,.bl l,.int n]=some (.ok (aL c r (runs c r fs).2.1 (runs c r fs).2.2 (runs c r fs).1 (fs.map Fold.d) ((gT c (c*r) sp [] l n).map pD))))
  (hsp:∀ (c r w h:Nat) (T:Table) (F C:List D) (sp:List Spot),Sits T w h sp→(∀ x y,(hAt T x y).length<64)→G.fn "_law_same_pile" [aL c r w h T F C,bD sp,.int c,.int r]=some (.ok (.bl true)))
  (hdn:∀ (c r w h:Nat) (T:Table) (F S:List D),G.me "Pile" "done" [aL c r w h T F S]=some (.ok (.lst F)))
  (hbf:∀ (cell:Int) (w h:Nat),∃ (x:Str) (over:Bool) (i:Int),Bad w h x i∧G.fn "_law_bad_fold" [.int cell,.int w,.int h]=some (.ok (.tup [.str x,.bl over,.int i])))
  (hu0:∀ c r:Nat,G.fn "_law_undoing_tried" [aP c r []]=some (.ok (.str "fold")))
  (hu1:∀ (c r:Nat) (fs:List Fold) (sps:List (List Spot)),1≤c→1≤r→c*r≤64→Stgs c r fs sps→fs≠[]→fs.length≤1000→G.fn "_law_undoing_tried" [aP c r fs]=some (.ok (.str "done")))
  (hu2:∀ (c r w h:Nat) (T:Table) (F S:List D),S≠[]→G.fn "_law_undoing_tried" [aL c r w h T F S]=some (.ok (.str "severed")))
  (ht0:∀ (c r w h:Nat) (T:Table) (F:List D) (x:Str) (over:Bool) (i:Int),Bad w h x i→G.fn "_law_fold_tried" [aL c r w h T F [],.str x,.bl over,.int i]=some (.ok (.str "fold")))
  (ht1:∀ (c r:Nat) (fs:List Fold) (sp:List Spot) (f:Fold),Stg c r fs sp→Fits c r fs f→fs.length≤1000→G.fn "_law_fold_tried" [aP c r fs,.str f.sd.str,.bl f.over,.int f.k]=some (.ok (.str "done")))
  (ht2:∀ (c r w h:Nat) (T:Table) (F S:List D) (x:Str) (over:Bool) (i:Int),S≠[]→G.fn "_law_fold_tried" [aL c r w h T F S,.str x,.bl over,.int i]=some (.ok (.str "severed"))) :
  aN G 13 AQ [.frz (ns.map .int)]=some (.ok (.bl true)):=by
 have c0:G.fn "_law_cell_at" [.frz (ns.map .int),.int 0]=some (.ok (.int (at0 ns 0))):=hca 0
 have c1:G.fn "_law_cell_at" [.frz (ns.map .int),.int 1]=some (.ok (.int (at0 ns 1))):=hca 1
 have c5:G.fn "_law_cell_at" [.frz (ns.map .int),.int 5]=some (.ok (.int (at0 ns 5))):=hca 5
 have c6:G.fn "_law_cell_at" [.frz (ns.map .int),.int 6]=some (.ok (.int (at0 ns 6))):=hca 6
 have c7:G.fn "_law_cell_at" [.frz (ns.map .int),.int 7]=some (.ok (.int (at0 ns 7))):=hca 7
 obtain ⟨c,r,hc,hr,hcr,esb⟩:=hsb (at0 ns 0)
 have c64:c≤64:=Nat.le_trans (Nat.le_mul_of_pos_right c hr) hcr
 have r64:r≤64:=Nat.le_trans (Nat.le_mul_of_pos_left r hc) hcr
 refine aK (ρ:=[.im (.frz (ns.map .int)),.un,.un,.un,.un,.un,.un,.un,.un,.un,.un,.un,.un]) rfl ?_
 have S0:Stgs c r [] [cZ c r]:=by
  refine ⟨rfl,fun i sp h=>?_,fun i f h=>by cases h⟩
  have hi:i=0:=by have:=(List.getElem?_eq_some_iff.mp h).1; simp at this; exact this
  subst hi
  cases h
  exact ⟨FG hc hr (by omega),oH⟩
 obtain ⟨m4,hm4,em4⟩:=jV (at0 ns 1) 4 (by decide)
 have em4:at0 ns 1 % 4=(m4:Int):=em4
 have cl:=SB (xs:=ns) (a:=2) (b:=2+m4)
 obtain ⟨ρ',l,fs,sps,ini,sp,s5,s6,S,hs,S1,fw,hk,rfl⟩:=lQ (enc:=D.int) (bind:=bE [5] false) (body:=ex G zM) (At ns c r) (L:=cut ns (some ((2:Nat):Int)) (some ((2+m4:Nat):Int))) (ρ:=fr ns c r [] (cZ c r) .un .un .un .un .un .un .un .un) ⟨[],[cZ c r],[],cZ c r,_,_,S0,rfl,S0.at_ 0 _ rfl,JV,Nat.zero_le _,rfl⟩
  (fun k a hk ρ h=>RD hf (cell:=a) hfb (hfp c r) hlo h (by have:=(List.getElem?_eq_some_iff.mp hk).1; omega))
 have hk3:fs.length≤3:=by omega
 have w64:=S1.sits.w64
 have h64:=S1.sits.h64
 have short:∀ x y,(hAt (runs c r fs).1 x y).length<64:=fun x y=>Nat.lt_of_le_of_lt (fw.at_ x y) (Nat.lt_of_le_of_lt (Nat.pow_le_pow_right (by decide) hk3) (by decide))
 generalize hW:(runs c r fs).2.1=W at *
 generalize hH:(runs c r fs).2.2=H at *
 obtain ⟨bx,bo,bi,hbad,ebf⟩:=hbf (at0 ns 6) W H
 have hP:aP c r fs=aL c r W H (runs c r fs).1 (fs.map Fold.d) []:=by unfold aP; rw [hW,hH]
 have et0:=ht0 c r W H (runs c r fs).1 (fs.map Fold.d) bx bo bi hbad
 rw [← hP] at et0
 obtain ⟨lv,hlv⟩:∃ lv,lv=(at0 ns 5 % 2 == 1):=⟨_,rfl⟩
 obtain ⟨m,hm⟩:∃ m:Nat,m=if lv then H else W:=⟨_,rfl⟩
 obtain ⟨n,hn⟩:∃ n,n=at0 ns 5 / 2 % ((m:Int)+1):=⟨_,rfl⟩
 have n0:0≤n:=by rw [hn]; exact Int.emod_nonneg _ (by omega)
 have n1:n≤m:=by have:=Int.emod_lt_of_pos (at0 ns 5 / 2) (show (0:Int)<(m:Int)+1 by omega); rw [hn]; omega
 have ect:=hct c r fs sp lv n hc hcr c64 S1 n0 (by rw [hW,hH,← hm]; exact n1)
 rw [hW,hH] at ect
 have ew:∀ {ρ:List Sl},ev G (.var 3) ρ=some (aP c r fs)→ev G (.fld (.var 3) "wide") ρ=some (.int W):=fun e=>iJ hf (e.trans (by rw [hP]; rfl))
 have eh:∀ {ρ:List Sl},ev G (.var 3) ρ=some (aP c r fs)→ev G (.fld (.var 3) "high") ρ=some (.int H):=fun e=>iK hf (e.trans (by rw [hP]; rfl))
 have esz:∀ {ρ:List Sl},ev G (.var 3) ρ=some (aP c r fs)→ev G (.bin .gt (.bin .mul (.fld (.var 3) "wide") (.fld (.var 3) "high")) (.lit (.int 1))) ρ=some (.bl (decide (1<W*H))):=fun e=>by rw [KH hf e (by rw [hW]; exact w64),hW,hH]
 obtain ⟨js,hjs⟩:∃ js,js=(nbs c (c*r) (c*r)).filter fun j=>(j.2.2 == lv)&&(ER sp j.1 j.2.2 == n):=⟨_,rfl⟩
 have hcut:gT c (c*r) sp [] lv n=js.map pairOf:=by unfold gT; rw [IW,hjs]; rfl
 rw [hcut] at ect
 obtain ⟨d0,d1,d2,hd⟩:∃ d0 d1 d2:Str,(d0,d1,d2)=if js.isEmpty then (("fold":Str),(if fs.isEmpty then ("fold":Str) else "done"),("done":Str)) else ("severed","severed","severed"):=⟨_,_,_,rfl⟩
 obtain ⟨P,hPd⟩:∃ P,P=aL c r W H (runs c r fs).1 (fs.map Fold.d) ((js.map pairOf).map pD):=⟨_,rfl⟩
 rw [← hPd] at ect
 have nej:js≠[]→((js.map pairOf).map pD)≠[]:=fun h z=>h (List.map_eq_nil_iff.mp (List.map_eq_nil_iff.mp z))
 have okd:okS d0=true∧okS d1=true∧okS d2=true:=by
  cases hj:js.isEmpty<;>cases hfe:fs.isEmpty<;>(rw [hj] at hd; try rw [hfe] at hd)<;>cases hd<;>decide +kernel
 have T0:G.fn "_law_fold_tried" [P,.str bx,.bl bo,.int bi]=some (.ok (.str d0)):=by
  cases hj:js.isEmpty with
  | true =>
   rw [hj] at hd; cases hd
   have e:P=aP c r fs:=by rw [hPd,List.isEmpty_iff.mp hj,hP]; rfl
   rw [e]
   exact et0
  | false =>
   rw [hj] at hd; cases hd
   rw [hPd]
   exact ht2 c r W H _ _ _ bx bo bi (nej (List.isEmpty_eq_false_iff.mp hj))
 have T1:G.fn "_law_undoing_tried" [P]=some (.ok (.str d1)):=by
  cases hj:js.isEmpty with
  | true =>
   rw [hj] at hd
   have e:P=aP c r fs:=by rw [hPd,List.isEmpty_iff.mp hj,hP]; rfl
   rw [e]
   cases hfe:fs.isEmpty with
   | true =>
    rw [hfe] at hd; cases hd
    rw [List.isEmpty_iff.mp hfe]
    exact hu0 c r
   | false =>
    rw [hfe] at hd; cases hd
    exact hu1 c r fs sps hc hr hcr S (List.isEmpty_eq_false_iff.mp hfe) (by omega)
  | false =>
   rw [hj] at hd; cases hd
   rw [hPd]
   exact hu2 c r W H _ _ _ (nej (List.isEmpty_eq_false_iff.mp hj))
 have T2:∀ f:Fold,Fits c r fs f→G.fn "_law_fold_tried" [P,.str f.sd.str,.bl f.over,.int f.k]=some (.ok (.str d2)):=fun f ok=>by
  cases hj:js.isEmpty with
  | true =>
   rw [hj] at hd; cases hd
   have e:P=aP c r fs:=by rw [hPd,List.isEmpty_iff.mp hj,hP]; rfl
   rw [e]
   exact ht1 c r fs sp f S1 ok (by omega)
  | false =>
   rw [hj] at hd; cases hd
   rw [hPd]
   exact ht2 c r W H _ _ _ _ _ _ (nej (List.isEmpty_eq_false_iff.mp hj))
 obtain ⟨bad,hbd⟩:∃ bad,bad=D.tup [.str bx,.bl bo,.int bi]:=⟨_,rfl⟩
 rw [← hbd] at ebf
 have try3:∀ {ρ:List Sl} {a:IE} {Q:D} {o:D},ev G a ρ=some Q→ev G (.var 7) ρ=some bad→G.fn "_law_fold_tried" [Q,.str bx,.bl bo,.int bi]=some (.ok o)→ev G (.call "_law_fold_tried" (.cons a (.cons (.ix (.var 7) (.lit (.int 0))) (.cons (.ix (.var 7) (.lit (.int 1))) (.cons (.ix (.var 7) (.lit (.int 2))) .nil))))) ρ=some o:=fun {ρ a Q o} e1 e2 e3=>by
  rw [cK,aI,e1,aI,fB,e2,aI,fB,e2,aI,fB,e2,hbd]
  simp only [zz,yy,aA,aB,iW.1,iW.2.1,iW.2.2,e3]
 have fby:∀ {ρ:List Sl},ev G (.var 3) ρ=some (aP c r fs)→ev G (.var 0) ρ=some (.frz (ns.map .int))→1<W*H→∃ f:Fold,Fits c r fs f∧ev G (.call "_law_fold_by" (.cons (.call "_law_cell_at" (.cons (.var 0) (.cons (.lit (.int 7)) .nil))) (.cons (.fld (.var 3) "wide") (.cons (.fld (.var 3) "high") .nil)))) ρ=some f.d:=fun {ρ} e0 e1 hb=>by
  obtain ⟨sd,over,kk,k1,k2,efb⟩:=hfb W H (at0 ns 7) (by rw [← hW]; exact S1.sits.rect.w1) (by rw [← hH]; exact S1.sits.rect.h1) hb
  refine ⟨⟨sd,over,kk⟩,⟨k1,by show kk<ext sd (runs c r fs).2.1 (runs c r fs).2.2; rw [hW,hH]; exact k2⟩,?_⟩
  have a1:ev G (.call "_law_cell_at" (.cons (.var 0) (.cons (.lit (.int 7)) .nil))) ρ=some (.int (at0 ns 7)):=by
   rw [cK,aI,e1]
   simp only [zz,yy,aA,aB,c7]
  rw [cK,aI,a1,aI,ew e0,aI,eh e0]
  simp only [zz,yy,aA,aB,efb]
  rfl
 have try6:∀ {ρ:List Sl} {a:IE} {Q:D} {o:D} {f:Fold},ev G a ρ=some Q→ev G (.var 6) ρ=some f.d→G.fn "_law_fold_tried" [Q,.str f.sd.str,.bl f.over,.int f.k]=some (.ok o)→ev G (.call "_law_fold_tried" (.cons a (.cons (.ix (.var 6) (.lit (.int 0))) (.cons (.ix (.var 6) (.lit (.int 1))) (.cons (.ix (.var 6) (.lit (.int 2))) .nil))))) ρ=some o:=fun {ρ a Q o f} e1 e2 e3=>by
  rw [cK,aI,e1,aI,fB,e2,aI,fB,e2,aI,fB,e2]
  simp only [zz,yy,aA,aB,Fold.d,bI,iW.1,iW.2.1,iW.2.2,e3]
 have good:∃ t6,ex G LF (fr ns c r fs sp s5 s6 (.im bad) .un .un .un .un .un)=some (.nx (fr ns c r fs sp s5 t6 (.im bad) .un .un .un .un .un)):=by
  by_cases hb:1<W*H
  ·obtain ⟨f,ok,ef⟩:=fby (ρ:=fr ns c r fs sp s5 s6 (.im bad) .un .un .un .un .un) rfl rfl hb
   refine ⟨.im f.d,gE ((esz rfl).trans (by rw [decide_eq_true hb])) (aE (aH ef) (cD ?_ aU))⟩
   rw [bG,try6 (Q:=aP c r fs) (f:=f) rfl rfl (ht1 c r fs sp f S1 ok (by omega))]
   simp only [zz,yy,aA,aB]
   exact ne_str okW.2.1
  ·exact ⟨s6,cD ((esz rfl).trans (by rw [decide_eq_false hb])) aU⟩
 obtain ⟨t6,good⟩:=good
 obtain ⟨due,hdue⟩:∃ due,due=D.lst [.str d0,.str d1,.str d2]:=⟨_,rfl⟩
 have last:∃ u6,ex G LC (fr ns c r fs sp (.im (.int (at0 ns 5))) t6 (.im bad) (.im (.bl lv)) (.im (.int n)) (.im P) (.im (.lst (js.map (jD sp)))) (.im due))=some (.nx (fr ns c r fs sp (.im (.int (at0 ns 5))) u6 (.im bad) (.im (.bl lv)) (.im (.int n)) (.im P) (.im (.lst (js.map (jD sp)))) (.im due))):=by
  by_cases hb:1<W*H
  ·obtain ⟨f,ok,ef⟩:=fby (ρ:=fr ns c r fs sp (.im (.int (at0 ns 5))) t6 (.im bad) (.im (.bl lv)) (.im (.int n)) (.im P) (.im (.lst (js.map (jD sp)))) (.im due)) rfl rfl hb
   refine ⟨.im f.d,gE ((esz rfl).trans (by rw [decide_eq_true hb])) (aE (aH ef) (cD ?_ aU))⟩
   rw [bG,try6 (Q:=P) (f:=f) rfl rfl (T2 f ok),fB,show ev G (.var 12) (view ((fr ns c r fs sp (.im (.int (at0 ns 5))) t6 (.im bad) (.im (.bl lv)) (.im (.int n)) (.im P) (.im (.lst (js.map (jD sp)))) (.im due)).set 6 (.im f.d)))=some due from rfl,hdue]
   simp only [zz,yy,aA,aB,iW.2.2]
   exact ne_str okd.2.2
  ·exact ⟨t6,cD ((esz rfl).trans (by rw [decide_eq_false hb])) aU⟩
 obtain ⟨u6,last⟩:=last
 have hdn':∀ {ρ:List Sl},ev G (.var 3) ρ=some (aP c r fs)→ev G (.meth (.var 3) "done" .nil) ρ=some (.lst (fs.map Fold.d)):=fun {ρ} e =>
  yA (c:=c) (r:=r) (w:=W) (h:=H) (T:=(runs c r fs).1.map sE) (F:=fs.map Fold.d) (S:=[]) rfl (e.trans (by rw [hP]; rfl)) (by simp only [zz,yy,aA,aB]) (hdn c r _ _ _ _ [])
 refine aE (ρ':=[.im (.frz (ns.map .int)),.im (.int c),.im (.int r),.un,.un,.un,.un,.un,.un,.un,.un,.un,.un]) (wC.trans ?_) (aE (aH (d:=aP c r []) ?_) (aE (aH (d:=bD (cZ c r)) ?_) (aE (cD ?_ aU) (aE ((cP (d:=.lst ((cut ns (some ((2:Nat):Int)) (some ((2+m4:Nat):Int))).map D.int)) ?_ dP).trans l) (aE (aH (d:=bad) ?_) (aE (cD ?_ aU) (aE good
  (aE (aH (d:=.int (at0 ns 5)) ?_) (aE (aH (d:=.bl lv) ?_) (aE (aH (d:=.int n) ?_) (aE (aH (d:=P) ?_) (aE (aH (d:=.lst (js.map (jD sp))) ?_) (aE (aH (d:=.lst [.str "fold",.str (if fs.isEmpty then ("fold":Str) else "done"),.str "done"]) ?_) (aE (ρ':=fr ns c r fs sp (.im (.int (at0 ns 5))) t6 (.im bad) (.im (.bl lv)) (.im (.int n)) (.im P) (.im (.lst (js.map (jD sp)))) (.im due)) ?_ (aE (cD ?_ aU) (aE last (aR ?_)))))))))))))))))
 ·simp only [zz,yy,aA,aB,c0,esb]
  rfl
 ·simp only [zz,yy,aA,aB,hl c r hc hr hcr]
  rfl
 ·simp only [List.set]
  simp only [zz,yy,aA,aB,hlf c r hc (by omega) (by omega)]
 ·simp only [List.set,bS,cF,aY]
  simp only [zz,yy,aA,aB,hu0 c r]
  exact ne_str okW.1
 ·simp only [List.set]
  simp only [zz,yy,aA,aB,c1,gK (i:=at0 ns 1) (j:=4) (by decide),em4,part,intOf]
  simp only [if_true]
  simp only [zz,yy,aA,aB,SA]
  congr 3
 ·have a1:ev G (.call "_law_cell_at" (.cons (.var 0) (.cons (.lit (.int 6)) .nil))) (fr ns c r fs sp s5 s6 .un .un .un .un .un .un)=some (.int (at0 ns 6)):=by
   unfold fr
   simp only [zz,yy,aA,aB,c6]
  rw [cK,aI,a1,aI,ew rfl,aI,eh rfl]
  simp only [zz,yy,aA,aB,ebf]
 ·rw [bG,try3 (Q:=aP c r fs) rfl rfl et0]
  simp only [zz,yy,aA,aB]
  exact ne_str okW.1
 ·unfold fr
  simp only [zz,yy,aA,aB,c5]
 ·unfold fr
  simp only [List.set]
  simp only [zz,yy,aA,aB,gK (i:=at0 ns 5) (j:=2) (by decide),hlv]
 ·rw [bG,bG,jY,bG,bG,ew rfl,eh rfl]
  unfold fr
  simp only [List.set]
  rw [hn,hm]
  cases lv<;>(simp only [zz,yy,aA,aB,cQ,jO (i:=at0 ns 5) (j:=2) (by decide) (by decide)]; exact gK (by first|omega|simp))
 ·unfold fr
  simp only [List.set]
  simp only [zz,yy,aA,aB,ect]
 ·rw [hjs]
  refine oO (jD sp) (jD sp) _ (s:=jsE sp c r) ?_ dP fun j _=>⟨[.un,.im (jD sp j),.im (.bl lv),.im (.int n)],rfl,?_,by simp only [zz,yy]⟩
  ·unfold fr
   simp only [List.set]
   simp only [zz,yy,aA,aB,hlj c r fs sp hc hcr c64 S1]
  ·refine nB (x:=(j.2.2 == lv)) (y:=(ER sp j.1 j.2.2 == n)) ?_ fun _=>?_
   ·unfold jD
    rw [bG,fB,eI]
    simp only [zz,yy,aA,aB]
    exact VP
   ·unfold jD
    rw [bG,fB,eI]
    simp only [zz,yy,aA,aB]
    rfl
 ·rw [zH,aI,aI,jY,bG,hdn' rfl]
  have en:op2 .eq (.lst (fs.map Fold.d)) (.lst [])=some (.bl fs.isEmpty):=K18.eq_nil (f:=Fold.d) fun f=>xU (f:=f)
  simp only [zz,yy,aA,aB,en]
  cases fs.isEmpty<;>rfl
 ·have en:∀ t12,ev G (.bin .ne (.var 11) (.lst .nil)) (view (fr ns c r fs sp (.im (.int (at0 ns 5))) t6 (.im bad) (.im (.bl lv)) (.im (.int n)) (.im P) (.im (.lst (js.map (jD sp)))) t12))=some (.bl (!js.isEmpty)):=fun _=>by
   rw [bG,eI]
   unfold fr
   simp only [bS,cF,aY]
   simp only [zz,yy,aA,aB]
   exact ne_nil fun _=>rfl
  cases hj:js.isEmpty with
  | true =>
   rw [hj] at hd
   refine cD ((en _).trans (by rw [hj]; rfl)) (aU.trans ?_)
   cases hd
   rw [hdue]
   rfl
  | false =>
   rw [hj] at hd
   cases hd
   refine gE ((en _).trans (by rw [hj]; rfl)) ((aH (d:=due) ?_).trans rfl)
   rw [hdue]
   simp only [zz,yy,aA,aB]
 ·refine fA (x:=false) (y:=false) ?_ fun _=>?_
  ·rw [bG,try3 (Q:=P) rfl rfl T0,fB,show ev G (.var 12) (view (fr ns c r fs sp (.im (.int (at0 ns 5))) t6 (.im bad) (.im (.bl lv)) (.im (.int n)) (.im P) (.im (.lst (js.map (jD sp)))) (.im due)))=some due from rfl,hdue]
   simp only [zz,yy,aA,aB,iW.1]
   exact ne_str okd.1
  ·rw [bG,fB,show ev G (.var 12) (view (fr ns c r fs sp (.im (.int (at0 ns 5))) t6 (.im bad) (.im (.bl lv)) (.im (.int n)) (.im P) (.im (.lst (js.map (jD sp)))) (.im due)))=some due from rfl,hdue,cK,aI,show ev G (.var 10) (view (fr ns c r fs sp (.im (.int (at0 ns 5))) t6 (.im bad) (.im (.bl lv)) (.im (.int n)) (.im P) (.im (.lst (js.map (jD sp)))) (.im (.lst [.str d0,.str d1,.str d2]))))=some P from rfl]
   simp only [zz,yy,aA,aB,iW.2.1,T1]
   exact ne_str okd.2.1
 ·have eP:=hsp c r W H (runs c r fs).1 (fs.map Fold.d) ((js.map pairOf).map pD) sp (by rw [← hW,← hH]; exact S1.sits) short
  rw [← hPd] at eP
  have eQ:=hsp c r W H (runs c r fs).1 (fs.map Fold.d) [] sp (by rw [← hW,← hH]; exact S1.sits) short
  rw [← hP] at eQ
  refine nB (x:=true) (y:=true) ?_ fun _=>?_
  ·unfold fr
   simp only [zz,yy,aA,aB,eP]
  ·unfold fr
   simp only [zz,yy,aA,aB,eQ]
end
end K03
end Z
namespace Z
open PySem
structure CC where
 N:List Str
 sc:Scope
 fns:List Str
 cls:List Str
 csts:List Str
 mus:List Str
 /-- defs (class,name) that hand back a list of their own -/
 fresh:List Str
noncomputable def bT (c:CC) (x:Str):Option Nat:=match c.sc.names.lookup x with
 | some .local=>c.N.idxOf? x
 | some .cell=>c.N.idxOf? x
 | some .free=>c.N.idxOf? x
 | _=>none
def aX (c:CC) (x:Str):Bool:=c.sc.names.lookup x == some .globalImplicit
noncomputable def aAa (c:CC) (x:Str):Option Nat:=if c.mus.contains x then bT c x else none
noncomputable def one? {α:Type}:List α→Option α
 | [a]=>some a
 | _=>none
noncomputable def nameP:Expr→Option (Str × Pos)
 | .Name x p=>some (x,p)
 | _=>none
noncomputable def LG:Expr→Option (Expr × Str × Pos)
 | .Attribute o m p=>some (o,m,p)
 | _=>none
noncomputable def mJ:Expr→Option (Expr × List Expr × List Keyword × Pos)
 | .Call f as kw p=>some (f,as,kw,p)
 | _=>none
noncomputable def slP:Expr→Option (Option Expr × Option Expr × Option Expr × Pos)
 | .Slice a b st p=>some (a,b,st,p)
 | _=>none
noncomputable def tupP:Expr→Option (List Expr × Nat × Pos)
 | .Tuple es k p=>some (es,k,p)
 | _=>none
noncomputable def aGp:Expr→Option (Const × Nat × Pos)
 | .Constant v k p=>some (v,k,p)
 | _=>none
noncomputable def fP (c:CC) (e:Expr):Option Nat:=(nameP e).bind fun x=>aAa c x.1
noncomputable def PZ:Operator→Option O2
 | .Add=>some .add
 | .Sub=>some .sub
 | .Mult=>some .mul
 | .FloorDiv=>some .fdiv
 | .Mod=>some .mod
 | .Pow=>some .pow
 | _=>none
noncomputable def jQ:CmpOp→O2
 | .Eq=>.eq
 | .NotEq=>.ne
 | .Lt=>.lt
 | .LtE=>.le
 | .Gt=>.gt
 | .GtE=>.ge
 | .Is=>.is
 | .IsNot=>.isnot
 | .In=>.isin
 | .NotIn=>.notin
noncomputable def oX (x:Str):Option BF:=
 if x = "len" then some .len else if x = "int" then some .int else if x = "list" then some .list else if x = "tuple" then some .tuple else if x = "max" then some .max
 else if x = "min" then some .min else if x = "str" then some .str else if x = "sorted" then some .sorted else if x = "any" then some .any else none
noncomputable def srcOf (x:Str):Option Src:=
 if x = "range" then some .rng else if x = "reversed" then some .rev else none
def iX:List Str:=["int","bool","str","list","tuple"]
noncomputable def fZ (c:CC):Expr→Option Nat
 | .Name x _=>match c.sc.names.lookup x with
  | some .local=>c.N.idxOf? x
  | some .cell=>c.N.idxOf? x
  | _=>none
 | _=>none
noncomputable def eZ (c:CC):List Expr→Option (List Nat)
 | []=>some []
 | e::r=>do some ((← fZ c e)::(← eZ c r))
noncomputable def cX (c:CC):Expr→Option (List Nat × Bool)
 | .Name x p=>(fZ c (.Name x p)).map fun i=>([i],false)
 | .Tuple es _ _=>(eZ c es).map fun is=>(is,true)
 | _=>none
noncomputable def sF:NameKind→Bool
 | .globalImplicit=>true
 | .globalExplicit=>true
 | _=>false
def ownNames (sc:Scope):List Str:=(sc.names.filter fun x=>!sF x.2).map (·.1)
noncomputable def jC:Expr→Bool
 | .Call _ _ _ _=>false
 | _=>true
def kA (c:CC) (sc:Scope):Bool:=
 sc.kind == .function&&sc.names.all (fun x=>x.2 != .cell)&&sc.names.all (fun x=>x.2 != .local || sc.names.lookup x.1 == some .local)&&sc.names.all (fun x=>x.2 != .free || sc.names.lookup x.1 == some .free)&&decide (ownNames sc).Nodup &&
 (ownNames sc).all (fun x=>!(x == ("__debug__":Str))&&!(x == ("__classdict__":Str)))&&!(sc.names.lookup ("__debug__":Str) == some NameKind.globalImplicit) &&
 sc.names.all (fun x=>x.2 != .free || (c.sc.names.lookup x.1 == some .cell || c.sc.names.lookup x.1 == some .free))
noncomputable def freeOf (c:CC) (sc:Scope):List (Str × NameKind)→Option (List (Nat × Nat))
 | []=>some []
 | x::r=>do some ((← (ownNames sc).idxOf? x.1,← bT c x.1)::(← freeOf c sc r))
def own (c:CC) (x:Str):Bool:=c.fns.contains x || c.cls.contains x
noncomputable def xP (c:CC) (x:Str):Option IE:=match bT c x with
 | some i=>some (.var i)
 | none=>if aX c x&&c.csts.contains x then some (.glo x) else none
noncomputable def zU:Const→Option IE
 | .int i=>some (.lit (.int i))
 | .bool b=>some (.lit (.bl b))
 | .str x=>some (.lit (.str x))
 | .none=>some (.lit .non)
 | _=>none
noncomputable def aCU (a:Option IE):UnaryOp→Option IE
 | .USub=>a.map .neg
 | .Not=>a.map fun x=>.not (.tr x)
 | _=>none
noncomputable def boK:BoolOp→Bool
 | .And=>true
 | .Or=>false
noncomputable def GU (f:Expr→Option IE) (a:Option IE):List CmpOp→List Expr→Option IE
 | [o],[b]=>a.bind fun x=>(f b).map fun y=>.bin (jQ o) x y
 | [o,o'],[b,d]=>a.bind fun x=>(f b).bind fun y=>(f d).map fun z=>.chain (jQ o) (jQ o') x y z
 | _,_=>none
noncomputable def rR (f:Expr→Option IE):Option Expr→Option IE
 | none=>some (.lit .non)
 | some e=>f e
noncomputable def aCW (m:Option Nat) (a:Option IE) (bl:Bool) (l:IE) (bh:Bool) (h:IE):Option IE:=match m with
 | some i=>some (.slm i bl l bh h)
 | none=>a.map fun x=>.sl x bl l bh h
noncomputable def aCZ (m:Option Nat) (a:Option IE) (k:IE):Option IE:=match m with
 | some i=>some (.ixm i k)
 | none=>a.map fun x=>.ix x k
noncomputable def GQ (f:Expr→Option IE) (m:Option Nat) (a:Option IE) (i:Expr):Option IE:=match slP i with
 | some q=>if q.2.2.1.isSome then none else (rR f q.1).bind fun l=>(rR f q.2.1).bind fun h=>aCW m a q.1.isSome l q.2.1.isSome h
 | none=>(f i).bind (aCZ m a)
noncomputable def GR (f:Expr→Option IE) (c:CC):List Expr→Option IE
 | [a,y]=>(nameP y).bind fun y=>if aX c y.1&&iX.contains y.1&&!own c y.1 then (f a).map fun x=>.isi x y.1 else none
 | _=>none
noncomputable def VH (c:CC) (args:List Expr):Option Nat:=(one? args).bind (fP c)
noncomputable def oW (c:CC) (e:Expr):Option (Str × List Expr):=(mJ e).bind fun q=>(nameP q.1).bind fun x=>if q.2.2.1.isEmpty&&aX c x.1&&!own c x.1 then some (x.1,q.2.1) else none
noncomputable def xN (c:CC) (args:List Expr):Option Expr:=(one? args).bind fun e=>(oW c e).bind fun q=>if q.1 == "reversed" then one? q.2 else none
noncomputable def aIs (b:BF) (as:Option IE) (i:Nat):Option IE:=match b with
 | .len=>some (.lenm i)
 | .sorted=>some (.sortm i)
 | _=>as.map fun x=>.bcall b x
noncomputable def YB (b:BF) (as:Option IE) (w:Option (Option IE)):Option IE:=match b,w with
 | .list,some o=>o.map fun x=>.walk .rev x
 | _,_=>as.map fun x=>.bcall b x
noncomputable def EA (f:Expr→Option IE) (c:CC) (b:BF) (args:List Expr) (as:Option IE):Option IE:=match VH c args with
 | some i=>aIs b as i
 | none=>YB b as ((xN c args).map f)
noncomputable def zV (f:Expr→Option IE) (c:CC) (x:Str) (args:List Expr) (as:Option IE):Option IE:=
 if aX c x then
  (if c.fns.contains x then as.map fun y=>.call x y
   else if c.cls.contains x then as.map fun y=>.mk x y
   else if x == "isinstance" then GR f c args
   else (oX x).bind fun b=>EA f c b args as)
 else none
noncomputable def YC (f:Expr→Option IE) (c:CC) (g:Expr) (args:List Expr) (as:Option IE) (p:Pos):Option IE:=match g with
 | .Name x _=>zV f c x args as
 | .Attribute o m ap=>if jC o&&decide (args.length<30)&&(ap.endLine == p.line) then (f o).bind fun x=>as.map fun y=>.meth x m y else none
 | _=>none
noncomputable def YA (f:Expr→Option IE):List Expr→Option IE
 | []=>some (.lit (.bl true))
 | [e]=>f e
 | _=>none
noncomputable def GT (c:CC) (sc:Scope) (g:Comprehension) (it:Option (Src × IE)) (ct:Expr→Option IE) (el:Option IE):Option IE:=
 (cX { c with N:=ownNames sc,sc:=sc } g.target).bind fun tg=>it.bind fun k=>(YA ct g.ifs).bind fun te=>el.bind fun el=>(freeOf c sc (sc.names.filter fun x=>x.2 == .free)).bind fun fr =>
  if kA c sc&&tg.1.all (fun i=>(fr.lookup i).isNone) then some (.comp (ownNames sc).length fr tg.1 tg.2 k.1 k.2 te el) else none
def few (es:List Expr):Bool:=decide (es.length≤100)
mutual
noncomputable def cE:Nat→CC→Expr→Option IE
 | 0,_,_=>none
 | n+1,c,e=>match e with
  | .Name x _=>xP c x
  | .Constant v _ _=>zU v
  | .BinOp a o b _=>(PZ o).bind fun o=>(cE n c a).bind fun x=>(cE n c b).map fun y=>.bin o x y
  | .UnaryOp o a _=>aCU (cE n c a) o
  | .BoolOp o vs _=>cB n c false (boK o) vs
  | .IfExp d a b _=>(cT n c d).bind fun x=>(cE n c a).bind fun y=>(cE n c b).map fun z=>.ite x y z
  | .Compare a os bs _=>GU (cE n c) (cE n c a) os bs
  | .Tuple es _ _=>if few es then (cA n c es).map .tup else none
  | .List es _=>if few es then (cA n c es).map .lst else none
  | .Subscript a i _=>GQ (cE n c) (fP c a) (cE n c a) i
  | .Attribute a f _=>if jC a then (cE n c a).map fun x=>.fld x f else none
  | .ListComp elt gs sc _=>(one? gs).bind fun g=>if g.is_async=0 then GT c sc g (cI n c g.iter) (cT n { c with N:=ownNames sc,sc:=sc }) (cE n { c with N:=ownNames sc,sc:=sc } elt) else none
  | .Call f args kw p=>if kw.isEmpty then YC (cE n c) c f args (cA n c args) p else none
  | _=>none
/-- as a test -/
noncomputable def cT:Nat→CC→Expr→Option IE
 | 0,_,_=>none
 | n+1,c,e=>match e with
  | .BoolOp o vs _=>cB n c true (boK o) vs
  | .UnaryOp .Not a _=>(cT n c a).map .not
  | .Compare a os bs _=>GU (cE n c) (cE n c a) os bs
  | .IfExp _ _ _ _=>none
  | e=>(cE n c e).map .tr
/-- and (k),or -/
noncomputable def cB:Nat→CC→Bool→Bool→List Expr→Option IE
 | 0,_,_,_,_=>none
 | n+1,c,t,k,[]=>none
 | n+1,c,t,k,[a]=>if t then cT n c a else cE n c a
 | n+1,c,t,k,a::b::r=>(if t then cT n c a else cE n c a).bind fun x=>(cB n c t k (b::r)).map fun y=>if k then .and x y else .or x y
/-- an argument list -/
noncomputable def cA:Nat→CC→List Expr→Option IE
 | 0,_,_=>none
 | n+1,c,[]=>some .nil
 | n+1,c,e::es=>(cE n c e).bind fun x=>(cA n c es).map fun y=>.cons x y
/-- what a for walks -/
noncomputable def cI:Nat→CC→Expr→Option (Src × IE)
 | 0,_,_=>none
 | n+1,c,e=>match (oW c e).bind fun q=>(srcOf q.1).map fun k=>(k,q.2) with
  | some q=>(match q.1 with
   | .rng=>(cA n c q.2).map fun y=>(.rng,.tup y)
   | k=>(one? q.2).bind fun a=>(cE n c a).map fun y=>(k,y))
  | none=>(cE n c e).map fun y=>(.seq,y)
end
def aJq (i:Expr):Bool:=(slP i).isSome
noncomputable def aAv (c:CC):Expr→Bool
 | .Name x _=>(c.fns.contains x&&c.fresh.contains x) || (aX c x&&(x == "list" || x == "sorted")&&!own c x)
 | .Attribute _ m _=>c.fresh.contains m
 | _=>false
noncomputable def gC (c:CC):Expr→Bool
 | .List _ _=>true
 | .ListComp _ _ _ _=>true
 | .Subscript _ i _=>aJq i
 | .Call f _ _ _=>aAv c f
 | _=>false
noncomputable def cW (c:CC) (nm:Option Str) (e:Expr):Option Str:=(mJ e).bind fun q=>(nameP q.1).bind fun f=>(one? q.2.1).bind fun a=>(nameP a).bind fun y=>if q.2.2.1.isEmpty&&nm == some y.1&&aX c f.1 then some f.1 else none
noncomputable def XH (e:Expr):Option Str:=(aGp e).bind fun v=>match v.1 with
 | .str x=>some x
 | _=>none
noncomputable def cH (c:CC) (nm:Option Str):Expr→Option HR
 | .Constant (.bool b) _ _=>some (.lit (.bl b))
 | .Compare e os bs _=>(cW c nm e).bind fun f=>(one? os).bind fun o=>(one? bs).bind fun b=>(XH b).bind fun x=>if o == .Eq then some (.weq f x) else none
 | e=>(cW c nm e).map .word
noncomputable def cN (c:CC):Option Str→Option (Option Nat)
 | none=>some none
 | some n=>if c.sc.names.lookup n == some .local&&!(n == ("__debug__":Str))&&!(n == ("__classdict__":Str)) then (c.N.idxOf? n).map some else none
noncomputable def aCY (f:Expr→Option IE) (c:CC):Option Expr→Option IS
 | none=>some .retn
 | some e=>match fP c e with
  | some i=>some (.retm i)
  | none=>(f e).map fun x=>.ret (gC c e) x
noncomputable def AM:Expr→Bool
 | .Dict [] [] _=>true
 | _=>false
noncomputable def GV (f:Expr→Option IE) (c:CC) (x:Str) (e:Expr) (i:Nat):Option IS:=
 if c.mus.contains x then (if AM e then some (.setd i) else if gC c e then (f e).map fun y=>.setm i y else none) else (f e).map fun y=>.set i y
noncomputable def xO (f:Expr→Option IE) (c:CC) (ts:List Expr) (e:Expr):Option IS:=match tupP e with
 | some _=>none
 | none=>(eZ c ts).bind fun is=>(f e).map fun y=>.sett is y
noncomputable def TF (f:Expr→Option IE) (c:CC) (e:Expr):Expr→Option IS
 | .Name x p=>(fZ c (.Name x p)).bind (GV f c x e)
 | .Tuple ts _ _=>xO f c ts e
 | .Subscript a i _=>(fP c a).bind fun j=>(f i).bind fun k=>(f e).map fun y=>.put j k y
 | _=>none
noncomputable def SK (c:CC) (e:Expr):Option (Nat × Expr):=(mJ e).bind fun q=>(LG q.1).bind fun g=>(fP c g.1).bind fun j=>(one? q.2.1).bind fun a=>if q.2.2.1.isEmpty&&g.2.1 == "append" && g.2.2.endLine == q.2.2.2.line then some (j,a) else none
noncomputable def aIt (f:Expr→Option IE) (c:CC) (e:Expr):Option IS:=match SK c e with
 | some q=>(f q.2).map fun x=>.app q.1 x
 | none=>(mJ e).bind fun _=>(f e).map .drop
noncomputable def aCX (c:CC) (e:Option Expr) (h:Option Expr):Option IS:=e.bind fun e=>(mJ e).bind fun q=>(nameP q.1).bind fun x=>(one? q.2.1).bind fun a=>(XH a).bind fun _ =>
 if h.isNone&&q.2.2.1.isEmpty&&aX c x.1&&c.cls.contains x.1 then some (.rse x.1) else none
noncomputable def exP:Stmt→Option (Expr × Pos)
 | .Expr e p=>some (e,p)
 | _=>none
noncomputable def aCT:Stmt→Option (Option Expr × Pos)
 | .Return e p=>some (e,p)
 | _=>none
noncomputable def aCV (f:Expr→Option IE) (c:CC) (b:List Stmt):List ExceptHandler→Option IS
 | [.ExceptHandler ty nm body _]=>(one? b).bind fun s=>(exP s).bind fun e=>(mJ e.1).bind fun _=>ty.bind fun ty=>(nameP ty).bind fun x=>(one? body).bind fun r=>(aCT r).bind fun r=>r.1.bind fun re =>
   if aX c x.1 then (cN c nm).bind fun i=>(cH c nm re).bind fun r=>(f e.1).map fun u=>.tryx u x.1 i r else none
 | _=>none
mutual
noncomputable def cS:Nat→CC→Stmt→Option IS
 | 0,_,_=>none
 | n+1,c,st=>match st with
  | .Pass _=>some .nop
  | .Return v _=>aCY (cE n c) c v
  | .Assign ts e _=>(one? ts).bind (TF (cE n c) c e)
  | .If t a b _=>(cT n c t).bind fun t=>(cSs n c a).bind fun a=>(cSs n c b).map fun b=>.iff t a b
  | .For tg iter body els _=>if els.isEmpty then (cX c tg).bind fun g=>(cI n c iter).bind fun k=>(cSs n c body).map fun b=>.loop g.1 g.2 k.1 k.2 b else none
  | .Expr e _=>aIt (cE n c) c e
  | .Raise e h _=>aCX c e h
  | .Try b hs els fin _=>if els.isEmpty&&fin.isEmpty then aCV (cE n c) c b hs else none
  | _=>none
noncomputable def cSs:Nat→CC→List Stmt→Option IS
 | 0,_,_=>none
 | n+1,c,[]=>some .nop
 | n+1,c,[s]=>cS n c s
 | n+1,c,s::s2::r=>(cS n c s).bind fun a=>(cSs n c (s2::r)).map fun b=>.seq a b
end
theorem bQ {α:Type} {l:List α} {a:α} (h:one? l=some a):l=[a]:=by
 match l,h with
 | [_],h=>exact congrArg (fun x=>[x]) (Option.some.inj h)
theorem cM {e:Expr} {x:Str × Pos} (h:nameP e=some x):e=.Name x.1 x.2:=by
 cases e<;>first|exact nomatch (show none=some x from h)|(cases (show some _=some x from h); rfl)
theorem oY {e:Expr} {x:Expr × Str × Pos} (h:LG e=some x):e=.Attribute x.1 x.2.1 x.2.2:=by
 cases e<;>first|exact nomatch (show none=some x from h)|(cases (show some _=some x from h); rfl)
theorem eJ {e:Expr} {x:Expr × List Expr × List Keyword × Pos} (h:mJ e=some x):e=.Call x.1 x.2.1 x.2.2.1 x.2.2.2:=by
 cases e<;>first|exact nomatch (show none=some x from h)|(cases (show some _=some x from h); rfl)
theorem GN {e:Expr} {x:Option Expr × Option Expr × Option Expr × Pos} (h:slP e=some x):e=.Slice x.1 x.2.1 x.2.2.1 x.2.2.2:=by
 cases e<;>first|exact nomatch (show none=some x from h)|(cases (show some _=some x from h); rfl)
theorem FP {e:Expr} {x:Const × Nat × Pos} (h:aGp e=some x):e=.Constant x.1 x.2.1 x.2.2:=by
 cases e<;>first|exact nomatch (show none=some x from h)|(cases (show some _=some x from h); rfl)
theorem aF {α β:Type} {o:Option α} {f:α→Option β} {b:β} (h:o.bind f=some b):∃ a,o=some a∧f a=some b:=Option.bind_eq_some_iff.mp h
theorem aQ {α β:Type} {o:Option α} {f:α→β} {b:β} (h:o.map f=some b):∃ a,o=some a∧b=f a:=by
 obtain ⟨a,h1,h2⟩:=Option.map_eq_some_iff.mp h
 exact ⟨a,h1,h2.symm⟩
theorem bK {α:Type} {k:Bool} {o:Option α} {a:α} (h:(if k then o else none)=some a):k=true∧o=some a:=by
 cases k with
 | true=>exact ⟨rfl,h⟩
 | false=>exact nomatch (show none=some a from h)
theorem cU {a b:Bool} (h:(a&&b)=true):a=true∧b=true:=(Bool.and_eq_true a b) ▸ h
theorem VD {a:Bool} (h:(!a)=true):a=false:=by cases a<;>first|rfl|exact h.symm
theorem kU {α:Type} {l:List α} (h:l.isEmpty=true):l=[]:=List.isEmpty_iff.mp h
theorem HN {c:CC} {x:Str} (h:own c x=false):c.fns.contains x=false∧c.cls.contains x=false:=by
 unfold own at h
 rw [Bool.or_eq_false_iff] at h
 exact h
theorem mK {c:CC} {e:Expr} {q:Str × List Expr} (h:oW c e=some q):∃ p1 p2,e=.Call (.Name q.1 p1) q.2 [] p2∧aX c q.1=true∧own c q.1=false:=by
 obtain ⟨r,h1,h⟩:=aF h
 obtain ⟨x,h2,h⟩:=aF h
 obtain ⟨h3,h⟩:=bK h
 obtain ⟨h3,h5⟩:=cU h3
 obtain ⟨h3,h4⟩:=cU h3
 cases h
 exact ⟨x.2,r.2.2.2,by rw [eJ h1,cM h2,kU h3],h4,VD h5⟩
theorem pP {e:Expr} {x:Str} (h:XH e=some x):∃ j p,e=.Constant (.str x) j p:=by
 obtain ⟨v,h1,h⟩:=aF h
 obtain ⟨v,j,p⟩:=v
 have e1:=FP h1
 cases v<;>first|exact nomatch (show none=some x from h)|(cases (show some _=some x from h); exact ⟨j,p,e1⟩)
end Z
namespace Z
open PySem PySem.Spec PyProof.Rows L2
def ExcAt (xc:Str→Option Addr) (H:Hp) (a:Addr) (c:Str):Prop:=
 ∃ φ C,H a=some (.ext φ)∧xc c=some C∧∀ h:Heap,φ h→∃ o,h.get? a=some o∧o.cls=.ref C
structure Tx where
 cl:Str→Option Addr
 xc:Str→Option Addr
section
variable (K:PySem.W.Frag)(T:Tx)(H:Hp)(S:Addr→Prop)
mutual
noncomputable def Rep:D→V→Prop
 | .non,v=>v=.non
 | .bl b,v=>v=.bl b
 | .int i,v=>v=.int i
 | .str x,v=>v=.str x
 | .lst ds,v=>∃ a xs,v=.ref a∧¬ S a∧H a=some (.lst xs)∧aD ds xs
 | .tup ds,v=>∃ a xs,v=.ref a∧¬ S a∧SqT K H a xs∧aD ds xs
 | .obj c fs,v=>∃ a C dx gs,v=.ref a∧¬ S a∧T.cl c=some C∧H a=some (.ins C dx gs)∧bX fs gs
 | .exc c,v=>∃ a,v=.ref a∧¬ S a∧ExcAt T.xc H a c
 | .dct kvs,v=>∃ a gs,v=.ref a∧¬ S a∧H a=some (.dK gs)∧bA kvs gs
 | .frz ds,v=>∃ a xs,v=.ref a∧¬ S a∧SqL K H a xs∧aD ds xs
noncomputable def aD:List D→List V→Prop
 | [],xs=>xs=[]
 | d::ds,xs=>∃ x r,xs=x::r∧Rep d x∧aD ds r
noncomputable def bX:List (Str × D)→List (Str × V)→Prop
 | [],gs=>gs=[]
 | (f,d)::fs,gs=>∃ x r,gs=(f,x)::r∧Rep d x∧bX fs r
noncomputable def bA:List (Int × D)→List (Key × V)→Prop
 | [],gs=>gs=[]
 | (i,d)::fs,gs=>∃ x r,gs=(Sum.inl i,x)::r∧Rep d x∧bA fs r
end
end
section
variable {K:PySem.W.Frag}{T:Tx}{H H':Hp}{S S':Addr→Prop}
theorem SqT.keeps {a:Addr} {xs:List V} (h:SqT K H a xs) (k:∀ o,H a=some o→H' a=some o):SqT K H' a xs:=by
 rcases h with (h|⟨o,h⟩)|h
 ·exact .inl (.inl (k _ h))
 ·exact .inl (.inr ⟨o,k _ h⟩)
 ·exact .inr h
theorem SqL.keeps {a:Addr} {xs:List V} (h:SqL K H a xs) (k:∀ o,H a=some o→H' a=some o):SqL K H' a xs:=by
 rcases h with (h|⟨o,h⟩)|h
 ·exact .inl (.inl (k _ h))
 ·exact .inl (.inr ⟨o,k _ h⟩)
 ·exact .inr h
def aO (K:PySem.W.Frag) (H H':Hp) (S S':Addr→Prop):Prop:=∀ a,¬ S a→((∃ o,H a=some o)∨∃ o,K.lookup a=some o)→¬ S' a∧∀ o,H a=some o→H' a=some o
theorem SqT.has {a:Addr} {xs:List V} (h:SqT K H a xs):(∃ o,H a=some o)∨∃ o,K.lookup a=some o:=by
 rcases h with (h|⟨o,h⟩)|⟨o,_,_,h,_⟩
 ·exact .inl ⟨_,h⟩
 ·exact .inl ⟨_,h⟩
 ·exact .inr ⟨_,h⟩
theorem SqL.has {a:Addr} {xs:List V} (h:SqL K H a xs):(∃ o,H a=some o)∨∃ o,K.lookup a=some o:=by
 rcases h with (h|⟨o,h⟩)|⟨o,_,_,h,_⟩
 ·exact .inl ⟨_,h⟩
 ·exact .inl ⟨_,h⟩
 ·exact .inr ⟨_,h⟩
mutual
theorem Rep.gen (hk:aO K H H' S S'):∀ (d:D) (v:V),Rep K T H S d v→Rep K T H' S' d v
 | .non,v,h=>by unfold Rep at h ⊢; exact h
 | .bl b,v,h=>by unfold Rep at h ⊢; exact h
 | .int i,v,h=>by unfold Rep at h ⊢; exact h
 | .str x,v,h=>by unfold Rep at h ⊢; exact h
 | .lst ds,v,h=>by
  unfold Rep at h ⊢
  obtain ⟨a,xs,e,n,q,r⟩:=h
  obtain ⟨n',k⟩:=hk a n (.inl ⟨_,q⟩)
  exact ⟨a,xs,e,n',k _ q,aD.gen hk ds xs r⟩
 | .tup ds,v,h=>by
  unfold Rep at h ⊢
  obtain ⟨a,xs,e,n,q,r⟩:=h
  obtain ⟨n',k⟩:=hk a n (SqT.has q)
  exact ⟨a,xs,e,n',SqT.keeps q k,aD.gen hk ds xs r⟩
 | .obj c fs,v,h=>by
  unfold Rep at h ⊢
  obtain ⟨a,C,dx,gs,e,n,ec,q,r⟩:=h
  obtain ⟨n',k⟩:=hk a n (.inl ⟨_,q⟩)
  exact ⟨a,C,dx,gs,e,n',ec,k _ q,bX.gen hk fs gs r⟩
 | .exc c,v,h=>by
  unfold Rep at h ⊢
  obtain ⟨a,e,n,φ,C,q,r⟩:=h
  obtain ⟨n',k⟩:=hk a n (.inl ⟨_,q⟩)
  exact ⟨a,e,n',φ,C,k _ q,r⟩
 | .dct kvs,v,h=>by
  unfold Rep at h ⊢
  obtain ⟨a,gs,e,n,q,r⟩:=h
  obtain ⟨n',k⟩:=hk a n (.inl ⟨_,q⟩)
  exact ⟨a,gs,e,n',k _ q,bA.gen hk kvs gs r⟩
 | .frz ds,v,h=>by
  unfold Rep at h ⊢
  obtain ⟨a,xs,e,n,q,r⟩:=h
  obtain ⟨n',k⟩:=hk a n (SqL.has q)
  exact ⟨a,xs,e,n',SqL.keeps q k,aD.gen hk ds xs r⟩
theorem aD.gen (hk:aO K H H' S S'):∀ (ds:List D) (xs:List V),aD K T H S ds xs→aD K T H' S' ds xs
 | [],xs,h=>by unfold aD at h ⊢; exact h
 | d::ds,xs,h=>by
  unfold aD at h ⊢
  obtain ⟨x,r,e,p,q⟩:=h
  exact ⟨x,r,e,Rep.gen hk d x p,aD.gen hk ds r q⟩
theorem bX.gen (hk:aO K H H' S S'):∀ (ds:List (Str × D)) (xs:List (Str × V)),bX K T H S ds xs→bX K T H' S' ds xs
 | [],xs,h=>by unfold bX at h ⊢; exact h
 | (f,d)::ds,xs,h=>by
  unfold bX at h ⊢
  obtain ⟨x,r,e,p,q⟩:=h
  exact ⟨x,r,e,Rep.gen hk d x p,bX.gen hk ds r q⟩
theorem bA.gen (hk:aO K H H' S S'):∀ (ds:List (Int × D)) (xs:List (Key × V)),bA K T H S ds xs→bA K T H' S' ds xs
 | [],xs,h=>by unfold bA at h ⊢; exact h
 | (f,d)::ds,xs,h=>by
  unfold bA at h ⊢
  obtain ⟨x,r,e,p,q⟩:=h
  exact ⟨x,r,e,Rep.gen hk d x p,bA.gen hk ds r q⟩
end
theorem aO.mk (hS:∀ a,S' a→S a) (hk:∀ b o,¬ S b→H b=some o→H' b=some o):aO K H H' S S':=fun a n _=>⟨fun z=>n (hS a z),fun o=>hk a o n⟩
theorem aO.add {D:Addr} {o:HO} (hD:H D=none) (hK:K.lookup D=none):aO K H (upd H D o) S (fun a=>S a∨a=D):=fun a n h=>by
 have ne:a≠D:=by
  rintro rfl
  rcases h with ⟨u,e⟩|⟨u,e⟩
  ·rw [hD] at e; cases e
  ·rw [hK] at e; cases e
 exact ⟨fun z=>z.elim n ne,fun u e=>by rw [aM ne]; exact e⟩
theorem Rep.mono (hS:∀ a,S' a→S a) (hk:∀ b o,¬ S b→H b=some o→H' b=some o) (d:D) (v:V) (h:Rep K T H S d v):Rep K T H' S' d v:=Rep.gen (aO.mk hS hk) d v h
theorem aD.mono (hS:∀ a,S' a→S a) (hk:∀ b o,¬ S b→H b=some o→H' b=some o) (d:List D) (v:List V) (h:aD K T H S d v):aD K T H' S' d v:=aD.gen (aO.mk hS hk) d v h
theorem Rep.same (k:aG H H') {d:D} {v:V} (h:Rep K T H S d v):Rep K T H' S d v:=Rep.mono (fun _ z=>z) (fun b o _=>k b o) d v h
theorem aD.same (k:aG H H') {d:List D} {v:List V} (h:aD K T H S d v):aD K T H' S d v:=aD.mono (fun _ z=>z) (fun b o _=>k b o) d v h
theorem aD.len:∀ {ds:List D} {xs:List V},aD K T H S ds xs→ds.length=xs.length
 | [],xs,h=>by unfold aD at h; subst h; rfl
 | d::ds,xs,h=>by
  unfold aD at h
  obtain ⟨x,r,rfl,_,q⟩:=h
  simp [aD.len q]
theorem aD.get:∀ {ds:List D} {xs:List V} {i:Nat} {d:D},aD K T H S ds xs→ds[i]?=some d→∃ x,xs[i]?=some x∧Rep K T H S d x
 | [],_,_,_,_,e=>by simp at e
 | d::ds,xs,0,d',h,e=>by
  unfold aD at h
  obtain ⟨x,r,rfl,p,q⟩:=h
  simp at e
  subst e
  exact ⟨x,rfl,p⟩
 | d::ds,xs,i+1,d',h,e=>by
  unfold aD at h
  obtain ⟨x,r,rfl,p,q⟩:=h
  obtain ⟨y,h1,h2⟩:=aD.get (i:=i) (d:=d') q (by simpa using e)
  exact ⟨y,by simpa using h1,h2⟩
theorem aD.app:∀ {ds es:List D} {xs ys:List V},aD K T H S ds xs→aD K T H S es ys→aD K T H S (ds++es) (xs++ys)
 | [],es,xs,ys,h,g=>by unfold aD at h; subst h; exact g
 | d::ds,es,xs,ys,h,g=>by
  unfold aD at h
  obtain ⟨x,r,rfl,p,q⟩:=h
  show aD K T H S (d::(ds++es)) _
  unfold aD
  exact ⟨x,r++ys,rfl,p,aD.app q g⟩
theorem aD.nil:aD K T H S [] []:=by unfold aD; rfl
theorem aD.cons {d:D} {x:V} {ds:List D} {xs:List V} (h:Rep K T H S d x) (g:aD K T H S ds xs):aD K T H S (d::ds) (x::xs):=by unfold aD; exact ⟨x,xs,rfl,h,g⟩
theorem aD.drop:∀ {ds:List D} {xs:List V} (n:Nat),aD K T H S ds xs→aD K T H S (ds.drop n) (xs.drop n)
 | ds,xs,0,h=>h
 | [],xs,n+1,h=>by unfold aD at h; subst h; exact aD.nil
 | d::ds,xs,n+1,h=>by
  unfold aD at h
  obtain ⟨x,r,rfl,p,q⟩:=h
  exact aD.drop n q
theorem aD.take:∀ {ds:List D} {xs:List V} (n:Nat),aD K T H S ds xs→aD K T H S (ds.take n) (xs.take n)
 | ds,xs,0,h=>by simp; exact aD.nil
 | [],xs,n+1,h=>by unfold aD at h; subst h; exact aD.nil
 | d::ds,xs,n+1,h=>by
  unfold aD at h
  obtain ⟨x,r,rfl,p,q⟩:=h
  exact aD.cons p (aD.take n q)
theorem aD.set:∀ {ds:List D} {xs:List V} (n:Nat) {d:D} {v:V},aD K T H S ds xs→Rep K T H S d v→aD K T H S (ds.set n d) (xs.set n v)
 | [],xs,n,d,v,h,g=>by unfold aD at h; subst h; exact aD.nil
 | _::ds,xs,0,d,v,h,g=>by
  unfold aD at h
  obtain ⟨x,r,rfl,p,q⟩:=h
  exact aD.cons g q
 | _::ds,xs,n+1,d,v,h,g=>by
  unfold aD at h
  obtain ⟨x,r,rfl,p,q⟩:=h
  exact aD.cons p (aD.set n q g)
theorem aD.rev:∀ {ds:List D} {xs:List V},aD K T H S ds xs→aD K T H S ds.reverse xs.reverse
 | [],xs,h=>by unfold aD at h; subst h; exact aD.nil
 | d::ds,xs,h=>by
  unfold aD at h
  obtain ⟨x,r,rfl,p,q⟩:=h
  rw [List.reverse_cons,List.reverse_cons]
  exact aD.app (aD.rev q) (aD.cons p aD.nil)
theorem bX.look {f:Str}:∀ {ds:List (Str × D)} {xs:List (Str × V)},bX K T H S ds xs→(∀ d,ds.lookup f=some d→∃ x,xs.lookup f=some x∧Rep K T H S d x)∧(ds.lookup f=none→xs.lookup f=none)
 | [],xs,h=>by unfold bX at h; subst h; exact ⟨fun d e=>by simp at e,fun _=>rfl⟩
 | (g,d)::ds,xs,h=>by
  unfold bX at h
  obtain ⟨x,r,rfl,p,q⟩:=h
  obtain ⟨i1,i2⟩:=bX.look (f:=f) q
  rw [List.lookup_cons,List.lookup_cons]
  cases e:f == g with
  | true=>exact ⟨fun d' z=>⟨x,rfl,by cases z; exact p⟩,fun z=>by cases z⟩
  | false=>exact ⟨i1,i2⟩
end
noncomputable def er (H:Hp) (p:Addr):Hp:=fun a=>if a=p then none else H a
theorem CH {H:Hp} {p a:Addr} {o:HO}:er H p a=some o↔a≠p∧H a=some o:=by
 unfold er
 split<;>simp_all
theorem hV {H:Hp} {p:Addr} {o:HO} (h:H p=none):er (upd H p o) p=H:=by
 funext a
 unfold er
 by_cases e:a=p
 ·rw [if_pos e,e,h]
 ·rw [if_neg e,aM e]
theorem aD.er {K:PySem.W.Frag} {T:Tx} {H:Hp} {S:Addr→Prop} {p:Addr} {ds:List D} {xs:List V} (h:aD K T (er H p) S ds xs):aD K T H S ds xs:=aD.mono (fun _ z=>z) (fun b o _ e=>(CH.mp e).2) ds xs h
theorem aD.disown {K:PySem.W.Frag} {T:Tx} {H:Hp} {S S':Addr→Prop} {p:Addr} {ds:List D} {xs:List V} (hp:S p) (hs:∀ a,S' a→S a) (h:aD K T H S ds xs):aD K T (Z.er H p) S' ds xs:=
 aD.gen (fun a n _=>⟨fun z=>n (hs a z),fun o e=>CH.mpr ⟨fun z=>n (by rw [z]; exact hp),e⟩⟩) ds xs h
theorem aO.own {K:PySem.W.Frag} {H:Hp} {S:Addr→Prop} {p:Addr} (hk:K.lookup p=none):aO K (Z.er H p) H S (fun a=>S a∨a=p):=fun a n q=>by
 have ne:a≠p:=by
  rintro rfl
  rcases q with ⟨o,e⟩|⟨o,e⟩
  ·exact (CH.mp e).1 rfl
  ·rw [hk] at e; cases e
 exact ⟨fun z=>z.elim n ne,fun o e=>(CH.mp e).2⟩
def lU (K:PySem.W.Frag) (T:Tx) (H:Hp) (S:Addr→Prop) (d:D) (o:HO):Prop:=(∃ ds xs,d=.lst ds∧o=.lst xs∧aD K T H S ds xs)∨∃ kvs gs,d=.dct kvs∧o=.dK gs∧bA K T H S kvs gs
theorem lU.gen {K:PySem.W.Frag} {T:Tx} {H H':Hp} {S S':Addr→Prop} {d:D} {o:HO} (mv:aO K H H' S S') (h:lU K T H S d o):lU K T H' S' d o:=by
 rcases h with ⟨ds,xs,e1,e2,r⟩|⟨ds,xs,e1,e2,r⟩
 ·exact .inl ⟨ds,xs,e1,e2,aD.gen mv _ _ r⟩
 ·exact .inr ⟨ds,xs,e1,e2,bA.gen mv _ _ r⟩
theorem lU.lst {K:PySem.W.Frag} {T:Tx} {H:Hp} {S:Addr→Prop} {ds:List D} {o:HO} (h:lU K T H S (.lst ds) o):∃ xs,o=.lst xs∧aD K T H S ds xs:=by
 rcases h with ⟨ds',xs,e1,e2,r⟩|⟨ds',xs,e1,e2,r⟩
 ·cases e1; exact ⟨xs,e2,r⟩
 ·cases e1
theorem lU.dct {K:PySem.W.Frag} {T:Tx} {H:Hp} {S:Addr→Prop} {ds:List (Int × D)} {o:HO} (h:lU K T H S (.dct ds) o):∃ xs,o=.dK xs∧bA K T H S ds xs:=by
 rcases h with ⟨ds',xs,e1,e2,r⟩|⟨ds',xs,e1,e2,r⟩
 ·cases e1
 ·cases e1; exact ⟨xs,e2,r⟩
theorem lU.rep {K:PySem.W.Frag} {T:Tx} {H:Hp} {S S':Addr→Prop} {d:D} {o:HO} {p:Addr} (h:lU K T H S d o) (hp:H p=some o) (hn:¬ S' p) (hs:∀ a,S' a→S a):Rep K T H S' d (.ref p):=by
 rcases h with ⟨ds,xs,rfl,rfl,r⟩|⟨ds,xs,rfl,rfl,r⟩
 ·unfold Rep; exact ⟨p,xs,rfl,hn,hp,aD.gen (aO.mk hs fun _ _ _ e=>e) _ _ r⟩
 ·unfold Rep; exact ⟨p,xs,rfl,hn,hp,bA.gen (aO.mk hs fun _ _ _ e=>e) _ _ r⟩
section
variable (K:PySem.W.Frag)(T:Tx)(H:Hp)(S:Addr→Prop)
def SM (s:Sl) (o:Option (Option V)):Prop:=match s with
 | .un=>True
 | .im d=>∃ v,o=some (some v)∧Rep K T H S d v
 | .mu d=>∃ p ob,o=some (some (.ref p))∧S p∧H p=some ob∧lU K T H S d ob
structure RE (ρ:List Sl) (σ:L2.St):Prop where
 dom:∀ a,S a→∃ o,H a=some o
 len:ρ.length=σ.length
 at_:∀ (i:Nat) s,ρ[i]?=some s→SM K T H S s σ[i]?
def tD (ρ:List Sl) (d:D):TE:=fun σ H Q=>RE K T H S ρ σ∧∀ v H',aG H H'→Rep K T H' S d v→Q v H'
def tAs (ρ:List Sl) (ds:List D):TA:=fun σ H Q=>RE K T H S ρ σ∧∀ vs H',aG H H'→aD K T H' S ds vs→Q vs H'
noncomputable def tTe (ρ:List Sl) (b:Bool):TT:=fun σ H Q=>RE K T H S ρ σ∧∀ H',aG H H'→Q b H'
def tNw (ρ:List Sl) (ds:List D):TE:=fun σ H Q=>RE K T H S ρ σ∧∀ p xs H',aG H H'→H p=none→H' p=some (.lst xs)→aD K T (er H' p) S ds xs→Q (.ref p) H'
end
section
variable {K:PySem.W.Frag}{T:Tx}{H H':Hp}{S S':Addr→Prop}{ρ:List Sl}{σ:L2.St}
theorem SM.same (k:aG H H') {s:Sl} {o:Option (Option V)} (h:SM K T H S s o):SM K T H' S s o:=by
 cases s with
 | un=>trivial
 | im d=>obtain ⟨v,e,r⟩:=h; exact ⟨v,e,r.same k⟩
 | mu ds=>obtain ⟨p,xs,e,n,q,r⟩:=h; exact ⟨p,xs,e,n,k _ _ q,r.gen (aO.mk (fun _ z=>z) fun b o _=>k b o)⟩
theorem RE.same (k:aG H H') (h:RE K T H S ρ σ):RE K T H' S ρ σ:=
 ⟨fun a z=>let ⟨o,e⟩:=h.dom a z; ⟨o,k a o e⟩,h.len,fun i s e=>(h.at_ i s e).same k⟩
theorem RE.nS (h:RE K T H S ρ σ) {a:Addr} (e:H a=none):¬ S a:=fun z=>by
 obtain ⟨o,q⟩:=h.dom a z
 rw [e] at q; cases q
end
theorem PE.mono {X:Cx} {e:Expr} {t t':TE} (h:PE X e t) (m:∀ σ H Q,t' σ H Q→t σ H Q):PE X e t':=fun pins s σ H Q I hw=>h pins s σ H Q I (m σ H Q hw)
theorem PT.mono {X:Cx} {e:Expr} {t t':TT} (h:PT X e t) (m:∀ σ H Q,t' σ H Q→t σ H Q):PT X e t':=fun pins s σ H Q I hw=>h pins s σ H Q I (m σ H Q hw)
theorem PW.mono {X:Cx} {e:Expr} {t t':TT} (h:PW X e t) (m:∀ σ H Q,t' σ H Q→t σ H Q):PW X e t':=fun wh pins s σ H Q I hw=>h wh pins s σ H Q I (m σ H Q hw)
theorem PA.mono {X:Cx} {e:List Expr} {t t':TA} (h:PA X e t) (m:∀ σ H Q,t' σ H Q→t σ H Q):PA X e t':=fun pos pins s σ H Q I hw=>h pos pins s σ H Q I (m σ H Q hw)
theorem aG.upd {H:Hp} {p:Addr} {o:HO} (h:H p=none):aG H (upd H p o):=fun b u e=>by rw [aM (bC e h)]; exact e
end Z
namespace Z
open PySem PySem.Spec PyProof.Rows L2
mutual
noncomputable def py:D→PyData
 | .non=>.none
 | .bl b=>.bool b
 | .int i=>.int i
 | .str x=>.str x
 | .lst xs=>.list (pys xs)
 | .tup xs=>.tuple (pys xs)
 | .obj _ _=>.none
 | .exc _=>.none
 | .dct _=>.none
 | .frz _=>.none
noncomputable def pys:List D→List PyData
 | []=>[]
 | d::r=>py d::pys r
end
theorem dA {n:Nat} (h:∀ d,flat n d=true→(py d).canLay0=true):∀ ds:List D,ds.all (flat n)=true→PyData.canLayAll0 (pys ds)=true
 | [],_=>by simp [pys,PyData.canLayAll0]
 | d::ds,e=>by
  rw [List.all_cons,Bool.and_eq_true] at e
  simp only [pys,PyData.canLayAll0,Bool.and_eq_true]
  exact ⟨h d e.1,dA h ds e.2⟩
theorem canLay:∀ (n:Nat) (d:D),flat n d=true→(py d).canLay0=true
 | n,.non,_=>by simp [py,PyData.canLay0]
 | n,.bl _,_=>by simp [py,PyData.canLay0]
 | n,.int _,_=>by simp [py,PyData.canLay0]
 | n,.str x,h=>by
  have e:okS x=true:=by cases n<;>simpa [flat] using h
  simp only [py,PyData.canLay0]
  exact e
 | 0,.lst _,h=>by simp [flat] at h
 | 0,.tup _,h=>by simp [flat] at h
 | n+1,.lst xs,h=>by
  simp only [py,PyData.canLay0]
  exact dA (canLay n) xs (by simpa [flat] using h)
 | n+1,.tup xs,h=>by
  simp only [py,PyData.canLay0]
  exact dA (canLay n) xs (by simpa [flat] using h)
 | n,.obj _ _,h=>by cases n<;>simp [flat] at h
 | n,.exc _,h=>by cases n<;>simp [flat] at h
 | n,.dct _,h=>by cases n<;>simp [flat] at h
 | n,.frz _,h=>by cases n<;>simp [flat] at h
theorem lS {n:Nat} (h:∀ d,flat n d=true→(py d).depth≤n):∀ ds:List D,ds.all (flat n)=true→PyData.depthAll (pys ds)≤n
 | [],_=>by simp [pys,PyData.depthAll]
 | d::ds,e=>by
  rw [List.all_cons,Bool.and_eq_true] at e
  simp only [pys,PyData.depthAll]
  exact Nat.max_le.mpr ⟨h d e.1,lS h ds e.2⟩
theorem oP:∀ (n:Nat) (d:D),flat n d=true→(py d).depth≤n
 | n,.non,_=>by simp [py,PyData.depth]
 | n,.bl _,_=>by simp [py,PyData.depth]
 | n,.int _,_=>by simp [py,PyData.depth]
 | n,.str x,h=>by simp [py,PyData.depth]
 | 0,.lst _,h=>by simp [flat] at h
 | 0,.tup _,h=>by simp [flat] at h
 | n+1,.lst xs,h=>by
  simp only [py,PyData.depth]
  exact Nat.succ_le_succ (lS (oP n) xs (by simpa [flat] using h))
 | n+1,.tup xs,h=>by
  simp only [py,PyData.depth]
  exact Nat.succ_le_succ (lS (oP n) xs (by simpa [flat] using h))
 | n,.obj _ _,h=>by simp [py,PyData.depth]
 | n,.exc _,h=>by simp [py,PyData.depth]
 | n,.dct _,h=>by simp [py,PyData.depth]
 | n,.frz _,h=>by simp [py,PyData.depth]
theorem CJ {n:Nat} (h:∀ d e,flat n d=true→flat n e=true→deq d e=PyData.eqv (py d) (py e)):∀ ds es:List D,ds.all (flat n)=true→es.all (flat n)=true→iT ds es=PyData.eqvAll (pys ds) (pys es)
 | [],[],_,_=>by simp [iT,pys,PyData.eqvAll]
 | [],_::_,_,_=>by simp [iT,pys,PyData.eqvAll]
 | _::_,[],_,_=>by simp [iT,pys,PyData.eqvAll]
 | d::ds,e::es,a,b=>by
  rw [List.all_cons,Bool.and_eq_true] at a b
  simp only [iT,pys,PyData.eqvAll]
  rw [h d e a.1 b.1,CJ h ds es a.2 b.2]
theorem tW:∀ (n:Nat) (d e:D),flat n d=true→flat n e=true→deq d e=PyData.eqv (py d) (py e)
 | 0,d,e,a,b=>by
  cases d<;>cases e<;>first|(simp [flat] at a; done)|(simp [flat] at b; done)|simp [deq,py,PyData.eqv]
 | n+1,d,e,a,b=>by
  cases d<;>cases e<;>first
   | (simp [flat] at a; done)
   | (simp [flat] at b; done)
   | (simp only [deq,py,PyData.eqv]; exact CJ (tW n) _ _ (by simpa [flat] using a) (by simpa [flat] using b))
   | simp [deq,py,PyData.eqv]
section
variable {X:Cx}{T:Tx}{pins:List (Addr × Obj)}{σ:L2.St}{H:Hp}{s:Shared}{S:Addr→Prop}
theorem lF {n:Nat} (h:∀ d v u,flat n d=true→Rep X.K T H S d v→RelV v u→∃ as,Reads s.heap u (py d) as) :
  ∀ (ds:List D) (xs:List V) (us:List Value),ds.all (flat n)=true→aD X.K T H S ds xs→aS xs us→∃ as,ReadsAll s.heap us (pys ds) as
 | [],xs,us,_,r,v=>by
  unfold aD at r
  subst r
  cases v
  exact ⟨_,.nil⟩
 | d::ds,xs,us,e,r,v=>by
  rw [List.all_cons,Bool.and_eq_true] at e
  unfold aD at r
  obtain ⟨x,q,rfl,r1,r2⟩:=r
  cases v with
  | cons v1 v2 =>
   obtain ⟨as,h1⟩:=h d x _ e.1 r1 v1
   obtain ⟨bs,h2⟩:=lF h ds q _ e.2 r2 v2
   exact ⟨_,.cons h1 h2⟩
theorem dH (I:Inv X pins σ H s):∀ (n:Nat) (d:D) (v:V) (u:Value),flat n d=true→Rep X.K T H S d v→RelV v u→∃ as,Reads s.heap u (py d) as
 | n,.non,v,u,_,r,q=>by
  unfold Rep at r
  subst r
  cases q
  exact ⟨_,.none⟩
 | n,.bl b,v,u,_,r,q=>by
  unfold Rep at r
  subst r
  cases q
  exact ⟨_,.bool b⟩
 | n,.int i,v,u,_,r,q=>by
  unfold Rep at r
  subst r
  obtain ⟨t,rfl⟩:=q
  exact ⟨_,.int i t⟩
 | n,.str x,v,u,_,r,q=>by
  unfold Rep at r
  subst r
  obtain ⟨t,rfl⟩:=q
  exact ⟨_,.str x t⟩
 | 0,.lst _,_,_,h,_,_=>by simp [flat] at h
 | 0,.tup _,_,_,h,_,_=>by simp [flat] at h
 | n+1,.lst ds,v,u,h,r,q=>by
  unfold Rep at r
  obtain ⟨a,xs,rfl,_,e,r⟩:=r
  cases q
  obtain ⟨its,rv,⟨o,k,ho,hc,hd,hs⟩,_⟩:=I.list (SqL.of e)
  obtain ⟨as,ra⟩:=lF (dH I n) ds xs its (by simpa [flat] using h) r rv
  simp only [py]
  exact ⟨_,.list ho hc hs (by simpa using ra)⟩
 | n+1,.tup ds,v,u,h,r,q=>by
  unfold Rep at r
  obtain ⟨a,xs,rfl,_,e,r⟩:=r
  cases q
  obtain ⟨its,rv,⟨o,ho,hc,k,hs⟩,_⟩:=I.tuple e
  obtain ⟨as,ra⟩:=lF (dH I n) ds xs its (by simpa [flat] using h) r rv
  simp only [py]
  exact ⟨_,.tuple ho hc hs (by simpa using ra)⟩
 | n,.obj _ _,_,_,h,_,_=>by cases n<;>simp [flat] at h
 | n,.exc _,_,_,h,_,_=>by cases n<;>simp [flat] at h
 | n,.dct _,_,_,h,_,_=>by cases n<;>simp [flat] at h
 | n,.frz _,_,_,h,_,_=>by cases n<;>simp [flat] at h
end
noncomputable def rD (K:PySem.W.Frag) (T:Tx) (S:Addr→Prop) (o:O2):R2:=fun x y H Q =>
 ∃ a b d,(∀ a,S a→∃ o,H a=some o)∧Rep K T H S a x∧Rep K T H S b y∧op2 o a b=some d∧∀ v H',aG H H'→Rep K T H' S d v→Q v H'
theorem iV:big≤sizeLine:=by rw [sizeLine_eq]; decide
section
variable {X:Cx}{T:Tx}{S:Addr→Prop}
theorem vB {K:PySem.W.Frag} {H:Hp} {p:Addr} {ds:List D} {xs:List V} (dom:∀ a,S a→∃ o,H a=some o) (hp:H p=none) (r:aD K T H S ds xs):Rep K T (upd H p (.lst xs)) S (.lst ds) (.ref p):=by
 unfold Rep
 exact ⟨p,xs,rfl,fun z=>(by obtain ⟨o,e⟩:=dom p z; rw [hp] at e; cases e),aJ,r.same (aG.upd hp)⟩
theorem fX {K:PySem.W.Frag} {H:Hp} {p:Addr} {ds:List D} {xs:List V} (dom:∀ a,S a→∃ o,H a=some o) (hp:H p=none) (r:aD K T H S ds xs):Rep K T (upd H p (.tup xs)) S (.tup ds) (.ref p):=by
 unfold Rep
 exact ⟨p,xs,rfl,fun z=>(by obtain ⟨o,e⟩:=dom p z; rw [hp] at e; cases e),SqT.of aJ,r.same (aG.upd hp)⟩
theorem KZ {prog:Program} {w:World} {A:Around} {E:Value→Shared→Prop} {s:Shared} {t b:Addr} {ws:List Value} {Q:Value→Shared→Prop} (ht:IsTup s.heap t (#[]:Array Value)) (hb:IsTup s.heap b ws.toArray)
  (h1:Q (.ref b) s) (hsz:ws.length≤sizeLine):wpAny (model prog w) A (binaryOp .Add (.ref t) (.ref b)) Q E s:=by
 obtain ⟨⟨cls,dd,data,sl⟩,ho,hc,n,hd⟩:=id ht
 obtain ⟨⟨cls2,dd2,data2,sl2⟩,ho2,hc2,n2,hd2⟩:=id hb
 simp only at hc hd hc2 hd2
 subst hc hd hc2 hd2
 exact concat_meets ⟨_,ho,rfl⟩ ⟨_,ho2,rfl⟩ noFill_tuple_add seq_tuple_add PySem.F.slot_tuple_add PySem.F.entry_tuple_add (PySem.F.args_tuple_add_2 _ _)
   (tuple_addW0 t b #[] ws.toArray n n2 dd dd2 sl sl2 (by simp)) ⟨ho,ho2,h1⟩
theorem QF:OpR X (binaryOp .Add) (rD X.K T S .add):=by
 rintro pins s σ H x y v u Q I rx ry ⟨a,b,d,dom,ra,rb,e,q⟩
 simp only [op2,QK] at e
 split at e
 ·rename_i i j
  unfold Rep at ra rb
  cases e
  exact ZG pins s σ H x y v u Q I rx ry ⟨i,j,ra,rb,q _ H (aG.refl H) (by unfold Rep; rfl)⟩
 ·rename_i i j
  unfold Rep at ra rb
  split at e
  ·rename_i hz
   cases e
   exact yB pins s σ H x y v u Q I rx ry ⟨i,j,ra,rb,Nat.le_trans hz iV,q _ H (aG.refl H) (by unfold Rep; rfl)⟩
  ·cases e
 ·rename_i as bs
  unfold Rep at ra rb
  obtain ⟨l,xs,ex,_,e1,r1⟩:=ra
  obtain ⟨b,ys,ey,_,e2,r2⟩:=rb
  split at e
  ·rename_i hz
   cases e
   refine HS pins s σ H x y v u Q I rx ry ⟨l,b,xs,ys,ex,ey,e1,e2,?_,fun p hp=>q _ _ (aG.upd hp) (vB dom hp (r1.app r2))⟩
   rw [← r1.len,← r2.len]; exact Nat.le_trans hz iV
  ·cases e
 ·rename_i as bs
  have ra':=ra
  have rb':=rb
  unfold Rep at ra rb
  obtain ⟨l,xs,ex,_,e1,r1⟩:=ra
  obtain ⟨b,ys,ey,_,e2,r2⟩:=rb
  split at e
  ·rename_i hz
   cases e
   have hz':xs.length+ys.length≤sizeLine:=by rw [← r1.len,← r2.len]; exact Nat.le_trans hz iV
   by_cases hx:xs=[]
   ·subst hx ex ey
    cases rx
    cases ry
    have ea:as=[]:=List.length_eq_zero_iff.mp r1.len
    subst ea
    obtain ⟨its,v1,p1,_⟩:=I.tuple e1
    obtain ⟨its2,v2,p2,z2⟩:=I.tuple e2
    cases v1
    exact KZ p1 p2 ⟨.ref b,H,I,rfl,q _ H (aG.refl H) (by simpa using rb')⟩ (by rw [← v2.length]; exact z2)
   ·refine PY pins s σ H x y v u Q I rx ry ⟨l,b,xs,ys,ex,ey,e1,e2,hx,hz',fun hy=>?_,fun hy p hp=>q _ _ (aG.upd hp) (fX dom hp (r1.app r2))⟩
    subst hy
    have eb:bs=[]:=List.length_eq_zero_iff.mp r2.len
    subst eb
    rw [← ex]
    exact q _ H (aG.refl H) (by simpa using ra')
  ·cases e
 ·cases e
theorem QA:OpR X (binaryOp .Sub) (rD X.K T S .sub):=by
 rintro pins s σ H x y v u Q I rx ry ⟨a,b,d,dom,ra,rb,e,q⟩
 simp only [op2,aFv] at e
 split at e
 ·rename_i i j
  unfold Rep at ra rb
  cases e
  exact ZA pins s σ H x y v u Q I rx ry ⟨i,j,ra,rb,q _ H (aG.refl H) (by unfold Rep; rfl)⟩
 ·cases e
theorem QC:OpR X (binaryOp .Mult) (rD X.K T S .mul):=by
 rintro pins s σ H x y v u Q I rx ry ⟨a,b,d,dom,ra,rb,e,q⟩
 simp only [op2,aFw] at e
 split at e
 ·rename_i i j
  unfold Rep at ra rb
  split at e
  ·rename_i hz
   cases e
   exact ZD pins s σ H x y v u Q I rx ry ⟨i,j,ra,rb,hz,q _ H (aG.refl H) (by unfold Rep; rfl)⟩
  ·cases e
 ·cases e
theorem HU:OpR X (binaryOp .FloorDiv) (rD X.K T S .fdiv):=by
 rintro pins s σ H x y v u Q I rx ry ⟨a,b,d,dom,ra,rb,e,q⟩
 simp only [op2,oDiv] at e
 split at e
 ·rename_i i j
  unfold Rep at ra rb
  split at e
  ·rename_i hz
   cases e
   exact PX pins s σ H x y v u Q I rx ry ⟨i,j,ra,rb,hz,q _ H (aG.refl H) (by unfold Rep; rfl)⟩
  ·cases e
 ·cases e
theorem QD:OpR X (binaryOp .Mod) (rD X.K T S .mod):=by
 rintro pins s σ H x y v u Q I rx ry ⟨a,b,d,dom,ra,rb,e,q⟩
 simp only [op2,oMod] at e
 split at e
 ·rename_i i j
  unfold Rep at ra rb
  split at e
  ·rename_i hz
   cases e
   exact ZE pins s σ H x y v u Q I rx ry ⟨i,j,ra,rb,hz,q _ H (aG.refl H) (by unfold Rep; rfl)⟩
  ·cases e
 ·cases e
theorem QB:OpR X (binaryOp .Pow) (rD X.K T S .pow):=by
 rintro pins s σ H x y v u Q I rx ry ⟨a,b,d,dom,ra,rb,e,q⟩
 simp only [op2,ZS] at e
 split at e
 ·rename_i i j
  unfold Rep at ra rb
  split at e
  ·rename_i hz
   cases e
   exact ZC pins s σ H x y v u Q I rx ry ⟨i,j,ra,rb,⟨hz.1,by omega,hz.2.2⟩,q _ H (aG.refl H) (by unfold Rep; rfl)⟩
  ·cases e
 ·cases e
theorem QE {op:Operator} {o:O2} (h:PZ op=some o):OpR X (binaryOp op) (rD X.K T S o):=by
 cases op<;>simp only [PZ] at h<;>first|(cases h; done)|(cases h; first|exact QF|exact QA|exact QC|exact HU|exact QD|exact QB)
theorem bO {K:PySem.W.Frag} {H:Hp} {b:Bool}:Rep K T H S (.bl b) (.bl b):=by unfold Rep; rfl
theorem ZI:OpR X (compareOp .Lt) (rD X.K T S .lt):=by
 rintro pins s σ H x y v u Q I rx ry ⟨a,b,d,dom,ra,rb,e,q⟩
 simp only [op2,oLt] at e
 split at e
 ·rename_i i j
  unfold Rep at ra rb
  cases e
  exact aDO pins s σ H x y v u Q I rx ry ⟨i,j,ra,rb,q _ H (aG.refl H) bO⟩
 ·cases e
theorem ZJ:OpR X (compareOp .LtE) (rD X.K T S .le):=by
 rintro pins s σ H x y v u Q I rx ry ⟨a,b,d,dom,ra,rb,e,q⟩
 simp only [op2,oLe] at e
 split at e
 ·rename_i i j
  unfold Rep at ra rb
  cases e
  exact aDP pins s σ H x y v u Q I rx ry ⟨i,j,ra,rb,q _ H (aG.refl H) bO⟩
 ·cases e
theorem ZM:OpR X (compareOp .Gt) (rD X.K T S .gt):=by
 rintro pins s σ H x y v u Q I rx ry ⟨a,b,d,dom,ra,rb,e,q⟩
 simp only [op2,oGt] at e
 split at e
 ·rename_i i j
  unfold Rep at ra rb
  cases e
  exact aDQ pins s σ H x y v u Q I rx ry ⟨i,j,ra,rb,q _ H (aG.refl H) bO⟩
 ·cases e
theorem ZN:OpR X (compareOp .GtE) (rD X.K T S .ge):=by
 rintro pins s σ H x y v u Q I rx ry ⟨a,b,d,dom,ra,rb,e,q⟩
 simp only [op2,oGe] at e
 split at e
 ·rename_i i j
  unfold Rep at ra rb
  cases e
  exact aDR pins s σ H x y v u Q I rx ry ⟨i,j,ra,rb,q _ H (aG.refl H) bO⟩
 ·cases e
theorem TB {A:Around} (hu:A.units+64<cLine) {d e:D} (hd:plain d=true):A.units+min (py d).depth (py e).depth<cLine:=by
 have h1:=oP 8 d hd
 have h2:min (py d).depth (py e).depth≤(py d).depth:=Nat.min_le_left _ _
 omega
theorem ZO (hu:X.A.units+64<cLine):OpR X (compareOp .Eq) (rD X.K T S .eq):=by
 rintro pins s σ H x y v u Q I rx ry ⟨a,b,d,dom,ra,rb,e,q⟩
 simp only [op2,oEq] at e
 split at e
 ·rename_i hp
  rw [Bool.and_eq_true] at hp
  cases e
  obtain ⟨as,h1⟩:=dH I 8 a x v hp.1 ra rx
  obtain ⟨bs,h2⟩:=dH I 8 b y u hp.2 rb ry
  refine SeqAt.compareEq_reads h1 h2 (canLay 8 a hp.1) (canLay 8 b hp.2) (TB hu hp.1) ⟨.bl _,H,I,rfl,?_⟩
  rw [← tW 8 a b hp.1 hp.2]
  exact q _ H (aG.refl H) bO
 ·cases e
theorem ZH (hu:X.A.units+64<cLine):OpR X (compareOp .NotEq) (rD X.K T S .ne):=by
 rintro pins s σ H x y v u Q I rx ry ⟨a,b,d,dom,ra,rb,e,q⟩
 simp only [op2,oNe] at e
 split at e
 ·rename_i hp
  rw [Bool.and_eq_true] at hp
  cases e
  obtain ⟨as,h1⟩:=dH I 8 a x v hp.1 ra rx
  obtain ⟨bs,h2⟩:=dH I 8 b y u hp.2 rb ry
  refine SeqAt.compareNe_reads h1 h2 (canLay 8 a hp.1) (canLay 8 b hp.2) (TB hu hp.1) ⟨.bl _,H,I,rfl,?_⟩
  rw [← tW 8 a b hp.1 hp.2]
  exact q _ H (aG.refl H) bO
 ·cases e
theorem oZ (a:D) (ha:plain a=true):∀ ds:List D,ds.all plain=true→((pys ds).any fun y=>PyData.eqv y (py a))=ds.any fun y=>deq y a
 | [],_=>by simp [pys]
 | d::ds,h=>by
  rw [List.all_cons,Bool.and_eq_true] at h
  simp only [pys,List.any_cons]
  rw [oZ a ha ds h.2,tW 8 d a h.1 ha]
theorem ZL (hu:X.A.units+64<cLine):OpR X (compareOp .In) (rD X.K T S .isin):=by
 rintro pins s σ H x y v u Q I rx ry ⟨a,b,d,dom,ra,rb,e,q⟩
 have go:∀ (ds:List D),plain a=true→ds.all plain=true→X.A.units+1+min (PyData.depthAll (pys ds)) (py a).depth<cLine:=fun ds h1 h2=>by
  have h3:=oP 8 a h1
  have h4:min (PyData.depthAll (pys ds)) (py a).depth≤(py a).depth:=Nat.min_le_right _ _
  omega
 simp only [op2,oIn] at e
 split at e
 ·rename_i ds
  split at e
  ·rename_i hp
   rw [Bool.and_eq_true] at hp
   cases e
   obtain ⟨as,h1⟩:=dH I 8 a x v hp.1 ra rx
   obtain ⟨bs,h2⟩:=dH I 9 (.lst ds) y u (by show ds.all (flat 8)=true; exact hp.2) rb ry
   simp only [py] at h2
   refine SeqAt.in_list_reads h2 h1 (dA (canLay 8) ds hp.2) (canLay 8 a hp.1) (go ds hp.1 hp.2) ⟨.bl _,H,I,rfl,?_⟩
   rw [oZ a hp.1 ds hp.2]
   exact q _ H (aG.refl H) bO
  ·cases e
 ·rename_i ds
  split at e
  ·rename_i hp
   rw [Bool.and_eq_true] at hp
   cases e
   obtain ⟨as,h1⟩:=dH I 8 a x v hp.1 ra rx
   obtain ⟨bs,h2⟩:=dH I 9 (.tup ds) y u (by show ds.all (flat 8)=true; exact hp.2) rb ry
   simp only [py] at h2
   refine SeqAt.in_tuple_reads h2 h1 (dA (canLay 8) ds hp.2) (canLay 8 a hp.1) (go ds hp.1 hp.2) ⟨.bl _,H,I,rfl,?_⟩
   rw [oZ a hp.1 ds hp.2]
   exact q _ H (aG.refl H) bO
  ·cases e
 ·cases e
theorem EE (hu:X.A.units+64<cLine):OpR X (compareOp .NotIn) (rD X.K T S .notin):=by
 rintro pins s σ H x y v u Q I rx ry ⟨a,b,d,dom,ra,rb,e,q⟩
 have go:∀ (ds:List D),plain a=true→ds.all plain=true→X.A.units+1+min (PyData.depthAll (pys ds)) (py a).depth<cLine:=fun ds h1 h2=>by
  have h3:=oP 8 a h1
  have h4:min (PyData.depthAll (pys ds)) (py a).depth≤(py a).depth:=Nat.min_le_right _ _
  omega
 simp only [op2,ID] at e
 split at e
 ·rename_i ds
  split at e
  ·rename_i hp
   rw [Bool.and_eq_true] at hp
   cases e
   obtain ⟨as,h1⟩:=dH I 8 a x v hp.1 ra rx
   obtain ⟨bs,h2⟩:=dH I 9 (.lst ds) y u (by show ds.all (flat 8)=true; exact hp.2) rb ry
   simp only [py] at h2
   refine SeqAt.notIn_list_reads h2 h1 (dA (canLay 8) ds hp.2) (canLay 8 a hp.1) (go ds hp.1 hp.2) ⟨.bl _,H,I,rfl,?_⟩
   rw [oZ a hp.1 ds hp.2]
   exact q _ H (aG.refl H) bO
  ·cases e
 ·rename_i ds
  split at e
  ·rename_i hp
   rw [Bool.and_eq_true] at hp
   cases e
   obtain ⟨as,h1⟩:=dH I 8 a x v hp.1 ra rx
   obtain ⟨bs,h2⟩:=dH I 9 (.tup ds) y u (by show ds.all (flat 8)=true; exact hp.2) rb ry
   simp only [py] at h2
   refine SeqAt.notIn_tuple_reads h2 h1 (dA (canLay 8) ds hp.2) (canLay 8 a hp.1) (go ds hp.1 hp.2) ⟨.bl _,H,I,rfl,?_⟩
   rw [oZ a hp.1 ds hp.2]
   exact q _ H (aG.refl H) bO
  ·cases e
 ·cases e
theorem ZK:OpR X (compareOp .Is) (rD X.K T S .is):=by
 rintro pins s σ H x y v u Q I rx ry ⟨a,b,d,dom,ra,rb,e,q⟩
 have go:∀ k,b=.non→k=decide (x=V.non)→d=.bl k→wpAny (model X.prog X.w) X.A (compareOp .Is v u) (EP X pins σ Q) X.xe s:=fun k hb hk hd=>by
  subst hb hd hk
  unfold Rep at rb
  exact ZF pins s σ H x y v u Q I rx ry ⟨rb,q _ H (aG.refl H) bO⟩
 simp only [op2,oIs,isD] at e
 split at e<;>simp only [Option.map_some,Option.map_none,Option.some.injEq,reduceCtorEq] at e
 all_goals subst e
 all_goals first
  | (unfold Rep at ra; refine go _ rfl ?_ rfl; first|(subst ra; rfl)|(obtain ⟨_,_,rfl,_⟩:=ra; rfl)|(obtain ⟨_,_,_,_,rfl,_⟩:=ra; rfl))
  | (unfold Rep at ra rb
     subst ra rb
     cases rx
     cases ry
     exact is_bool ⟨.bl _,H,I,rfl,q _ H (aG.refl H) bO⟩)
end
end Z
namespace Z
open PySem PySem.Spec PyProof.Rows L2
structure Fly (P:Program) (w:World) (l:List Env) (H:Hp) (s:Shared) (B:Heap) (a:Addr) (cls a0:Value) (H':Hp) (s':Shared):Prop where
 os:s'.os=s.os
 bare:AllBare s'.gens
 un:Un (frs l) [] H H' s.heap s'.heap
 hok:HOk P w H' s'.heap
 fly:Heap.FlyingW B l a cls a0 s'.heap
 new:H' a=none
 old:s.heap.get? a=none
 frf:∀ b ∈ frs l,H' b=none
 cov:∀ b o,s'.heap.get? b=some o→b ∉ frs l→((∃ u,H' b=some u)∨∃ o',s.heap.get? b=some o')→B.get? b=some o
noncomputable def gG (P:Program) (w:World):CXT:=fun l H s E e s'=>∃ a cls a0 B H',e=.ref a∧Fly P w l H s B a cls a0 H' s'∧E cls none H'
theorem VN {P:Program} {w:World}:∀ outer H s e s',gG P w outer H s E0 e s'→False:=fun _ _ _ _ _ ⟨_,_,_,_,_,_,_,h⟩=>h
section
variable {P:Program}{w:World}{l:List Env}{H H':Hp}{s s':Shared}{B:Heap}{a:Addr}{cls a0:Value}
theorem jB {h:Heap} {b:Addr}:∀ {o:HO},bU P w H h b o→∃ u,h.get? b=some u:=by
 intro o x
 cases o with
 | lst xs=>obtain ⟨_,_,_,_,e⟩:=x; exact ⟨_,e⟩
 | tup xs=>obtain ⟨_,_,_,ob,e,_⟩:=x; exact ⟨_,e⟩
 | dK kvs=>obtain ⟨_,_,_,_,o,_,_,e,_⟩:=x; exact ⟨_,e⟩
 | dT kvs=>obtain ⟨_,_,_,_,o,_,_,e,_⟩:=x; exact ⟨_,e⟩
 | set S n=>obtain ⟨o,_,_,_,e,_⟩:=x; exact ⟨_,e⟩
 | ins C dx fs=>obtain ⟨_,_,_,e,_⟩:=x; exact ⟨_,e⟩
 | own y=>obtain ⟨_,e⟩:=x; exact ⟨_,e⟩
 | xd fs=>obtain ⟨_,⟨_,_,_,e,_⟩,_⟩:=x; exact ⟨_,e⟩
 | rng lo hi=>obtain ⟨_,_,_,e⟩:=x; exact ⟨_,e⟩
 | frz ob u=>obtain ⟨e,_⟩:=x; exact ⟨_,e⟩
 | tbl ps=>exact ⟨_,(show h.get? b=some _ from x)⟩
 | met f y=>exact ⟨_,(show h.get? b=some _ from x)⟩
 | ext φ=>obtain ⟨_,⟨_,e⟩,_⟩:=x; exact ⟨_,e⟩
theorem rH {fs:List Addr} {h0 h1 h2:Heap} (u:Un fs [] H H' h0 h1) (keep:∀ b o,h1.get? b=some o→(∃ o',h0.get? b=some o')→b ∉ fs→h2.get? b=some o)
  (slot:∀ b o,h1.get? b=some o→b ∈ fs→∃ sl,h2.get? b=some { o with slots:=sl }):Un fs [] H H' h0 h2 where
 keep b o e n hb hx:=keep b o (u.keep b o e n hb hx) ⟨o,e⟩ hb
 slot b o e n hb hx:=by
  obtain ⟨sl,e1⟩:=u.slot b o e n hb hx
  obtain ⟨sl2,e2⟩:=slot b _ e1 hb
  exact ⟨sl2,e2⟩
 free:=u.free
 there b o e hx:=by
  obtain ⟨o',e1⟩:=u.there b o e hx
  by_cases hb:b ∈ fs
  ·obtain ⟨sl,e2⟩:=slot b _ e1 hb
   exact ⟨_,e2⟩
  ·exact ⟨_,keep b o' e1 ⟨o,e⟩ hb⟩
 tups:=u.tups
 frzs:=u.frzs
 tbls:=u.tbls
theorem oA {h1 h2:Heap} (ok:HOk P w H h1) (keep:∀ b o u,H b=some u→h1.get? b=some o→h2.get? b=some o):HOk P w H h2:=fun b u e =>
 (ok b u e).stay (fun c v hc q=>by
  rcases hc with rfl|hc
  ·exact keep _ v u e q
  ·exact keep _ v _ hc q) (fun _ q=>q) fun _ _ q=>q
theorem Fly.move (F:Fly P w l H s B a cls a0 H' s') {h2:Heap} (fl:Heap.FlyingW B l a cls a0 h2) (up:s'.heap.UpToSlots h2):Fly P w l H s B a cls a0 H' { s' with heap:=h2 }:=by
 have keep:∀ b o,s'.heap.get? b=some o→((∃ u,H' b=some u)∨∃ o',s.heap.get? b=some o')→b ∉ frs l→h2.get? b=some o:=fun b o e t nb=>fl.1 b o (F.cov b o e nb t)
 have tr:∀ b u,H' b=some u→b ∉ frs l:=fun b u e z=>by rw [F.frf b z] at e; cases e
 refine ⟨F.os,F.bare,rH F.un (fun b o e t nb=>keep b o e (.inr t) nb) (fun b o e hb=>?_),oA F.hok fun b o u e q=>keep b o q (.inl ⟨u,e⟩) (tr b u e),fl,F.new,F.old,F.frf,fun b o e nb t=>?_⟩
 ·obtain ⟨_,o2,e2,nf⟩:=F.fly.2.2.1.mem hb
  rw [e] at e2; cases e2
  exact up b o e nf
 ·have:∃ o1,s'.heap.get? b=some o1:=by
   rcases t with ⟨u,e1⟩|⟨o',e1⟩
   ·exact jB (F.hok b u e1)
   ·exact F.un.there b o' e1 (by simp)
  obtain ⟨o1,e1⟩:=this
  have e2:=keep b o1 e1 t nb
  have e:h2.get? b=some o:=e
  rw [e2] at e
  cases e
  exact F.cov b _ e1 nb t
end
section
variable {X:Cx}{pins:List (Addr × Obj)}{σ:L2.St}{H H':Hp}{s s':Shared}{B:Heap}{a:Addr}{cls a0:Value}
theorem Fly.inv (I:Inv X pins σ H s) (F:Fly X.prog X.w X.stack H s B a cls a0 H' s'):Inv X pins σ H' s':=I.call' F.os F.un F.hok F.bare fun b z=>absurd z (by simp)
theorem Fly.up {env:Env} {outer:List Env} (I:Inv X pins σ H s) (hst:X.stack=env::outer) (hou:X.outer=outer) (hex:X.ex=[]) (hfr:env.frame=some X.env.locals) (F:Fly X.prog X.w X.stack H s B a cls a0 H' s') {h2:Heap} (fl:Heap.FlyingW B outer a cls a0 h2) (up:s'.heap.UpToSlots h2) :
  Fly X.prog X.w outer X.H₀ X.s₀ B a cls a0 H' { s' with heap:=h2 }:=by
 have J:=F.inv I
 have fsE:frs X.stack=X.env.locals::frs outer:=by
  rw [hst]; unfold frs; rw [List.filterMap_cons,hfr]
 have olds:∀ b o,X.s₀.heap.get? b=some o→b≠X.env.locals:=fun b o e=>Nat.ne_of_lt (Nat.lt_of_lt_of_le (Heap.lt_size e) I.ok.above)
 have tr:∀ b u,H' b=some u→b ∉ frs X.stack:=fun b u e z=>by rw [F.frf b z] at e; cases e
 have old1:∀ b o,X.s₀.heap.get? b=some o→∃ o',s.heap.get? b=some o':=fun b o e=>I.base.there b o e (by rw [hex]; simp)
 have ns:∀ b,b ∉ frs outer→b≠X.env.locals→b ∉ frs X.stack:=fun b h1 h2 z=>by
  rw [fsE] at z
  rcases List.mem_cons.mp z with z|z
  ·exact h2 z
  ·exact h1 z
 have un0:Un (frs outer) [] X.H₀ H' X.s₀.heap s'.heap:=by
  have:=J.base
  rw [hex] at this
  unfold Cx.fs at this
  rw [hou] at this
  exact this
 refine ⟨J.os,F.bare,rH un0 (fun b o e t nb=>?_) (fun b o e hb=>?_),oA F.hok fun b o u e q=>fl.1 b o (F.cov b o q (tr b u e) (.inl ⟨u,e⟩)),fl,F.new,?_,fun b hb=>F.frf b (by rw [fsE]; exact List.mem_cons_of_mem _ hb),fun b o e nb t=>?_⟩
 ·obtain ⟨o',e'⟩:=t
  exact fl.1 b o (F.cov b o e (ns b nb (olds b o' e')) (.inr (old1 b o' e')))
 ·obtain ⟨_,o2,e2,nf⟩:=F.fly.2.2.1.mem (show b ∈ frs X.stack by rw [fsE]; exact List.mem_cons_of_mem _ hb)
  rw [e] at e2; cases e2
  exact up b o e nf
 ·cases e:X.s₀.heap.get? a with
  | none=>rfl
  | some o =>
   obtain ⟨o',e'⟩:=old1 a o e
   rw [F.old] at e'; cases e'
 ·have e:h2.get? b=some o:=e
  rcases t with ⟨u,e1⟩|⟨o',e1⟩
  ·obtain ⟨o1,q⟩:=jB (F.hok b u e1)
   have c:=F.cov b o1 q (tr b u e1) (.inl ⟨u,e1⟩)
   have:=fl.1 b o1 c
   rw [e] at this; cases this
   exact c
  ·obtain ⟨o1,q⟩:=un0.there b o' e1 (by simp)
   have c:=F.cov b o1 q (ns b nb (olds b o' e1)) (.inr (old1 b o' e1))
   have:=fl.1 b o1 c
   rw [e] at this; cases this
   exact c
end
end Z
namespace Z
open PySem PySem.Spec PyProof.Rows L2
noncomputable def bmV:List Value:=[.type "ValueError",.type "Exception",.type "BaseException",.type "object"]
def eF (K:PySem.W.Frag) (C:Addr) (v:Value):Bool:=match K.lookup C with
 | some ⟨_,_,.cls cd,_⟩=>cd.mro.contains v
 | _=>false
theorem uJ {K:PySem.W.Frag} {C:Addr} (q:PySem.W.excIn K C bmV "ValueError.__new__" = true):∃ nm qn N bs bm hdct sn sub ab col dd k0 k1 k2 k3 k5,
  K.lookup C=some (excClassObj nm qn C N bs bm hdct sn sub ab col dd k0 k1 k2 k3 k5 "ValueError.__new__")∧PySem.W.tailIn K bmV bm=true∧PySem.W.nsOkIn K N=true∧PySem.W.nsIn K N "__init__" = some none∧∀ v,eF K C v=(Value.ref C::bm).contains v:=by
 unfold PySem.W.excIn at q
 split at q
 ·rename_i dd cd sl ho
  split at q
  ·rename_i C' bm k0 k1 k2 k3 n k5 hm hs
   simp only [Bool.and_eq_true,beq_iff_eq,Bool.not_eq_true'] at q
   obtain ⟨⟨⟨⟨⟨rfl,rfl⟩,hdel⟩,ht⟩,hok⟩,hni⟩:=q
   obtain ⟨nm,bs,mro,ns,qn,hd,sn,sub,ab,col,del⟩:=cd
   dsimp only at hm hdel hok hni
   subst hm hdel
   have hsl:sl=#[k0,k1,k2,k3,some (.builtin "ValueError.__new__"),k5]:=by
    obtain ⟨l⟩:=sl
    simp only at hs
    rw [hs]
   subst hsl
   refine ⟨nm,qn,ns,bs,bm,hd,sn,sub,ab,col,dd,k0,k1,k2,k3,k5,ho,ht,hok,hni,fun v=>?_⟩
   unfold eF
   rw [ho]
  ·cases q
 ·cases q
theorem HC {X:Cx} {x m:Str} {j:Nat} {p p' q pos:Pos} {C:Addr} {W:Hp→Prop} (hc:X.calm=true) (hg:Gl X x) (hdb:(x == ("__debug__":Str))=false) (hm:X.mg x=some (.ref C)) (hx:PySem.W.excIn X.K C bmV "ValueError.__new__" = true)
  (hw:∀ pins σ H s h' e vs,Inv X pins σ H s→Heap.MadeExcOf s.heap h' e (.ref C) vs→W H→X.xe (.ref e) { s with heap:=h' }) :
  PS X (.Raise (some (.Call (.Name x p) [.Constant (.str m) j p'] [] q)) none pos) (fun D σ H=>W H):=by
 intro pins s σ H D I hW
 obtain ⟨nm,qn,N,bs,bm,hdct,sn,sub,ab,col,dd,k0,k1,k2,k3,k5,ho,ht,hok,hni,_⟩:=uJ hx
 have T:OwnTail s.heap bmV bm:=PySem.W.tail_of_in I.kIn ht
 have hN:s.heap.Ns N (s.heap.nsMap N):=.of_isNs (PySem.W.isNs_of_in I.kIn hok)
 have hni':(s.heap.nsMap N) "__init__" = none:=PySem.W.nsMap_none_of_in I.kIn hok hni
 have hC:=I.kIn _ _ ho
 refine wpAny_Raise_call_subT (C:=C) (nm:=nm) (q:=qn) (N:=N) (bs:=bs) (bm:=bm) (hdct:=hdct) (sn:=sn) (sub:=sub) (ab:=ab) (col:=col) (dd:=dd) (k0:=k0) (k1:=k1) (k2:=k2) (k3:=k3) (k5:=k5)
  PySem.F.excBase_ValueError (mN:=s.heap.nsMap N) (T.hasType PySem.F.excBase_ValueError.hasBase) (I.ok.hd hc) rfl hni' (eO I hg hm ⟨rfl,?_⟩ hdb)
 exact Calls.evalArgs_plain (Calls.spliced_cons (Calls.Constant_str (k:=j) (pos:=p') (Calls.spliced_nil ⟨rfl,by show 1≤sizeLine; rw [sizeLine_eq]; decide,hC,hN,T,fun h' e hm=>hw pins σ H { s with toks:=s.toks+1 } h' e _ (I.tok _) hm hW⟩)))
section
variable {P:Program}{w:World}{K:PySem.W.Frag}{mg:Str→Option Value}{base:Heap}{N:List Str}{qual:Str}{sc:Scope}{f:Addr}{cd:Value}{A:Around}{outer:List Env}{s:Shared}{H:Hp}{E:XK}
theorem yM {pins:List (Addr × Obj)} {σ:L2.St} {H1:Hp} {s1:Shared} {h':Heap} {e:Addr} {cls:Value} {vs:List Value} (I:Inv (kW (gG P w) P w K mg base N qual sc f cd A outer s H E) pins σ H1 s1) (hm:Heap.MadeExcOf s1.heap h' e cls vs) (hE:E cls none H1) :
  (kW (gG P w) P w K mg base N qual sc f cd A outer s H E).xe (.ref e) { s1 with heap:=h' }:=by
 have hst:=I.stack
 have hfr:∀ b ∈ frs (envOfC qual sc s.heap.objs.size f cd::outer),H1 b=none:=I.stkFree
 have fsE:frs (envOfC qual sc s.heap.objs.size f cd::outer)=s.heap.objs.size::frs outer:=rfl
 have tr:∀ b u,H1 b=some u→b ∉ frs (envOfC qual sc s.heap.objs.size f cd::outer):=fun b u e z=>by rw [hfr b z] at e; cases e
 have ns:∀ b o,s.heap.get? b=some o→b ∉ frs outer→b ∉ frs (envOfC qual sc s.heap.objs.size f cd::outer):=fun b o e h1 z=>by
  rw [fsE] at z
  rcases List.mem_cons.mp z with z|z
  ·exact absurd (Heap.lt_size e) (by rw [z]; exact Nat.lt_irrefl _)
  ·exact h1 z
 have un0:Un (frs outer) [] H H1 s.heap s1.heap:=I.base
 refine wpAny_leaves_madeW (base:=PySem.W.hideAll s1.heap (frs (envOfC qual sc s.heap.objs.size f cd::outer))) (L:=s.heap.objs.size) (outer:=outer) I.ok.frames rfl (fun b o q=>PySem.W.of_hideAll _ q)
  (PySem.W.funFrames_hide hst fun env he b hb=>List.mem_filterMap.mpr ⟨env,he,hb⟩) hm fun h2 t x1 x2 x3 x4=>⟨e,cls,.ref t,PySem.W.hideAll s1.heap (frs (envOfC qual sc s.heap.objs.size f cd::outer)),H1,rfl,?_,hE⟩
 have inB:∀ b o,s1.heap.get? b=some o→b ∉ frs (envOfC qual sc s.heap.objs.size f cd::outer)→(PySem.W.hideAll s1.heap (frs (envOfC qual sc s.heap.objs.size f cd::outer))).get? b=some o:=fun b o q n=>PySem.W.hideAll_get _ q n
 refine ⟨I.os,I.bare,rH un0 (fun b o e t nb=>?_) (fun b o e hb=>?_),oA I.hok fun b o u e q=>x1.1 b o (inB b o q (tr b u e)),x1,?_,?_,fun b hb=>hfr b (by rw [fsE]; exact List.mem_cons_of_mem _ hb),fun b o e nb t=>?_⟩
 ·obtain ⟨o',e'⟩:=t
  exact x1.1 b o (inB b o e (ns b o' e' nb))
 ·obtain ⟨_,o2,e2,nf⟩:=hst.mem (show b ∈ frs (envOfC qual sc s.heap.objs.size f cd::outer) by rw [fsE]; exact List.mem_cons_of_mem _ hb)
  rw [e] at e2; cases e2
  exact x4 b o (hm.keeps b o e) nf
 ·cases q:H1 e with
  | none=>rfl
  | some u =>
   obtain ⟨o,q2⟩:=jB (I.hok e u q)
   rw [hm.new] at q2; cases q2
 ·cases q:s.heap.get? e with
  | none=>rfl
  | some u =>
   obtain ⟨o,q2⟩:=un0.there e u q (by simp)
   rw [hm.new] at q2; cases q2
 ·have e:h2.get? b=some o:=e
  rcases t with ⟨u,e1⟩|⟨o',e1⟩
  ·obtain ⟨o1,q⟩:=jB (I.hok b u e1)
   have c:=inB b o1 q (tr b u e1)
   have:=x1.1 b o1 c
   rw [e] at this; cases this
   exact c
  ·obtain ⟨o1,q⟩:=un0.there b o' e1 (by simp)
   have c:=inB b o1 q (ns b o' e1 nb)
   have:=x1.1 b o1 c
   rw [e] at this; cases this
   exact c
theorem PP {E1:XK} (hE:∀ cls H',E1 cls none H'→E cls none H'):fT (gG P w) (kW (gG P w) P w K mg base N qual sc f cd A outer s H E) E1:=by
 rintro pins σ H1 s1 e s' I ⟨a,cls,a0,B,H',rfl,F,q⟩
 exact wpAny_leaves_onW (L:=s.heap.objs.size) (outer:=outer) I.ok.frames rfl F.fly fun h2 x1 x2=>⟨a,cls,a0,B,H',rfl,Fly.up (env:=envOfC qual sc s.heap.objs.size f cd) I rfl rfl rfl rfl F x1 x2,hE _ _ q⟩
end
end Z
namespace Z
open PySem PySem.Spec PyProof.Rows L2
abbrev fR (X:Cx) (a:Addr):Cx:={ X with A:=X.A.mark (some (.ref a)),calm:=false,xe:=fun _ _=>False }
section
variable {X:Cx}{pins:List (Addr × Obj)}{σ:L2.St}{H H':Hp}{s s':Shared}{B:Heap}{a:Addr}{cls a0:Value}
theorem ZQ (ok:X.Ok) (a:Addr):(fR X a).Ok:=⟨ok.mod,ok.kind,ok.glob,ok.blt,ok.above,ok.inj,ok.has,ok.cab,(fun z=>by cases z),ok.frames,ok.stk,ok.exf,ok.bs,ok.bsz,ok.noex,ok.exfs,ok.funs,ok.frf⟩
theorem mV (I:Inv X pins σ H s) (a:Addr):Inv (fR X a) pins σ H s:=⟨ZQ I.ok a,I.os,I.bare,I.base,I.loc,I.cell,I.free,I.freeC,I.pin,I.hok,I.len⟩
theorem EW (ok:X.Ok) (I:Inv (fR X a) pins σ H s):Inv X pins σ H s:=⟨ok,I.os,I.bare,I.base,I.loc,I.cell,I.free,I.freeC,I.pin,I.hok,I.len⟩
theorem QZ {h':Heap} {t:Nat} {m':Str→Option Value} (I:Inv X pins σ H s) (hn:h'.Ns X.env.locals m') (hs:Heap.SameBut X.env.locals s.heap h'):Inv X pins (List.replicate X.N.length none) H { s with heap:=h',toks:=t }:=by
 obtain ⟨m,hn0,hl⟩:=id I.loc
 obtain ⟨oL,_,_,hoL,_⟩:=id hn0
 have cne:=I.cne
 have old:∀ b o,X.s₀.heap.get? b=some o→b≠X.env.locals:=fun b o e=>Nat.ne_of_lt (Nat.lt_of_lt_of_le (Heap.lt_size e) I.ok.above)
 have tracked:HOk X.prog X.w H h':=fun b ob e=>by
  refine (I.hok b ob e).stay (fun c w' hc q=>(hs.2 c ?_).trans q) (fun _ q=>q) fun _ _ q=>q
  rintro rfl
  rcases hc with hc|hc
  ·rw [← hc,I.free] at e; cases e
  ·rw [I.free] at hc; cases hc
 refine ⟨I.ok,I.os,I.bare,⟨fun b o e n hb hx=>?_,fun b o e n hb hx=>?_,I.base.free,fun b o e hx=>?_,I.base.tups,I.base.frzs,I.base.tbls⟩,⟨m',hn,fun j y v' e1 e2 e3=>?_⟩,fun y c e=>?_,I.free,I.freeC,fun p hp=>?_,tracked,by simp⟩
 ·exact (hs.2 b (old b o e)).trans (I.base.keep b o e n hb hx)
 ·obtain ⟨sl,e1⟩:=I.base.slot b o e n hb hx
  exact ⟨sl,(hs.2 b (old b o e)).trans e1⟩
 ·obtain ⟨o',e1⟩:=I.base.there b o e hx
  exact ⟨o',(hs.2 b (old b o e)).trans e1⟩
 ·rw [List.getElem?_replicate] at e2
  split at e2<;>cases e2
 ·obtain ⟨w',z⟩:=I.cell y c e
  exact ⟨w',z.sameBut hs (cne y c e)⟩
 ·obtain ⟨e,n,ne,nf,d⟩:=I.pin p hp
  exact ⟨(hs.2 p.1 ne).trans e,n,ne,nf,d⟩
def isExc (a C:Addr) (h:Heap):Prop:=∃ o,h.get? a=some o∧o.cls=.ref C
theorem Fly.track {C:Addr} (I:Inv X pins σ H s) (F:Fly X.prog X.w X.stack H s B a (.ref C) a0 H' s'):Inv X pins σ (upd H' a (.ext (isExc a C))) s':=by
 obtain ⟨o,ho,hc⟩:=F.fly.there
 have ne:∀ b u,H' b=some u→b≠a:=fun b u e z=>by rw [z,F.new] at e; cases e
 refine I.call' (H':=upd H' a (.ext (isExc a C))) F.os (ch:=[]) ?_ ?_ F.bare fun b z=>absurd z (by simp)
 ·refine ⟨F.un.keep,F.un.slot,fun b o e n hx=>?_,F.un.there,fun b xs e=>?_,fun b o u e=>?_,fun b ps e=>?_⟩
  ·rw [aM fun z=>by rw [z,F.old] at e; cases e]
   exact F.un.free b o e n hx
  ·have:=F.un.tups b xs e
   rw [aM (ne b _ this)]; exact this
  ·have:=F.un.frzs b o u e
   rw [aM (ne b _ this)]; exact this
  ·obtain ⟨more,this⟩:=F.un.tbls b ps e
   exact ⟨more,by rw [aM (ne b _ this)]; exact this⟩
 ·intro b u e
  by_cases hb:b=a
  ·subst hb
   rw [aJ] at e
   cases e
   exact ⟨⟨o,ho,hc⟩,⟨o,ho⟩,fun h1 h2 ⟨o1,e1,c1⟩ k=>⟨o1,k o1 e1,c1⟩⟩
  ·rw [aM hb] at e
   refine (F.hok b u e).stay (fun _ _ _ q=>q) (fun c q=>?_) fun c xs q=>?_
   ·rw [aM (ne c _ q)]; exact q
   ·rw [aM (ne c _ q)]; exact q
end
section
variable {M:Model}{A:Around}{E:Value→Shared→Prop}{h:Heap}{g:Array GenState}{d:Drawn}{t:Nat}{os:OsState}
variable {nm q:Str}{C N:Addr}{bs bm:List Value}{hdct:Bool}{sn:List Str}{sub:List Value}{ab:Bool}{col:Option Bool}{dd:Option Addr}{k0 k1 k2 k3 k5:Option Value}{newId:String}
variable {nm' q':Str}{L N':Addr}{bs' bm':List Value}{hdct':Bool}{sn':List Str}{sub':List Value}{ab':Bool}{col':Option Bool}{dd':Option Addr}{k0' k1' k2' k3' k5':Option Value}{newId':String}
theorem iR {e:Addr} {oe:Obj} {Q:Bool→Shared→Prop} (hC:h.get? C=some (excClassObj nm q C N bs bm hdct sn sub ab col dd k0 k1 k2 k3 k5 newId)) (hL:h.get? L=some (excClassObj nm' q' L N' bs' bm' hdct' sn' sub' ab' col' dd' k0' k1' k2' k3' k5' newId')) (he:h.get? e=some oe) (hcls:oe.cls=.ref C) (hbase:bm'.contains (.type "BaseException")=true)
  (hs:(Value.ref C::bm).contains (.ref L)=true) (hq:Q true ⟨h,g,d,t,os⟩):wpAny M A (excMatches (.ref e) (.ref L)) Q E ⟨h,g,d,t,os⟩:=by
 have hcB:(Value.ref L::bm').contains (.type "BaseException")=true:=by rw [List.contains_cons,hbase,Bool.or_true]
 have f:=tc_notTuple
 unfold excMatches
 repeat (first|(with_reducible refine wpAny_loadPart_at he ?_; rw [hcls])|with_reducible refine wpAny_loadPart_at hL ?_|(with_reducible refine wpAny_isSubtype_exc hL ?_; rw [hcB])|(with_reducible refine wpAny_isSubtype_exc hC ?_; rw [hs])|wp_step)
 exact hq
end
section
variable {X:Cx}{pins:List (Addr × Obj)}{σ:L2.St}{H H':Hp}{s s':Shared}{B:Heap}{a C L:Addr}{a0:Value}{x:Str}{np hp:Pos}{b₀:Stmt}{suite:List Stmt}{rest:List ExceptHandler}{rt:VK}
noncomputable def lE (rt:VK):Ends:={ nx:=fun _ _=>False,rt:=rt }
theorem GL {D:Ends} {f:Flow} {s1:Shared} (ok:X.Ok) (hD:D.rt=rt) (h:SP (fR X a) pins (lE rt) f s1):SP X pins D f s1:=by
 cases f with
 | next=>obtain ⟨_,_,_,z⟩:=h; exact z.elim
 | brk=>obtain ⟨_,_,_,z⟩:=h; exact z.elim
 | cont=>obtain ⟨_,_,_,z⟩:=h; exact z.elim
 | ret u=>obtain ⟨v,σ',H',I,r,q⟩:=h; exact ⟨v,σ',H',EW ok I,r,by rw [hD]; exact q⟩
theorem aAO {D:Ends} (I:Inv X pins σ H s) (F:Fly X.prog X.w X.stack H s B a (.ref C) a0 H' s') (hst:X.stack=X.env::X.outer) (hf:X.env.frame=some X.env.locals) (hC:PySem.W.excIn X.K C bmV "ValueError.__new__" = true) (hL:PySem.W.excIn X.K L bmV "ValueError.__new__" = true) (mP:eF X.K C (.ref L)=true)
  (hg:Gl X x) (hdb:(x == ("__debug__":Str))=false) (hm:X.mg x=some (.ref L)) (hD:D.rt=rt)
  (hs:PSs (fR X a) (b₀::suite) (fun D' σ' H''=>D'=lE rt∧σ'=σ∧H''=upd H' a (.ext (isExc a C)))) :
  wpAny (model X.prog X.w) X.A (noteFrame (.ref a) X.env) (fun _ s₂=>wpAny (model X.prog X.w) X.A (setFlight (.ref a) none) (fun _ s₃ =>
   wpAny (model X.prog X.w) X.A (handleBy (.ref a) X.env (.ExceptHandler (some (.Name x np)) none (b₀::suite) hp::rest)) (SP X pins D) X.xe s₃) X.xe s₂) X.xe s':=by
 refine wpAny_looks_onW (env:=X.env) (outer:=X.outer) (L:=X.env.locals) (by rw [← hst]; exact I.ok.frames) hf (by rw [← hst]; exact F.fly) fun h₄ held up4=>?_
 refine wpAny_landsW held fun h₅ fl5 up5=>?_
 have F5:=F.move (h2:=h₅) (by rw [hst]; exact fl5) (up4.trans up5)
 have I5:=F5.inv I
 refine wpAny_handleBy_cons (codeAny_handlers_test ?_) (by intro q; cases q)
 refine eO (X:=fR X a) (mV I5 a) hg hm ?_ hdb
 obtain ⟨nm1,qn1,N1,bs1,bm1,hdct1,sn1,sub1,ab1,col1,dd1,c0,c1,c2,c3,c5,ho1,ht1,_,_,mr1⟩:=uJ hC
 obtain ⟨nm2,qn2,N2,bs2,bm2,hdct2,sn2,sub2,ab2,col2,dd2,d0,d1,d2,d3,d5,ho2,ht2,_,_,mr2⟩:=uJ hL
 obtain ⟨oe,hoe,hoc⟩:=fl5.there
 refine iR (I5.kIn _ _ ho1) (I5.kIn _ _ ho2) hoe hoc ((PySem.W.tail_of_in I5.kIn ht2).hasType (by decide +kernel)) (by rw [← mr1]; exact mP) ?_
 refine codeAny_handlers_suite (lands_againW fl5 fun h₆ fl6 up6=>?_)
 have F6:=F5.move (h2:=h₆) (by rw [hst]; exact fl6) up6
 have I6:=F6.track I
 exact wpAny_mono (hs pins _ σ _ (lE rt) (mV I6 a) ⟨rfl,rfl,rfl⟩) (fun f s₇ h₇=>GL I.ok hD h₇) fun _ _ z=>z.elim
theorem KY {D:Ends} {n:Str} {i:Nat} (I:Inv X pins σ H s) (F:Fly X.prog X.w X.stack H s B a (.ref C) a0 H' s') (hst:X.stack=X.env::X.outer) (hf:X.env.frame=some X.env.locals) (hC:PySem.W.excIn X.K C bmV "ValueError.__new__" = true) (hL:PySem.W.excIn X.K L bmV "ValueError.__new__" = true) (mP:eF X.K C (.ref L)=true)
  (hg:Gl X x) (hdb:(x == ("__debug__":Str))=false) (hm:X.mg x=some (.ref L)) (hD:D.rt=rt) (hN:X.N.Nodup) (hi:X.N[i]?=some n) (hlo:X.env.kindOf n=some .local)
  (hs:PSs (fR X a) (b₀::suite) (fun D' σ' H''=>D'=lE rt∧σ'=σ.set i (some (.ref a))∧H''=upd H' a (.ext (isExc a C)))) :
  wpAny (model X.prog X.w) X.A (noteFrame (.ref a) X.env) (fun _ s₂=>wpAny (model X.prog X.w) X.A (setFlight (.ref a) none) (fun _ s₃ =>
   wpAny (model X.prog X.w) X.A (handleBy (.ref a) X.env (.ExceptHandler (some (.Name x np)) (some n) (b₀::suite) hp::rest)) (SP X pins D) X.xe s₃) X.xe s₂) X.xe s':=by
 refine wpAny_looks_onW (env:=X.env) (outer:=X.outer) (L:=X.env.locals) (by rw [← hst]; exact I.ok.frames) hf (by rw [← hst]; exact F.fly) fun h₄ held up4=>?_
 refine wpAny_landsW held fun h₅ fl5 up5=>?_
 have F5:=F.move (h2:=h₅) (by rw [hst]; exact fl5) (up4.trans up5)
 have I5:=F5.inv I
 refine wpAny_handleBy_cons (codeAny_handlers_test ?_) (by intro q; cases q)
 refine eO (X:=fR X a) (mV I5 a) hg hm ?_ hdb
 obtain ⟨nm1,qn1,N1,bs1,bm1,hdct1,sn1,sub1,ab1,col1,dd1,c0,c1,c2,c3,c5,ho1,ht1,_,_,mr1⟩:=uJ hC
 obtain ⟨nm2,qn2,N2,bs2,bm2,hdct2,sn2,sub2,ab2,col2,dd2,d0,d1,d2,d3,d5,ho2,ht2,_,_,mr2⟩:=uJ hL
 obtain ⟨oe,hoe,hoc⟩:=fl5.there
 refine iR (I5.kIn _ _ ho1) (I5.kIn _ _ ho2) hoe hoc ((PySem.W.tail_of_in I5.kIn ht2).hasType (by decide +kernel)) (by rw [← mr1]; exact mP) ?_
 refine codeAny_handlers_suite_as (lands_againW fl5 fun h₆ fl6 up6=>?_)
 have F6:=F5.move (h2:=h₆) (by rw [hst]; exact fl6) up6
 have I6:=F6.track I
 have hcls:(X.env.scope.kind == .class || (X.env.scope.kind == .module&&X.env.locals != X.env.globals))=false:=by rw [I.ok.kind]; rfl
 refine nL (X:=fR X a) (v:=.ref a) (mV I6 a) hN hi (.inl hlo) rfl (fun s₇ I7=>?_) (.inr hlo)
 refine wpAny_mono (hs pins _ _ _ (lE rt) I7 ⟨rfl,rfl,rfl⟩) (fun f s₈ h₈=>?_) fun _ _ z=>z.elim
 have h9:=GL (D:={ D with nx:=fun _ _=>False,bk:=fun _ _=>False,ct:=fun _ _=>False }) I.ok hD h₈
 cases f with
 | next=>obtain ⟨_,_,_,z⟩:=h9; exact z.elim
 | brk=>obtain ⟨_,_,_,z⟩:=h9; exact z.elim
 | cont=>obtain ⟨_,_,_,z⟩:=h9; exact z.elim
 | ret u =>
  obtain ⟨v,σ',H9,I9,r,q⟩:=h9
  obtain ⟨m,hn,_⟩:=id I9.loc
  exact wpAny_nameGoes hlo hn hcls fun h' m' hn' hsb=>⟨v,_,H9,QZ I9 hn' hsb,r,q⟩
end
end Z
namespace Z
open PySem PySem.Spec PyProof.Rows L2
structure RoomM (k:Nat) (A:Around):Prop where
 dp:A.depth+3*k+5<recursionLimit
 un:A.units+16*k+200<cLine
theorem SZ {k:Nat} {A:Around} (r:Room k A):RoomM k A:=⟨r.dp,r.un⟩
theorem RoomM.mono {j k:Nat} {A:Around} (r:RoomM k A) (h:j≤k):RoomM j A:=⟨by have:=r.dp; omega,by have:=r.un; omega⟩
theorem RoomM.under {k:Nat} {A:Around} (r:RoomM (k+1) A) (env:Env):RoomM k (A.deeper env):=
 ⟨by have z:=r.dp; show A.depth+1+3*k+5<_; omega,by have z:=r.un; show A.units+3+16*k+200<_; omega⟩
structure FnM (P:Program) (w:World) (K:PySem.W.Frag) (mg:Str→Option Value) (base:Heap) (k:Nat) (f:Addr) (fd:FuncData) (ps:List Str) (sp:Sp):Prop where
 len:∀ vs H Q,sp vs H Q E0→vs.length=ps.length
 run:∀ (A:Around) (outer:List Env) (s:Shared) (H:Hp) (args:Args) (us:List Value) (vs:List V) (Q:VK),RoomM k A→Env0 P w K mg base A outer s H→BindsTo s fd args (ps.zip us)→aS vs us→sp vs H Q E0 →
  codeAny (model P w) A (.call (.ref f) args) (CR CX0 outer P w H s Q E0) s
noncomputable def cxM (P:Program) (w:World) (K:PySem.W.Frag) (mg:Str→Option Value) (base:Heap) (N:List Str) (qual:Str) (sc:Scope) (f:Addr) (cd:Value) (A:Around) (outer:List Env) (s:Shared) (H:Hp):Cx:=
 {kW CX0 P w K mg base N qual sc f cd A outer s H E0 with calm:=false,xe:=fun _ _=>False }
theorem FM {P:Program} {w:World} {K:PySem.W.Frag} {mg:Str→Option Value} {base:Heap} {A:Around} {outer:List Env} {s:Shared} {H:Hp} (e:Env0 P w K mg base A outer s H):Env0 P w K mg base { A with handled:=none } outer s H:=
 ⟨e.frames,e.mod,e.bs,e.bsz,e.funs,e.frf,e.hok,e.bare⟩
theorem JK {P:Program} {w:World} {K:PySem.W.Frag} {mg:Str→Option Value} {base:Heap} {N:List Str} {qual:Str} {sc:Scope} {f:Addr} {cd:Value} {A:Around} {outer:List Env} {s s1:Shared} {H:Hp} {σ:L2.St}
  (hfr:A.frames=some outer) (I:Inv (kW CX0 P w K mg base N qual sc f cd { A with handled:=none } outer s H E0) [] σ H s1):Inv (cxM P w K mg base N qual sc f cd A outer s H) [] σ H s1:=
 ⟨⟨I.ok.mod,I.ok.kind,I.ok.glob,I.ok.blt,I.ok.above,I.ok.inj,I.ok.has,I.ok.cab,(fun z=>by cases z),Around.frames_deeper hfr,I.ok.stk,I.ok.exf,I.ok.bs,I.ok.bsz,I.ok.noex,I.ok.exfs,I.ok.funs,I.ok.frf⟩,
  I.os,I.bare,I.base,I.loc,I.cell,I.free,I.freeC,I.pin,I.hok,I.len⟩
theorem aAx {P:Program} {w:World} {K:PySem.W.Frag} {mg:Str→Option Value} {base:Heap} {k:Nat} {x qual:Str} {st:Stmt} {f:Addr} {fd:FuncData} {N ps:List Str} {sp:Sp} (F:Fun K x qual st f fd) (fs:FnScope N ps (aC st)) (len:∀ vs H Q,sp vs H Q E0→vs.length=ps.length)
  (hb:∀ (cd:Value) (A:Around) (outer:List Env) (s:Shared) (H:Hp) (vs:List V) (Q:VK),RoomM k (A.deeper (envOfC qual (aC st) s.heap.objs.size f cd))→sp vs H Q E0 →
   ∃ t,PSs (cxM P w K mg base N qual (aC st) f cd A outer s H) (bN st) t∧t { nx:=fun _ H'=>Q .non H',rt:=Q } (L2.start N vs) H):FnM P w K mg base (k+1) f fd ps sp:=by
 obtain ⟨oc,od,kV,doc,pm,an,cdv,ct,osl,rfl,lk,hcd⟩:=F.ex
 refine ⟨len,fun A outer s H args us vs Q hr e0 hbt r hsp=>?_⟩
 have hl:=len _ _ _ hsp
 have kin:K.In s.heap:=e0.mod.kin.keeps fun b o e=>(e0.bs b o e).1
 have lim:s.heap.NoLimit:=e0.mod.nolimit.keeps fun b o e=>(e0.bs b o e).1
 refine codeAny_call_function (by have:=hr.dp; omega) (kin _ _ lk) rfl fs.co fs.gen rfl (PySem.W.codeRec_of kin hcd) (hbt _ _ _ _ ?_)
 refine wpAny_newFunctionEnv_cells fs.kind ?_ fun env he s1 y=>?_
 ·rintro ⟨n,v⟩ hy
  rcases fs.par n (List.of_mem_zip hy).1 with q|q
  ·exact Or.inl q
  ·exact Or.inr ⟨q,PySem.W.cellsFrom_some _ _ _ (Or.inl q)⟩
 subst he
 refine ⟨lim.keeps y.toInCall.keep,codeAny_func ?_⟩
 obtain ⟨t,ht,hq⟩:=hb cdv A outer s H vs Q (hr.under _) hsp
 have I:=JK e0.frames (qB (A:={ A with handled:=none }) fs rfl (FM e0) hl r y)
 refine wpAny_mono (ht [] s1 _ H _ I hq) (fun fl s' hs=>?_) fun e s' z=>z.elim
 cases fl with
 | ret u =>
  obtain ⟨v,σ',H',J,rv,q⟩:=hs
  exact ⟨v,H',J.os,J.bare,J.base,J.hok,rv,q⟩
 | next =>
  obtain ⟨σ',H',J,q⟩:=hs
  exact ⟨.non,H',J.os,J.bare,J.base,J.hok,rfl,q⟩
 | brk=>obtain ⟨_,_,_,q⟩:=hs; exact q.elim
 | cont=>obtain ⟨_,_,_,q⟩:=hs; exact q.elim
theorem HK {X:Cx} {k:Nat} {f:Addr} {fd:FuncData} {ps:List Str} {sp:Sp} {x:Str} {p pos:Pos} {e:Expr} {es:List Expr} {t:TA} (F:FnM X.prog X.w X.K X.mg X.base k f fd ps sp) (hr:RoomM k X.A) (hg:Gl X x) (hm:X.mg x=some (.ref f)) (hk:PySem.W.keepIn X.K (.ref f)=true) (hb:Binds X.K fd ps [])
  (ha:PA X (e::es) t) (hdb:(x == ("__debug__":Str))=false) (he:starEach (e::es) X.env=(false,eval e X.env)::starEach es X.env) (hpl:(backTo pos (starEach es X.env)).any (·.1)=false) :
  PE X (.Call (.Name x p) (e::es) [] pos) (uU sp [] E0 t):=by
 intro pins s σ H Q I h
 refine wpAny_Call_Name_kw (eO I hg hm ?_ hdb)
 refine PySem.W.callWith_K (h₀:=X.base) I.ok.mod.kin hk (thn (ha pos pins s σ H _ I h) fun us s1 hh=>?_) he hpl
 obtain ⟨vs,H1,I1,r,q⟩:=hh
 refine ⟨I1.kIn,?_⟩
 rw [List.append_nil] at q
 have hl:(us++[]).length=ps.length:=by rw [List.append_nil,← r.length]; exact F.len _ _ _ q
 have hbd:=hb s1 us I1.kIn hl
 rw [List.append_nil] at hbd
 refine wpAny_call (codeAny_mono (F.run X.A X.stack s1 H1 ⟨us,[]⟩ us vs Q hr I1.env0 hbd r q) fun rr s2 hq=>?_)
 cases rr with
 | error e=>exact hq.elim
 | ok fl =>
  cases fl with
  | ret u=>exact I1.after hq
  | next=>exact hq.elim
  | brk=>exact hq.elim
  | cont=>exact hq.elim
end Z
namespace Z
open PySem PySem.Spec PyProof.Rows L2
structure XcK (K:PySem.W.Frag) (C:Addr):Prop where
 ga:PySem.W.findIn K (.ref C) "__getattribute__" = some (some (.builtin "BaseException.__getattribute__"))
 gn:PySem.W.findIn K (.ref C) "__getattr__" = some none
 ha:PySem.W.findIn K (.ref C) "__class__" = some (some (.builtin "object.__class__"))
 hn:PySem.W.specialIn K (.builtin "object.__class__") "__get__" = some (some (.builtin "getset_descriptor.__get__"))
 tk:PySem.W.takesIn K (.builtin "object.__class__")=some true
 hm:PySem.W.mroIn K C (.type "object")=some true
 hb:PySem.W.mroIn K C (.type "BaseException")=some true
theorem XcK.cl {K:PySem.W.Frag} {C:Addr} (F:XcK K C):(PySem.W.clsIn K C).isSome=true:=by
 have h:=F.hm
 unfold PySem.W.mroIn at h
 obtain ⟨cd,h1,_⟩:=Option.bind_eq_some_iff.mp h
 rw [h1]; rfl
section
open PySem.W PySem.Builtin PySem.Builtin.ObjectAttr PySem.Builtin.Getset_descriptor
variable {K:PySem.W.Frag}{x C:Addr}
theorem oK {M:Model} {h:Heap} (p:isExc x C h):Looks M h (typeOf (.ref x)) (.ref C):=by
 obtain ⟨o,e,c⟩:=p
 exact c ▸ (Looks.ld e).andThen .now
theorem KW {h:Heap} (k:K.In h) (z:(clsIn K C).isSome=true):(∃ c d cd sl,h.get? C=some ⟨c,d,.cls cd,sl⟩)∧∀ M:Model,Looks M h (isType (.ref C)) true:=by
 unfold clsIn at z
 split at z
 ·rename_i c d cd sl ho
  refine ⟨⟨c,d,cd,sl,k _ _ ho⟩,fun M A Q E s kk q=>?_⟩
  unfold isType loadHead
  exact wpAny_bind (wpAny_loadPart (kk _ _ (k _ _ ho)) (wpAny_pure q))
 ·cases z
theorem RP {prog:Program} {w:World} {A:Around} {R:Result→Shared→Prop} {s:Shared} {tp:Value} (F:XcK K C) (k:K.In s.heap) (p:isExc x C s.heap) (q:R (.ok (.ret (.ref C))) s) :
  codeAny (model prog w) A (.call (.builtin "getset_descriptor.__get__") ⟨[.builtin "object.__class__",.ref x,tp],[]⟩) R s:=by
 obtain ⟨hp,gs,dr,tks,oss⟩:=s
 have lt:Looks (model prog w) hp (typeOf (.ref x)) (.ref C):=oK p
 have lm:=looks_mroIn (M:=model prog w) k F.hm
 refine codeAny_call_builtin KF.slot_gs.plain KF.entry_gs (KF.slot_gs.check _ _ _ _ _ _ _ _ KF.type_class (KF.args_gs _ _ _) ?_)
 unfold Builtin.«getset_descriptor.__get__»
 unfold descrGet
 rw [dga_obj]
 refine wpAny_bind (wpAny_pure ?_)
 unfold descrGetter
 unfold descrCheckInstance descrNameAndClass
 unfold isInstance
 simp only [KF.owner_class]
 repeat lk
 refine ⟨Code.quiet_builtin _ (by decide +kernel),?_⟩
 refine codeAny_builtin KF.entry_class ?_
 unfold Builtin.«object.__class__»
 unfold shownTypeOf
 repeat lk
 exact q
theorem FK {prog:Program} {w:World} {A:Around} {E:Value→Shared→Prop} {s:Shared} {tk:Tok} {Q:Fin→Shared→Prop} (F:XcK K C) (k:K.In s.heap) (p:isExc x C s.heap) (q:Q (.done (.ret (.ref C))) s) :
  wpAny (model prog w) A (Builtin.«object.__getattribute__» ⟨[.ref x,.str "__class__" tk],[]⟩) Q E s:=by
 obtain ⟨hp,gs,dr,tks,oss⟩:=s
 have lt:Looks (model prog w) hp (typeOf (.ref x)) (.ref C):=oK p
 have lf:Looks (model prog w) hp (find (.ref x) (.ref C) "__class__") (.bind (.builtin "getset_descriptor.__get__") (.builtin "object.__class__")):=
  (looks_findIn k F.ha).andThen ((looks_specialIn k F.hn).andThen ((show Looks (model prog w) hp (dataDescriptor? (some (.builtin "object.__class__")) (some (.builtin "getset_descriptor.__get__"))) (some (.builtin "getset_descriptor.__get__",.builtin "object.__class__")) from (looks_takesIn k F.tk).andThen .now).andThen (Looks.tag .now)))
 unfold Builtin.«object.__getattribute__»
 refine wpAny_bind (wpAny_of_eq (a:=(Value.ref x,[Value.str "__class__" tk])) (by rfl) ?_)
 refine wpAny_bind (wpAny_pure (wpAny_bind (lt.at (wpAny_bind (lf.at ?_)))))
 show wpAny _ _ (holding [Value.builtin "object.__class__"] (call (.builtin "getset_descriptor.__get__") [.builtin "object.__class__",.ref x,.ref C]) >>= ret) _ _ _
 exact wpAny_bind (wpAny_holding (wpAny_mono (wpAny_call (RP (R:=fun r s'=>match r with | .ok (.ret v)=>Q (.done (.ret v)) s' | .ok _=>False | .error e=>E e s') F k p (tp:=.ref C) q)) (fun v s' z=>wpAny_pure z) fun _ _ z=>z))
theorem FL {M:Model} {A:Around} {E:Value→Shared→Prop} {s:Shared} {v:Value} {Q:Unit→Shared→Prop} (F:XcK K C) (k:K.In s.heap) (p:isExc x C s.heap) (q:Q () s) :
  wpAny M A (checkBuiltinCall "BaseException.__getattribute__" ⟨[.ref x,v],[]⟩) Q E s:=by
 obtain ⟨hp,gs,dr,tks,oss⟩:=s
 have lt:Looks M hp (typeOf (.ref x)) (.ref C):=oK p
 have lb:=looks_mroIn (M:=M) k F.hb
 have hk:builtinKind "BaseException.__getattribute__" = some .slot:=by decide +kernel
 have hsp:splitId "BaseException.__getattribute__" = some ("BaseException","__getattribute__"):=by decide +kernel
 have har:=PySem.F.args_bexc_ga (.ref x) v
 simp only [checkBuiltinCall,hk,hsp]
 refine wpAny_bind ?_
 unfold isInstance
 refine wpAny_bind (lt.at (lb.at ?_))
 simp only [Bool.not_true,Bool.false_eq_true,if_false]
 repeat wp_step
 exact q
theorem RQ {prog:Program} {w:World} {A:Around} {E:Value→Shared→Prop} {Q:Option Value→Shared→Prop} {s:Shared} (F:XcK K C) (k:K.In s.heap) (p:isExc x C s.heap) (q:Q (some (.ref C)) { s with toks:=s.toks+1 }) :
  wpAny (model prog w) A (getAttr? (.ref x) "__class__") Q E s:=by
 obtain ⟨hp,gs,dr,tks,oss⟩:=s
 have lt:Looks (model prog w) hp (typeOf (.ref x)) (.ref C):=oK p
 have lg:=looks_findIn (M:=model prog w) k F.ga
 have lh:=looks_findIn (M:=model prog w) k F.gn
 have lb:=looks_mroIn (M:=model prog w) k F.hb
 have hx2:(Value.builtin "BaseException.__getattribute__" == Value.builtin "object.__getattribute__")=false:=by decide +kernel
 have hk:builtinKind "BaseException.__getattribute__" = some .slot:=by decide +kernel
 have hsp:splitId "BaseException.__getattribute__" = some ("BaseException","__getattribute__"):=by decide +kernel
 unfold getAttr? getAttrBy? getAttrBy
 refine wpAny_bind (wpAny_mkText (wpAny_bind (wpAny_attempt (wpAny_holding (wpAny_bind (lt.at (wpAny_bind (lg.at ?_))))))))
 dsimp only
 rw [hx2,Bool.and_false,if_neg (by decide)]
 unfold getAttrByItsOwn hookBefore
 refine wpAny_bind ?_
 rw [if_pos (show onTheHeap (Value.ref C)=true from rfl)]
 refine lh.at ?_
 refine wpAny_bind (wpAny_attempt (wpAny_holding ?_))
 unfold callGetattribute
 rw [Bool.false_and,if_neg (by decide)]
 unfold boundAndCalled
 refine wpAny_bind (wpAny_of_eq (PySem.F.attrBase_ValueError.ga.bind (.ref x)) ?_)
 refine wpAny_call (codeAny_call_builtin PySem.F.attrBase_ValueError.ga.plain PySem.F.entry_bexc_ga ?_)
 refine FL F k p ?_
 refine wpAny_mono (FK (Q:=fun fin s'=>fin=.done (.ret (.ref C))∧s'=⟨hp,gs,dr,tks+1,oss⟩) (E:=fun _ _=>False) F k p ⟨rfl,rfl⟩) (fun fin s' z=>?_) fun _ _ z=>z.elim
 obtain ⟨rfl,rfl⟩:=z
 exact handed_on rfl (wpAny_pure q)
theorem JA (F:XcK K C):KitX K (.ref x) (.ref C) (isExc x C) where
 ty:=fun _ _ _ p=>oK p
 it:=fun M _ k _=>(KW k F.cl).2 M
 ne:=fun h tp dd its n sl k htp=>by
  obtain ⟨⟨c,d,cd,sl',e⟩,_⟩:=KW k F.cl
  refine Bool.eq_false_iff.mpr fun q=>?_
  have ee:C=tp:=Value.ref.inj (beq_iff_eq.mp q)
  rw [ee,htp] at e
  cases e
 ca:=fun k p q=>RQ F k p q
end
end Z
namespace Z
open PySem
end Z
namespace Z
open PySem PySem.Spec PyProof.Rows L2
def qW (K:PySem.W.Frag) (T:Tx) (S:Addr→Prop) (H H':Hp) (d:D) (v:V):Prop:=∀ ds,d=.lst ds→∃ p xs,v=.ref p∧H p=none∧H' p=some (.lst xs)∧aD K T (er H' p) S ds xs
def spD (K:PySem.W.Frag) (T:Tx) (n:Nat) (f:List D→Option Rs) (fr:Bool):Sp:=fun vs H Q E=>vs.length=n∧∃ (S:Addr→Prop) (ds:List D),(∀ a,S a→∃ o,H a=some o)∧aD K T H S ds vs ∧
 ((∃ d,f ds=some (.ok d)∧∀ v H',aG H H'→Rep K T H' S d v→(fr=true→qW K T S H H' d v)→Q v H') ∨
  (∃ c C,f ds=some (.er c)∧T.xc c=some C∧∀ H',aG H H'→E (.ref C) none H'))
def XX (K:PySem.W.Frag) (T:Tx) (C:Addr) (n:Nat) (g:List D→Option Rs):Sp:=fun vs H Q _=>vs.length=n∧∃ (p dx:Addr) (ws:List V) (S:Addr→Prop) (ds:List D) (d:D),vs=.ref p::ws∧H p=some (.ins C dx [])∧S p∧(∀ a,S a→∃ o,H a=some o) ∧
 aD K T H S ds ws∧g ds=some (.ok d)∧∀ H',(∀ b o,b≠p→H b=some o→H' b=some o)→(∀ S':Addr→Prop,(∀ a,S' a→S a∧a≠p)→Rep K T H' S' d (.ref p))→Q .non H'
def fK:List Str:=["len","int","list","tuple","max","min","str","sorted","any","range","reversed","enumerate","isinstance","bool","ValueError"]
def spW (C:Addr) (x:Str):Sp:=fun vs H Q _=>∃ a,vs=[.ref a]∧H a=some (.ext (isExc a C))∧∀ H',aG H H'→Q (.str x) H'
structure GOK (CX:CXT) (X:Cx) (c:CC) (G:GS) (T:Tx) (lv:Nat):Prop where
 fn:∀ x,c.fns.contains x=true→∃ f fd ps,X.mg x=some (.ref f)∧PySem.W.keepIn X.K (.ref f)=true∧Binds X.K fd ps []∧(∀ ds r,G.fn x ds=some r→ds.length=ps.length) ∧
  FnOk X.prog X.w X.K X.mg X.base CX lv f fd ps (spD X.K T ps.length (G.fn x) (G.ff x))
 me:∀ cn C m ds r,T.cl cn=some C→G.me cn m ds=some r→∃ f fd ps,Meth X.K C m f∧Binds X.K fd ps []∧(∀ ds r,G.me cn m ds=some r→ds.length=ps.length) ∧
  FnOk X.prog X.w X.K X.mg X.base CX lv f fd ps (spD X.K T ps.length (G.me cn m) (G.mf cn m))
 cls:∀ cn C,T.cl cn=some C→Cls X.K C
 fld:∀ cn C f,T.cl cn=some C→(G.fl cn).contains f=true→dZ X.K C f
 mo:∀ x,c.cls.contains x=true→∀ ds d,G.mo x ds=some (.ok d)→∃ C f fd ps j,j+1≤lv∧X.mg x=some (.ref C)∧Mk X.K C f∧Binds X.K fd ps []∧ds.length+1=ps.length ∧
  FnOk X.prog X.w X.K X.mg X.base CX j f fd ps (XX X.K T C ps.length (G.mo x))
 cst:∀ x d,G.cst x=some d→c.csts.contains x=true→∃ u v,X.mg x=some u∧RelV v u∧∀ (H:Hp) (S:Addr→Prop),(∀ a o,X.K.lookup a=some o→H a=none)→(∀ a,S a→∃ o,H a=some o)→Rep X.K T H S d v
 bi:∀ x,fK.contains x=true→c.fns.contains x=false→c.cls.contains x=false→X.mg x=none
 xcl:∀ x C,T.xc x=some C→X.mg x=some (.ref C)
 frs:∀ x,c.fresh.contains x=true→G.ff x=true∧∀ cn,G.mf cn x=true
 cx0:∀ outer H s e s',CX outer H s E0 e s'→False
 cxf:∀ outer H s E e s',CX outer H s E e s'→gG X.prog X.w outer H s E e s'
 xns:∀ k,G.xn k=true→∃ C,T.xc k=some C
 xk:∀ k C,T.xc k=some C→PySem.W.excIn X.K C bmV "ValueError.__new__" = true
 sub:∀ k k' C C',T.xc k=some C→T.xc k'=some C'→G.sub k k'=true→eF X.K C (.ref C')=true
 wd:∀ f k x C,T.xc k=some C→G.wd f k=some x→∃ fa fd ps j,j≤lv∧X.mg f=some (.ref fa)∧PySem.W.keepIn X.K (.ref fa)=true∧Binds X.K fd ps []∧FnM X.prog X.w X.K X.mg X.base j fa fd ps (spW C x)
def uI (k:Option NameKind) (k':Option NameKind):Prop:=match k with
 | some .local=>k'=some .local
 | some .cell=>k'=some .cell
 | some .free=>k'=some .free∨k'=some .cell
 | some .globalImplicit=>k'=some .globalImplicit
 | _=>True
structure XC (CX:CXT) (X:Cx) (c:CC) (G:GS) (T:Tx) (lv:Nat):Prop where
 N:X.N=c.N
 nd:c.N.Nodup
 kd:∀ x,uI (c.sc.names.lookup x) (X.env.kindOf x)
 own:∀ x,c.sc.names.lookup x=some .cell→X.fn x=true
 dbg:∀ x ∈ c.N,(x == ("__debug__":Str))=false∧(x == ("__classdict__":Str))=false
 gdb:aX c "__debug__" = false
 calm:X.calm=true
 room:Room lv X.A
 go:GOK CX X c G T lv
section
variable {CX:CXT}{X:Cx}{c:CC}{G:GS}{T:Tx}{lv:Nat}
theorem XC.units (h:XC CX X c G T lv):X.A.units+64<cLine:=h.room.units
theorem XC.glob (h:XC CX X c G T lv) {x:Str} (e:aX c x=true):Gl X x:=by
 have k:=h.kd x
 have e':c.sc.names.lookup x=some .globalImplicit:=by
  unfold aX at e
  exact beq_iff_eq.mp e
 rw [e'] at k
 exact k
theorem XC.gne (h:XC CX X c G T lv) {x:Str} (e:aX c x=true):(x == ("__debug__":Str))=false:=by
 cases q:x == ("__debug__":Str) with
 | false=>rfl
 | true =>
  have q':x = "__debug__":=beq_iff_eq.mp q
  subst q'
  rw [h.gdb] at e; cases e
theorem hG {α:Type} [DecidableEq α] [BEq α] [LawfulBEq α]:∀ {l:List α} {x:α} {i:Nat},l.idxOf? x=some i→l[i]?=some x:=by
 intro l x i h
 unfold List.idxOf? at h
 rw [List.findIdx?_eq_some_iff_getElem] at h
 obtain ⟨h1,h2,_⟩:=h
 rw [List.getElem?_eq_getElem h1]
 exact congrArg some (beq_iff_eq.mp h2)
theorem rM {x:Str} {i:Nat} (e:bT c x=some i):c.N[i]?=some x∧(c.sc.names.lookup x=some .local∨c.sc.names.lookup x=some .cell∨c.sc.names.lookup x=some .free):=by
 unfold bT at e
 split at e
 ·rename_i h; exact ⟨hG e,.inl h⟩
 ·rename_i h; exact ⟨hG e,.inr (.inl h)⟩
 ·rename_i h; exact ⟨hG e,.inr (.inr h)⟩
 ·cases e
theorem XC.vis (h:XC CX X c G T lv) {x:Str} (e:c.sc.names.lookup x=some .local∨c.sc.names.lookup x=some .cell∨c.sc.names.lookup x=some .free):Vis X.env.scope x:=by
 have k:=h.kd x
 rcases e with e|e|e
 ·rw [e] at k; exact .inl k
 ·rw [e] at k; exact .inr (.inl k)
 ·rw [e] at k
  rcases k with k|k
  ·exact .inr (.inr k)
  ·exact .inr (.inl k)
theorem gL {x:Str} {p:Pos} {i:Nat} (e:fZ c (.Name x p)=some i):c.N[i]?=some x∧(c.sc.names.lookup x=some .local∨c.sc.names.lookup x=some .cell):=by
 simp only [fZ] at e
 split at e
 ·rename_i h; exact ⟨hG e,.inl h⟩
 ·rename_i h; exact ⟨hG e,.inr h⟩
 ·cases e
theorem XC.loc (h:XC CX X c G T lv) {x:Str} (e:c.sc.names.lookup x=some .local∨c.sc.names.lookup x=some .cell):Loc X.env.scope x∧(X.fn x=true∨X.env.scope.names.lookup x=some .local):=by
 have k:=h.kd x
 rcases e with e|e
 ·rw [e] at k; exact ⟨.inl k,.inr k⟩
 ·have o:=h.own x e
  rw [e] at k; exact ⟨.inr k,.inl o⟩
theorem VI {pins:List (Addr × Obj)} {σ:L2.St} {H:Hp} {s:Shared} (I:Inv X pins σ H s):∀ a o,X.K.lookup a=some o→H a=none:=fun a o e=>(I.bs a o (I.mod.kin a o e)).2
def gD (K:PySem.W.Frag) (T:Tx) (S:Addr→Prop) (is:List Nat) (ρ ρ1:List Sl) (d:D):TG:=fun v σ H Q=>RE K T H S ρ σ∧Rep K T H S d v∧∀ σ',RE K T H S ρ1 σ'→(∀ j,j ∉ is→σ'[j]?=σ[j]?)→Q σ' H
theorem RE.set {K:PySem.W.Frag} {H:Hp} {S:Addr→Prop} {ρ:List Sl} {σ:L2.St} {i:Nat} {d:D} {v:V} (re:RE K T H S ρ σ) (r:Rep K T H S d v):RE K T H S (ρ.set i (.im d)) (σ.set i (some v)):=by
 refine ⟨re.dom,by simp [re.len],fun j s e=>?_⟩
 by_cases hj:j=i
 ·subst hj
  have hl:j<ρ.length:=by
   have:=(List.getElem?_eq_some_iff.mp e).1
   simpa using this
  rw [List.getElem?_set_self hl] at e
  cases e
  rw [List.getElem?_set_self (by rw [← re.len]; exact hl)]
  exact ⟨v,rfl,r⟩
 ·rw [List.getElem?_set_ne (Ne.symm hj)] at e ⊢
  exact re.at_ j s e
noncomputable def gDs (K:PySem.W.Frag) (T:Tx) (S:Addr→Prop) (is:List Nat) (ρ ρ1:List Sl) (ds:List D):TGs:=fun vs σ H Q=>RE K T H S ρ σ∧aD K T H S ds vs∧∀ σ',RE K T H S ρ1 σ'→(∀ j,j ∉ is→σ'[j]?=σ[j]?)→Q σ' H
theorem eK (env:Env):∀ {es:List Expr} {is:List Nat},eZ c es=some is→(assignEach es env).map (·.2)=es.map (fun e=>assign e env)∧(assignEach es env).length=es.length∧(assignEach es env).findIdx? (·.1)=none:=by
 intro es
 induction es with
 | nil=>intro is _; exact ⟨rfl,rfl,rfl⟩
 | cons e es ih =>
  intro is h
  simp only [eZ,Option.bind_eq_bind,Option.bind_eq_some_iff] at h
  obtain ⟨i,h1,r,h2,_⟩:=h
  obtain ⟨a1,a2,a3⟩:=ih h2
  cases e<;>simp only [fZ,reduceCtorEq] at h1
  rename_i x p
  refine ⟨?_,?_,?_⟩
  ·show assign (.Name x p) env::(assignEach es env).map (·.2)=_
   rw [a1]; rfl
  ·show (assignEach es env).length+1=_
   rw [a2]; rfl
  ·show List.findIdx? (·.1) ((false,assign (.Name x p) env)::assignEach es env)=none
   rw [List.findIdx?_cons,a3]; rfl
theorem aDK (h:XC CX X c G T lv) {S:Addr→Prop}:∀ {es:List Expr} {is:List Nat} {ds:List D} {ρ ρ1:List Sl},eZ c es=some is→bL is ds ρ=some ρ1→PGs X es (gDs X.K T S is ρ ρ1 ds):=by
 intro es
 induction es with
 | nil =>
  intro is ds ρ ρ1 h1 h2
  simp only [eZ] at h1
  cases h1
  cases ds with
  | nil =>
   simp only [bL] at h2
   cases h2
   intro pins s σ H vs us Q I r ⟨re,rl,q⟩
   unfold aD at rl
   exact PK pins s σ H vs us Q I r ⟨rl,q σ re fun _ _=>rfl⟩
  | cons d ds=>simp [bL] at h2
 | cons e es ih =>
  intro is ds ρ ρ1 h1 h2
  simp only [eZ,Option.bind_eq_bind,Option.bind_eq_some_iff] at h1
  obtain ⟨i,h1,r,h3,h4⟩:=h1
  cases h4
  cases ds with
  | nil=>simp [bL] at h2
  | cons d ds =>
   simp only [bL] at h2
   have hs:=(eK (c:=c) X.env (es:=e::es) (is:=i::r) (by simp [eZ,h1,h3])).1
   have hs2:=(eK (c:=c) X.env h3).1
   cases e<;>simp only [fZ,reduceCtorEq] at h1
   rename_i x p
   have h1':fZ c (.Name x p)=some i:=h1
   obtain ⟨hN,hk⟩:=gL h1'
   obtain ⟨hl,hf⟩:=h.loc hk
   have p1:PG X (.Name x p) (qE i):=zZ (by rw [h.N]; exact h.nd) (by rw [h.N]; exact hN) hl hf
   have p2:=HF p1 (ih h3 h2) (by rw [hs,hs2]; rfl)
   intro pins s σ H vs us Q I rv ⟨re,rl,q⟩
   unfold aD at rl
   obtain ⟨y,w,e1,ry,rw'⟩:=rl
   refine p2 pins s σ H vs us Q I rv ⟨y,w,e1,?_⟩
   refine ⟨re.set ry,rw',fun σ2 re2 ag=>q σ2 re2 fun j hj=>?_⟩
   rw [ag j fun z=>hj (List.mem_cons_of_mem _ z),List.getElem?_set_ne (fun z=>hj (by rw [z]; simp))]
theorem YT (h:XC CX X c G T lv) {S:Addr→Prop} {tg:Expr} {is:List Nat} {tp:Bool} {d:D} {ρ ρ1:List Sl} (h1:cX c tg=some (is,tp)) (h2:bE is tp d ρ=some ρ1):PG X tg (gD X.K T S is ρ ρ1 d):=by
 cases tg<;>simp only [cX,reduceCtorEq,Option.map_eq_some_iff,Prod.mk.injEq] at h1
 ·rename_i x p
  obtain ⟨i,h3,rfl,rfl⟩:=h1
  simp only [bE,Bool.false_eq_true,if_false,bL] at h2
  cases h2
  obtain ⟨hN,hk⟩:=gL h3
  obtain ⟨hl,hf⟩:=h.loc hk
  have p1:PG X (.Name x p) (qE i):=zZ (by rw [h.N]; exact h.nd) (by rw [h.N]; exact hN) hl hf
  intro pins s σ H v u Q I rv ⟨re,rd,q⟩
  exact p1 pins s σ H v u Q I rv (q _ (re.set rd) fun j hj=>List.getElem?_set_ne (fun z=>hj (by rw [z]; simp)))
 ·rename_i es k p
  obtain ⟨is',h3,rfl,rfl⟩:=h1
  simp only [bE,if_true] at h2
  cases d<;>simp only [reduceCtorEq] at h2
  rename_i ds
  obtain ⟨a1,a2,a3⟩:=eK (c:=c) X.env h3
  have p1:=YR (pos:=p) (k:=k) (n:=es.length) h.calm (aDK h (S:=S) h3 h2) a2 a3
  intro pins s σ H v u Q I rv ⟨re,rd,q⟩
  unfold Rep at rd
  obtain ⟨a,xs,ev,_,e,rl⟩:=rd
  refine p1 pins s σ H v u Q I rv ⟨a,xs,ev,e,?_,re,rl,q⟩
  have l1:=rl.len
  have l2:is'.length=es.length:=by
   clear p1 a1 a2 a3 rl h2 q
   induction es generalizing is' with
   | nil=>simp only [eZ] at h3; cases h3; rfl
   | cons e es ih =>
    simp only [eZ,Option.bind_eq_bind,Option.bind_eq_some_iff] at h3
    obtain ⟨i,_,r,h4,h5⟩:=h3
    cases h5
    simp only [List.length_cons,Nat.add_right_cancel_iff]
    exact ih r h4
  have l3:∀ {is:List Nat} {ds:List D} {ρ ρ1:List Sl},bL is ds ρ=some ρ1→is.length=ds.length:=by
   intro is
   induction is with
   | nil=>intro ds ρ ρ1 z; cases ds<;>simp_all [bL]
   | cons i is ih =>
    intro ds ρ ρ1 z
    cases ds with
    | nil=>simp [bL] at z
    | cons d ds=>simp only [bL] at z; simp [ih z]
  rw [← l1,← l3 h2,l2]
end
def ItD (K:PySem.W.Frag) (T:Tx) (S:Addr→Prop) (H0:Hp) (J:It) (ds:List D):Prop:=∀ (H:Hp) (S':Addr→Prop),aO K H0 H S S'→(∀ a,S' a→∃ o,H a=some o) →
 (∀ i d,ds[i]?=some d→J.go i H∧∀ x H',J.yld i H x H'→aG H H'∧Rep K T H' S' d x)∧∀ i,ds.length≤i→J.stop i H
def tI (K:PySem.W.Frag) (T:Tx) (S:Addr→Prop) (ρ:List Sl) (ds:List D):TI:=fun σ H R=>RE K T H S ρ σ∧∀ J H',aG H H'→ItD K T S H' J ds→ds.length≤sizeLine→R J H'
end Z
namespace Z
open PySem PySem.Spec PyProof.Rows L2
theorem fN (sc:Scope) (env:Env) (x:Str):(relabel sc env).names.lookup x=(sc.names.lookup x).map fun k=>if (k == .free&&env.scope.kind == .function&&env.kindOf x == some .cell)=true then .cell else k:=by
 show (sc.names.map fun (p:Str × NameKind)=>if (p.2 == .free&&env.scope.kind == .function&&env.kindOf p.1 == some .cell) then (p.1,NameKind.cell) else (p.1,p.2)).lookup x=_
 induction sc.names with
 | nil=>rfl
 | cons p r ih =>
  obtain ⟨n,k⟩:=p
  rw [List.map_cons]
  by_cases hx:x=n
  ·subst hx
   by_cases hc:(k == .free&&env.scope.kind == .function&&env.kindOf x == some .cell)=true
   ·show List.lookup x ((if (k == .free&&env.scope.kind == .function&&env.kindOf x == some .cell)=true then (x,NameKind.cell) else (x,k))::_)=_
    rw [if_pos hc,List.lookup_cons,List.lookup_cons,beq_self_eq_true]
    simp only [Option.map_some]
    rw [if_pos hc]
   ·show List.lookup x ((if (k == .free&&env.scope.kind == .function&&env.kindOf x == some .cell)=true then (x,NameKind.cell) else (x,k))::_)=_
    rw [if_neg hc,List.lookup_cons,List.lookup_cons,beq_self_eq_true]
    simp only [Option.map_some]
    rw [if_neg hc]
  ·have hb:(x == n)=false:=by simpa using hx
   show List.lookup x ((if (k == .free&&env.scope.kind == .function&&env.kindOf n == some .cell)=true then (n,NameKind.cell) else (n,k))::_)=_
   by_cases hc:(k == .free&&env.scope.kind == .function&&env.kindOf n == some .cell)=true
   ·rw [if_pos hc,List.lookup_cons,List.lookup_cons,hb]; exact ih
   ·rw [if_neg hc,List.lookup_cons,List.lookup_cons,hb]; exact ih
theorem gF {env:Env}:∀ (names:List (Str × NameKind)) (acc:List (Str × Addr)),(∀ x ∈ names,x.2=.free→∃ a,env.cells.lookup x.1=some a) →
  ∃ cl,(forIn names acc fun (x:Str × NameKind) (cs:List (Str × Addr))=>if (x.2 == .free)=true then (do let a ← cellOf env x.1; pure (ForInStep.yield ((x.1,a)::cs))) else pure (ForInStep.yield cs):Sem (List (Str × Addr)))=pure cl ∧
   (∀ x a,cl.lookup x=some a→acc.lookup x=some a∨env.cells.lookup x=some a)∧(∀ x,((x,NameKind.free) ∈ names∨∃ a,acc.lookup x=some a)→∃ a,cl.lookup x=some a)
 | [],acc,_=>⟨acc,rfl,fun x a h=>.inl h,fun x h=>by
   rcases h with h|h
   ·simp at h
   ·exact h⟩
 | (n,k)::r,acc,h=>by
  by_cases hk:k=.free
  ·subst hk
   obtain ⟨a,ha⟩:=h (n,.free) (by simp) rfl
   obtain ⟨cl,e,h1,h2⟩:=gF r ((n,a)::acc) fun x hx=>h x (List.mem_cons_of_mem _ hx)
   refine ⟨cl,?_,fun x b q=>?_,fun x q=>h2 x ?_⟩
   ·rw [List.forIn_cons]
    simp only [beq_self_eq_true,if_true,cellOf,ha]
    exact e
   ·rcases h1 x b q with z|z
    ·rw [List.lookup_cons] at z
     cases hx:x == n with
     | true =>
      rw [hx] at z
      have:x=n:=beq_iff_eq.mp hx
      subst this
      cases z
      exact .inr ha
     | false=>rw [hx] at z; exact .inl z
    ·exact .inr z
   ·by_cases hx:x=n
    ·subst hx
     exact .inr ⟨a,by simp⟩
    ·have hb:(x == n)=false:=by simpa using hx
     rcases q with q|⟨b,q⟩
     ·rcases List.mem_cons.mp q with q|q
      ·exact absurd (Prod.mk.inj q).1 hx
      ·exact .inl q
     ·exact .inr ⟨b,by rw [List.lookup_cons,hb]; exact q⟩
  ·have hb:(k == NameKind.free)=false:=by simpa using hk
   obtain ⟨cl,e,h1,h2⟩:=gF r acc fun x hx=>h x (List.mem_cons_of_mem _ hx)
   refine ⟨cl,?_,h1,fun x q=>h2 x ?_⟩
   ·rw [List.forIn_cons]
    simp only [hb,Bool.false_eq_true,if_false]
    exact e
   ·rcases q with q|q
    ·rcases List.mem_cons.mp q with q|q
     ·exact absurd (Prod.mk.inj q).2.symm hk
     ·exact .inl q
    ·exact .inr q
theorem oT {env:Env} {sc:Scope} (h:∀ x ∈ sc.names,x.2=.free→∃ a,env.cells.lookup x.1=some a) :
  ∃ cl,closureFor sc env=pure cl∧(∀ x a,cl.lookup x=some a→env.cells.lookup x=some a)∧(∀ x,(x,NameKind.free) ∈ sc.names→∃ a,cl.lookup x=some a):=by
 obtain ⟨cl,e,h1,h2⟩:=gF (env:=env) sc.names [] h
 refine ⟨cl,?_,fun x a q=>(h1 x a q).elim (fun z=>by simp at z) id,fun x q=>h2 x (.inl q)⟩
 show ((forIn sc.names [] fun (x:Str × NameKind) (cs:List (Str × Addr))=>if (x.2 == .free)=true then (do let a ← cellOf env x.1; pure (ForInStep.yield ((x.1,a)::cs))) else pure (ForInStep.yield cs):Sem (List (Str × Addr))) >>= fun cs=>pure cs)=pure cl
 rw [e]
 rfl
noncomputable def wM (X:Cx) (N':List Str) (sc:Scope) (cl:List (Str × Addr)) (C:Addr) (s:Shared) (H:Hp) (fp:List Addr) (E:Value→Shared→Prop):Cx:=
 {X with N:=N',s₀:=s,H₀:=H,env:=compEnvC sc cl C X.env,outer:=X.stack,ex:=fp,fn:=fun _=>false,pn:=[],xe:=E }
theorem uB {prog:Program} {w:World} {A:Around} {R:Result→Shared→Prop} {s:Shared} {elt target iter:Expr} {ifs:List Expr} {scope:Scope} {pos:Pos} {it acc:Value} {env:Env} (I:Nat→Shared→Prop)
  (turn:∀ n s,I n s→wpAny (model prog w) A (pyNext it) (fun r s₁=>match r with
   | none=>R (.ok .next) s₁
   | some v=>wpAny (model prog w) A (letOwnedTupleGo target it v) (fun _ s₁=>wpAny (model prog w) A (assign target env v) (fun _ s₂ =>
     wpAny (model prog w) A (forIn ifs true fun c r=>if r=true then do let ok ← isTrue c env (eval c env); pure (ForInStep.yield ok) else pure (ForInStep.yield r)) (fun ok s₃ =>
      if ok=true then wpAny (model prog w) A (eval elt env) (fun x s₄ =>
       wpAny (model prog w) A (call (.builtin "list.append") [acc,x]) (fun _ s₅=>∃ m,m<n∧I m s₅) (notedBy (model prog w) A env fun e s'=>R (.error e) s') s₄) (notedBy (model prog w) A env fun e s'=>R (.error e) s') s₃
      else ∃ m,m<n∧I m s₃) (notedBy (model prog w) A env fun e s'=>R (.error e) s') s₂) (notedBy (model prog w) A env fun e s'=>R (.error e) s') s₁) (notedBy (model prog w) A env fun e s'=>R (.error e) s') s₁) (notedBy (model prog w) A env fun e s'=>R (.error e) s') s)
  (n:Nat) (h:I n s):codeAny (model prog w) A (.compLoop (.ListComp elt [⟨target,iter,ifs,0⟩] scope pos) 0 it acc env) R s:=by
 refine codeAny_loop rfl I (fun n s hI=>?_) n h
 show wpAny _ A ((compTurn (.ListComp elt [⟨target,iter,ifs,0⟩] scope pos) 0 it acc env).onRaise (fun x=>do noteFrame x env; theTreesLotGoes x)) _ _ s
 refine wpAny_noted ?_
 rw [compTurn_list]
 refine wpAny_bind (wpAny_standAt (wpAny_bind (wpAny_mono (turn n s hI) (fun r s₁ h₁=>?_) fun _ _ h'=>h')))
 cases r with
 | none=>exact wpAny_pure h₁
 | some v =>
  refine wpAny_bind (wpAny_mono h₁ (fun _ s₁' h₁'=>?_) fun _ _ h'=>h')
  refine wpAny_bind (wpAny_mono h₁' (fun _ s₂ h₂=>wpAny_bind (wpAny_mono h₂ (fun ok s₃ h₃=>?_) fun _ _ h'=>h')) fun _ _ h'=>h')
  cases ok with
  | false=>exact wpAny_pure ⟨rfl,h₃⟩
  | true =>
   exact wpAny_bind (wpAny_bind (wpAny_mono h₃ (fun x s₄ h₄=>wpAny_bind (wpAny_mono h₄ (fun _ s₅ h₅=>wpAny_pure (wpAny_pure ⟨rfl,h₅⟩)) fun _ _ h'=>h')) fun _ _ h'=>h'))
section
variable {CX:CXT}{X:Cx}{c:CC}{G:GS}{T:Tx}{lv:Nat}{pins:List (Addr × Obj)}{σ:L2.St}{H:Hp}{s:Shared}
theorem kX (I:Inv X pins σ H s) {N':List Str} {sc:Scope} {cl:List (Str × Addr)} {C:Addr} {fp:List Addr} {E:Value→Shared→Prop} (hk:sc.kind=.function) (hC:s.heap.objs.size≤C)
  (hcl:∀ x a,cl.lookup x=some a→X.env.cells.lookup x=some a) (hhas:∀ x,(x,NameKind.free) ∈ sc.names→∃ a,cl.lookup x=some a) (hnc:∀ x ∈ sc.names,x.2≠.cell)
  (hf:∀ b ∈ fp,pB X pins H b) (hfl:∀ b ∈ fp,b<s.heap.objs.size):(wM X N' sc cl C s H fp E).Ok where
 mod:=I.ok.mod
 kind:=hk
 glob:=I.ok.glob
 blt:=I.ok.blt
 above:=hC
 inj:=fun x y c h1 h2=>I.ok.inj x y c (hcl _ _ h1) (hcl _ _ h2)
 has:=fun x hx=>by
  have e:∀ k,(relabel sc X.env).names.lookup x=some k→(k=.cell∨k=.free)→(x,NameKind.free) ∈ sc.names:=fun k e hk=>by
   rw [fN] at e
   cases q:sc.names.lookup x with
   | none=>rw [q] at e; cases e
   | some k0 =>
    rw [q] at e
    have hm:=PySem.mem_of_lookup q
    by_cases hk0:k0=.free
    ·subst hk0; exact hm
    ·have hb:(k0 == NameKind.free)=false:=by simpa using hk0
     simp only [Option.map_some,hb,Bool.false_and,Bool.false_eq_true,if_false,Option.some.injEq] at e
     subst e
     rcases hk with z|z
     ·exact absurd z (hnc _ hm)
     ·exact absurd z hk0
  rcases hx with hx|hx
  ·exact hhas x (e _ hx (.inl rfl))
  ·exact hhas x (e _ hx (.inr rfl))
 cab:=fun x c h=>by cases h
 hd:=I.ok.hd
 frames:=I.ok.frames
 stk:=.inl rfl
 exf:=fun b hb=>⟨Nat.ne_of_lt (Nat.lt_of_lt_of_le (hfl b hb) hC),fun x c e=>(hf b hb).2.2.2.2.1 x c (hcl _ _ e)⟩
 bs:=I.bs
 bsz:=Nat.le_trans I.ok.bsz I.sz
 noex:=fun b o e hb=>by
  obtain ⟨_,_,_,h1,_⟩:=hf b hb
  rcases h1 with h1|h1
  ·exact I.ok.noex b o e h1
  ·exact absurd (Nat.lt_of_lt_of_le (Heap.lt_size e) I.ok.bsz) (Nat.not_lt.mpr h1)
 exfs:=fun b hb hs=>by
  obtain ⟨_,h1,h2,_⟩:=hf b hb
  rcases List.mem_cons.mp (I.stkSub b hs) with z|z
  ·exact h1 z
  ·exact h2 z
 funs:=I.stack
 frf:=I.stkFree
end
end Z
namespace Z
open PySem PySem.Spec PyProof.Rows L2
section
variable {CX:CXT}{X:Cx}{c:CC}{G:GS}{T:Tx}{lv:Nat}{pins:List (Addr × Obj)}{σ:L2.St}{H:Hp}{s:Shared}
structure CompScope (c:CC) (sc:Scope):Prop where
 kind:sc.kind=.function
 nocell:∀ x ∈ sc.names,x.2≠.cell
 loc:∀ x ∈ sc.names,x.2=.local→sc.names.lookup x.1=some .local
 fl:∀ x ∈ sc.names,x.2=.free→sc.names.lookup x.1=some .free
 nd:(ownNames sc).Nodup
 dbg:∀ x ∈ ownNames sc,(x == ("__debug__":Str))=false∧(x == ("__classdict__":Str))=false
 gdb:sc.names.lookup ("__debug__":Str)≠some .globalImplicit
 fre:∀ x ∈ sc.names,x.2=.free→c.sc.names.lookup x.1=some .cell∨c.sc.names.lookup x.1=some .free
theorem qL {sc:Scope} (h:kA c sc=true):CompScope c sc:=by
 unfold kA at h
 simp only [Bool.and_eq_true] at h
 obtain ⟨⟨⟨⟨⟨⟨⟨h1,h2⟩,h3⟩,h8⟩,h4⟩,h5⟩,h6⟩,h7⟩:=h
 rw [List.all_eq_true] at h2 h3 h5 h7 h8
 refine ⟨beq_iff_eq.mp h1,fun x hx=>?_,fun x hx e=>?_,fun x hx e=>?_,of_decide_eq_true h4,fun x hx=>?_,fun e=>?_,fun x hx e=>?_⟩
 ·have:=h2 x hx
  simpa using this
 ·have:=h3 x hx
  simpa [e] using this
 ·have:=h8 x hx
  simpa [e] using this
 ·have:=h5 x hx
  simpa [Bool.and_eq_true] using this
 ·rw [e] at h6
  simp at h6
 ·have:=h7 x hx
  simpa [e] using this
theorem KU (h:XC CX X c G T lv) {sc:Scope} (cs:CompScope c sc) {cl:List (Str × Addr)} {C:Addr} {s:Shared} {H:Hp} {fp:List Addr} {E:Value→Shared→Prop} :
  XC CX (wM X (ownNames sc) sc cl C s H fp E) { c with N:=ownNames sc,sc:=sc } G T lv where
 N:=rfl
 nd:=cs.nd
 kd:=fun x=>by
  show uI (sc.names.lookup x) ((relabel sc X.env).names.lookup x)
  rw [fN]
  cases q:sc.names.lookup x with
  | none=>trivial
  | some k =>
   cases k with
   | «local»=>rfl
   | cell=>exact absurd rfl (cs.nocell _ (PySem.mem_of_lookup q))
   | free =>
    simp only [Option.map_some,uI]
    by_cases hc:((NameKind.free == NameKind.free)&&X.env.scope.kind == .function&&X.env.kindOf x == some .cell)=true
    ·rw [if_pos hc]; exact .inr rfl
    ·rw [if_neg hc]; exact .inl rfl
   | globalExplicit=>trivial
   | globalImplicit=>rfl
 own:=fun x e=>absurd rfl (cs.nocell _ (PySem.mem_of_lookup e))
 dbg:=cs.dbg
 gdb:=by
  unfold aX
  exact beq_eq_false_iff_ne.mpr cs.gdb
 calm:=h.calm
 room:=h.room
 go:=⟨h.go.fn,h.go.me,h.go.cls,h.go.fld,h.go.mo,h.go.cst,h.go.bi,h.go.xcl,h.go.frs,h.go.cx0,h.go.cxf,h.go.xns,h.go.xk,h.go.sub,h.go.wd⟩
theorem FB {sc:Scope}:∀ {l:List (Str × NameKind)} {fr:List (Nat × Nat)} {i j:Nat},freeOf c sc l=some fr→fr.lookup i=some j→∃ x ∈ l,(ownNames sc).idxOf? x.1=some i∧bT c x.1=some j:=by
 intro l
 induction l with
 | nil =>
  intro fr i j h e
  simp only [freeOf] at h
  cases h
  simp at e
 | cons x r ih =>
  intro fr i j h e
  simp only [freeOf,Option.bind_eq_bind,Option.bind_eq_some_iff] at h
  obtain ⟨a,h1,b,h2,t,h3,h4⟩:=h
  cases h4
  rw [List.lookup_cons] at e
  cases q:i == a with
  | true =>
   rw [q] at e
   cases e
   have:i=a:=by simpa using q
   subst this
   exact ⟨x,by simp,h1,h2⟩
  | false =>
   rw [q] at e
   obtain ⟨y,hy,z⟩:=ih h3 e
   exact ⟨y,List.mem_cons_of_mem _ hy,z⟩
noncomputable def eG (n:Nat) (fr:List (Nat × Nat)) (σ:L2.St):L2.St:=(List.range n).map fun i=>match fr.lookup i with
 | some j=>σ.getD j none
 | none=>none
theorem JS {K:PySem.W.Frag} {S:Addr→Prop} {ρ:List Sl} {n:Nat} {fr:List (Nat × Nat)} (re:RE K T H S ρ σ):RE K T H S (frame n fr ρ) (eG n fr σ):=by
 refine ⟨re.dom,by simp [frame,eG],fun i sl e=>?_⟩
 unfold frame at e
 unfold eG
 rw [List.getElem?_map] at e ⊢
 cases hr:(List.range n)[i]? with
 | none=>rw [hr] at e; cases e
 | some k =>
  rw [hr] at e
  simp only [Option.map_some,Option.some.injEq] at e ⊢
  subst e
  cases q:fr.lookup k with
  | none=>trivial
  | some j =>
   simp only
   cases q2:ρ[j]? with
   | none =>
    rw [List.getD_eq_getElem?_getD,q2]
    trivial
   | some sl =>
    have h:=re.at_ j sl q2
    rw [List.getD_eq_getElem?_getD,q2]
    simp only [Option.getD_some]
    cases sl with
    | un=>trivial
    | im d =>
     obtain ⟨v,e1,r⟩:=h
     exact ⟨v,by rw [List.getD_eq_getElem?_getD,e1]; rfl,r⟩
    | mu ds =>
     obtain ⟨p,xs,e1,r⟩:=h
     exact ⟨p,xs,by rw [List.getD_eq_getElem?_getD,e1]; rfl,r⟩
theorem RE.gen {K:PySem.W.Frag} {H':Hp} {S S':Addr→Prop} {ρ:List Sl} (re:RE K T H S ρ σ) (mv:aO K H H' S S') (hm:∀ a ob,S a→H a=some ob→(∃ d,lU K T H S d ob)→S' a∧H' a=some ob) (hd:∀ a,S' a→∃ o,H' a=some o):RE K T H' S' ρ σ:=by
 refine ⟨hd,re.len,fun i sl e=>?_⟩
 have h:=re.at_ i sl e
 cases sl with
 | un=>trivial
 | im d=>obtain ⟨v,e1,r⟩:=h; exact ⟨v,e1,Rep.gen mv d v r⟩
 | mu ds =>
  obtain ⟨p,xs,e1,sp,hp,r⟩:=h
  obtain ⟨a1,a2⟩:=hm p xs sp hp ⟨ds,r⟩
  exact ⟨p,xs,e1,a1,a2,r.gen mv⟩
theorem JJ (h:XC CX X c G T lv) (I:Inv X pins σ H s) {sc:Scope} (cs:CompScope c sc) {cl:List (Str × Addr)} {fr:List (Nat × Nat)} {C:Addr} {fp:List Addr} {E:Value→Shared→Prop} {s4:Shared} {m:Str→Option Value}
  (hfr:freeOf c sc (sc.names.filter fun x=>x.2 == .free)=some fr)
  (hcl:∀ x a,cl.lookup x=some a→X.env.cells.lookup x=some a) (hhas:∀ x,(x,NameKind.free) ∈ sc.names→∃ a,cl.lookup x=some a)
  (hf:∀ b ∈ fp,pB X pins H b) (hfl:∀ b ∈ fp,b<s.heap.objs.size) (hC:s.heap.objs.size≤C) (hn:s4.heap.Ns C m) (hk:∀ b o,s.heap.get? b=some o→s4.heap.get? b=some o)
  (hos:s4.os=s.os) (hgs:AllBare s4.gens):Inv (wM X (ownNames sc) sc cl C s H fp E) [] (eG (ownNames sc).length fr σ) H s4 where
 ok:=kX I cs.kind hC hcl hhas cs.nocell hf hfl
 os:=hos
 bare:=hgs
 base:=Un.kept hk
 loc:=⟨m,hn,fun i x v h1 h2 h3=>by
  unfold eG at h2
  rw [List.getElem?_map] at h2
  cases hr:(List.range (ownNames sc).length)[i]? with
  | none=>rw [hr] at h2; cases h2
  | some k =>
   have ek:k=i:=by
    obtain ⟨_,e⟩:=List.getElem?_eq_some_iff.mp hr
    simpa using e.symm
   subst ek
   rw [hr] at h2
   simp only [Option.map_some,Option.some.injEq] at h2
   cases q:fr.lookup k with
   | none=>rw [q] at h2; cases h2
   | some j =>
    rw [q] at h2
    simp only at h2
    obtain ⟨y,hy,hy1,hy2⟩:=FB hfr q
    have hyx:y.1=x:=by
     have:=hG hy1
     have h1':(ownNames sc)[k]?=some x:=h1
     rw [h1'] at this
     exact (Option.some.inj this).symm
    obtain ⟨hym,hyf⟩:=List.mem_filter.mp hy
    have hyf':y.2=.free:=by simpa using hyf
    have hxm:(x,NameKind.free) ∈ sc.names:=by
     rw [← hyx,← hyf']
     exact hym
    obtain ⟨hN,_⟩:=rM hy2
    rw [hyx] at hN hy2
    have hσ:σ[j]?=some (some v):=by
     rw [List.getD_eq_getElem?_getD] at h2
     cases q2:σ[j]? with
     | none=>rw [q2] at h2; cases h2
     | some o=>rw [q2] at h2; simp only [Option.getD_some] at h2; rw [h2]
    obtain ⟨m0,_,hl⟩:=I.loc
    have hfo:=cs.fre _ hym hyf'
    rw [hyx] at hfo
    obtain ⟨u,ru,lk⟩:=hl j x v (by rw [h.N]; exact hN) hσ (h.vis (.inr hfo))
    refine ⟨u,ru,.inr ?_⟩
    have kd:=h.kd x
    have notloc:X.env.kindOf x≠some .local:=by
     rcases hfo with z|z
     ·rw [z] at kd
      intro w
      rw [kd] at w; cases w
     ·rw [z] at kd
      intro w
      rcases kd with kd|kd<;>(rw [kd] at w; cases w)
    rcases lk with ⟨z,_⟩|⟨_,cc,e1,e2⟩
    ·exact absurd z notloc
    ·obtain ⟨a,ha⟩:=hhas x hxm
     have ea:=hcl x a ha
     rw [e1] at ea
     cases ea
     refine ⟨?_,cc,ha,?_⟩
     ·show (relabel sc X.env).names.lookup x=some .cell∨(relabel sc X.env).names.lookup x=some .free
      rw [fN]
      have hlk:sc.names.lookup x=some .free:=cs.fl _ hxm rfl
      rw [hlk]
      simp only [Option.map_some]
      split
      ·exact .inl rfl
      ·exact .inr rfl
     ·obtain ⟨o,h5,h6⟩:=e2
      exact ⟨o,hk _ _ h5,h6⟩⟩
 cell:=fun x a e=>by
  obtain ⟨v,o,h5,h6⟩:=I.cell x a (hcl x a e)
  exact ⟨v,o,hk _ _ h5,h6⟩
 free:=I.hok.fresh hC
 freeC:=fun x a e=>I.freeC x a (hcl x a e)
 pin:=fun p hp=>absurd (show p ∈ ([]:List (Addr × Obj)) from hp) (by simp)
 hok:=I.hok.kept hk
 len:=by simp [eG,wM]
end
end Z
namespace Z
open PySem PySem.Spec PyProof.Rows L2
section
variable {CX:CXT}{X:Cx}{c:CC}{G:GS}{T:Tx}{lv:Nat}{pins:List (Addr × Obj)}{σ:L2.St}{H:Hp}{s:Shared}
theorem wO {f:D→Option (Option D)} {d:D} {r out:List D} (h:bP f (d::r)=some out):∃ o t,f d=some o∧bP f r=some t∧out=(match o with|some y=>y::t|none=>t):=by
 simp only [bP,Option.bind_eq_bind,Option.bind_eq_some_iff] at h
 obtain ⟨o,h1,t,h2,h3⟩:=h
 refine ⟨o,t,h1,h2,?_⟩
 cases o<;>simp at h3<;>exact h3.symm
def TurnOk (CX:CXT) (G:GS) (T:Tx) (lv:Nat) (c':CC) (K:PySem.W.Frag) (ifs:List Expr) (elt:Expr) (ρ1:List Sl) (o:Option D):Prop:=
 ∀ (X':Cx) (S:Addr→Prop),XC CX X' c' G T lv→X'.K=K →
  ((ifs=[]∧o.isSome=true)∨∃ e,ifs=[e]∧PT X' e (tTe X'.K T S ρ1 o.isSome))∧∀ y,o=some y→PE X' elt (tD X'.K T S ρ1 y)
theorem oR (h:XC CX X c G T lv) {sc:Scope} (cs:CompScope c sc) {tg iter elt:Expr} {ifs:List Expr} {pos:Pos} {cl:List (Str × Addr)} {fr:List (Nat × Nat)} {tgs:List Nat} {tp:Bool} {ρ:List Sl} {S:Addr→Prop}
  {J:It} {fp:List Addr} {it:Addr} {tn:Nat→Heap→Prop} {ds outs:List D} {f:D→Option (Option D)} {RR:Value→Addr→Result→Shared→Prop} {E:Value→Shared→Prop}
  (hfr:freeOf c sc (sc.names.filter fun x=>x.2 == .free)=some fr) (htn:tgs.all (fun i=>(fr.lookup i).isNone)=true) (htg:cX { c with N:=ownNames sc,sc:=sc } tg=some (tgs,tp))
  (hcl:∀ x a,cl.lookup x=some a→X.env.cells.lookup x=some a) (hhas:∀ x,(x,NameKind.free) ∈ sc.names→∃ a,cl.lookup x=some a)
  (I:Inv X pins σ H s) (re:RE X.K T H S ρ σ) (TU:Turn X.prog X.w X.K tg J fp it tn) (st:tn 0 s.heap) (hf:∀ b ∈ fp,pB X pins H b) (itd:ItD X.K T S H J ds) (hlen:ds.length≤sizeLine)
  (hout:bP f ds=some outs) (hstep:∀ d o,f d=some o→∃ ρ1,bE tgs tp d (frame (ownNames sc).length fr ρ)=some ρ1∧TurnOk CX G T lv { c with N:=ownNames sc,sc:=sc } X.K ifs elt ρ1 o)
  (hRR:∀ (D C:Addr) (s':Shared) (H':Hp) (ys:List V) (m:Str→Option Value),Inv X pins σ H' s'→aG H H'→H D=none→H' D=some (.lst ys)→aD X.K T (er H' D) S outs ys→s'.heap.Ns C m →
   (H' C=none∧C≠X.env.locals∧X.s₀.heap.objs.size≤C∧(∀ x a,X.env.cells.lookup x=some a→a≠C)∧∀ p ∈ X.pn++pins,p.1≠C)→RR (.ref D) C (.ok .next) s') :
  wpAny (model X.prog X.w) X.A (newList []) (fun acc s₃=>wpAny (model X.prog X.w) X.A (newFunctionEnv sc X.env.globals cl [] X.env.qual none .none (some X.env)) (fun cenv s₄ =>
   codeAny (model X.prog X.w) X.A (.compStart (.ListComp elt [⟨tg,iter,ifs,0⟩] sc pos) 0 (.ref it) acc { cenv with scope:=relabel sc X.env }) (RR acc cenv.locals) s₄) E s₃) E s:=by
 refine wpAny_newObj_type (wpAny_newFunctionEnv cs.nocell (by intro y hy; simp at hy) (fun h₁ hns₁ hsb₁=>?_) cs.kind)
 dsimp only at hns₁ hsb₁ ⊢
 have I3:=I.lnew (t':=s.toks) (its:=[]) (ys:=[]) .nil (Nat.zero_le _)
 have hfl:∀ b ∈ fp,b<s.heap.objs.size:=fun b hb=>by
  obtain ⟨o,e,_⟩:=TU.obj _ _ st b hb
  exact Heap.lt_size e
 generalize hD:s.heap.objs.size=D at *
 generalize hs3:s.heap.push { cls:=.type "list",dict:=none,data:=.seq ([]:List Value).toArray }=h3 at *
 have hC:h3.objs.size=D+1:=by rw [← hs3,Heap.size_push,hD]
 generalize hCe:h3.objs.size=C at *
 have hDn:H D=none:=by rw [← hD]; exact I.hok.fresh (Nat.le_refl _)
 have hKD:X.K.lookup D=none:=by
  cases q:X.K.lookup D with
  | none=>rfl
  | some o =>
   have e:=I.kIn D o q
   exact absurd (Heap.lt_size e) (by rw [hD]; exact Nat.lt_irrefl _)
 have k3:∀ b o,s.heap.get? b=some o→h3.get? b=some o:=fun b o e=>by rw [← hs3]; exact Heap.get?_push_of_some _ e
 have k4:∀ b o,h3.get? b=some o→h₁.get? b=some o:=fun b o e=>hsb₁.extBut b o (by rw [← hCe]; exact Nat.ne_of_lt (Heap.lt_size e)) (Heap.get?_push_of_some _ e)
 have re3:RE X.K T (upd H D (.lst [])) (fun a=>S a∨a=D) ρ σ:=re.gen (aO.add hDn hKD) (fun a xs hs e _=>⟨.inl hs,by rw [aM (bC e hDn)]; exact e⟩) fun a hs=>by
  rcases hs with z|z
  ·obtain ⟨o,e⟩:=re.dom a z
   exact ⟨o,by rw [aM (bC e hDn)]; exact e⟩
  ·subst z; exact ⟨_,aJ⟩
 have hf3:∀ b ∈ fp,pB X pins (upd H D (.lst [])) b:=fun b hb=>⟨by rw [aM (Nat.ne_of_lt (hfl b hb))]; exact (hf b hb).1,(hf b hb).2⟩
 have hfl3:∀ b ∈ fp,b<h3.objs.size:=fun b hb=>by rw [hCe,hC]; exact Nat.lt_succ_of_lt (hfl b hb)
 have loop:∀ (E':Value→Shared→Prop) (s4:Shared),s4 = { s with heap:=h₁,toks:=s.toks+([]:List (Str × Value)).length } →
   codeAny (model X.prog X.w) X.A (.compLoop (.ListComp elt [⟨tg,iter,ifs,0⟩] sc pos) 0 (.ref it) (.ref D) (compEnvC sc cl C X.env)) (RR (.ref D) C) s4:=by
  rintro E' s4 rfl
  let EN:=notedBy (model X.prog X.w) X.A (compEnvC sc cl C X.env) fun e s'=>RR (.ref D) C (.error e) s'
  let Y:=wM X (ownNames sc) sc cl C { s with heap:=h3,toks:=s.toks } (upd H D (.lst [])) fp EN
  have xY:XC CX Y { c with N:=ownNames sc,sc:=sc } G T lv:=KU h cs
  have J0:Inv Y [] (eG (ownNames sc).length fr σ) (upd H D (.lst [])) { s with heap:=h₁,toks:=s.toks+([]:List (Str × Value)).length }:=
   JJ h I3 cs hfr hcl hhas hf3 hfl3 (by show h3.objs.size≤C; rw [hCe]; exact Nat.le_refl _) hns₁ k4 rfl I3.bare
  have stat:∀ {H':Hp},(∀ b ∈ fp,H' b=none)→∀ b ∈ fp,pB Y [] H' b:=fun hn b hb =>
   ⟨hn b hb,((kX (E:=EN) (N':=ownNames sc) I3 cs.kind (show h3.objs.size≤C by rw [hCe]; exact Nat.le_refl _) hcl hhas cs.nocell hf3 hfl3).exf b hb).1,
    (kX (E:=EN) (N':=ownNames sc) I3 cs.kind (show h3.objs.size≤C by rw [hCe]; exact Nat.le_refl _) hcl hhas cs.nocell hf3 hfl3).exfs b hb,.inl hb,
    ((kX (E:=EN) (N':=ownNames sc) I3 cs.kind (show h3.objs.size≤C by rw [hCe]; exact Nat.le_refl _) hcl hhas cs.nocell hf3 hfl3).exf b hb).2,fun p hp=>absurd (show p ∈ ([]:List (Addr × Obj)) from hp) (by simp)⟩
  have hn':∀ (σ':L2.St) (H':Hp),aG H H'→(∃ ys,H' D=some (.lst ys))→σ'.length=(ownNames sc).length→(∀ j,j ∉ tgs→σ'[j]?=(eG (ownNames sc).length fr σ)[j]?) →
    RE X.K T H' (fun a=>S a∨a=D) (frame (ownNames sc).length fr ρ) σ':=fun σ' H' sm hys hl ag=>by
   have r0:=JS (n:=(ownNames sc).length) (fr:=fr) re
   have mv:aO X.K H H' S (fun a=>S a∨a=D):=fun a n hh=>by
    have ne:a≠D:=by
     rintro rfl
     rcases hh with ⟨u,e⟩|⟨u,e⟩
     ·rw [hDn] at e; cases e
     ·rw [hKD] at e; cases e
    exact ⟨fun z=>z.elim n ne,fun o e=>sm a o e⟩
   refine ⟨fun a hs=>?_,by simp [frame,hl],fun j sl e=>?_⟩
   ·rcases hs with z|z
    ·obtain ⟨o,e⟩:=re.dom a z
     exact ⟨o,sm a o e⟩
    ·subst z
     obtain ⟨ys,e⟩:=hys
     exact ⟨_,e⟩
   ·have h0:=r0.at_ j sl e
    by_cases hj:j ∈ tgs
    ·have hu:sl=.un:=by
      unfold frame at e
      rw [List.getElem?_map] at e
      cases hr:(List.range (ownNames sc).length)[j]? with
      | none=>rw [hr] at e; cases e
      | some k =>
       have ek:k=j:=by
        obtain ⟨_,e'⟩:=List.getElem?_eq_some_iff.mp hr
        simpa using e'.symm
       subst ek
       rw [hr] at e
       simp only [Option.map_some,Option.some.injEq] at e
       have:=List.all_eq_true.mp htn k hj
       cases q:fr.lookup k with
       | none =>
        rw [q] at e
        simpa using e.symm
       | some z=>rw [q] at this; simp at this
     subst hu
     trivial
    ·rw [ag j hj]
     cases sl with
     | un=>trivial
     | im d=>obtain ⟨v,e1,r⟩:=h0; exact ⟨v,e1,Rep.gen mv d v r⟩
     | mu ds'=>obtain ⟨p,xs,e1,sp,hp,r⟩:=h0; exact ⟨p,xs,e1,.inl sp,sm _ _ hp,r.gen mv⟩
  refine uB (fun k s'=>∃ (i:Nat) (σ':L2.St) (H':Hp) (ys:List V) (pre post:List Z.D),k=ds.length+1-i∧i≤ds.length∧Inv Y [] σ' H' s'∧tn i s'.heap∧(∀ b ∈ fp,H' b=none) ∧
   aG H H'∧H' D=some (.lst ys)∧aD X.K T H' (fun a=>S a∨a=D) pre ys∧ys.length≤i∧outs=pre++post∧bP f (ds.drop i)=some post ∧
   σ'.length=(ownNames sc).length∧(∀ j,j ∉ tgs→σ'[j]?=(eG (ownNames sc).length fr σ)[j]?)) ?_ (ds.length+1)
   ⟨0,_,_,[],[],outs,rfl,Nat.zero_le _,J0,TU.keep _ _ _ st fun b _ o e=>k4 b o (k3 b o e),fun b hb=>(hf3 b hb).1,aG.upd hDn,aJ,aD.nil,Nat.le_refl _,rfl,by simpa using hout,by simp [eG],fun _ _=>rfl⟩
  rintro k s' ⟨i,σ',H',ys,pre,post,rfl,hi,IY,sti,fri,same,hHD,rp,hyl,ho,hgo,hlσ,hag⟩
  have rei:=hn' σ' H' same ⟨ys,hHD⟩ hlσ hag
  have mv:aO X.K H H' S (fun a=>S a∨a=D):=fun a n hh=>by
   have ne:a≠D:=by
    rintro rfl
    rcases hh with ⟨u,e⟩|⟨u,e⟩
    ·rw [hDn] at e; cases e
    ·rw [hKD] at e; cases e
   exact ⟨fun z=>z.elim n ne,fun o e=>same a o e⟩
  obtain ⟨it1,it2⟩:=itd H' _ mv rei.dom
  by_cases hlt:i<ds.length
  ·obtain ⟨d,hd⟩:∃ d,ds[i]?=some d:=⟨ds[i],by simp [hlt]⟩
   have hdr:ds.drop i=d::ds.drop (i+1):=by
    obtain ⟨h1,h2⟩:=List.getElem?_eq_some_iff.mp hd
    rw [← h2]
    exact List.drop_eq_getElem_cons h1
   rw [hdr] at hgo
   obtain ⟨o,t,hfd,ht,hpost⟩:=wO hgo
   obtain ⟨ρ1,hb,hok⟩:=hstep d o hfd
   obtain ⟨go,yl⟩:=it1 i d hd
   refine thn (TU.item Y rfl rfl rfl h.calm i [] s' σ' H' EN IY (stat fri) sti go) fun r s5 ⟨u,hr,h5⟩=>?_
   subst hr
   refine thn h5 fun _ s6 ⟨x,H6,I6,r6,y6,st6,fr6⟩=>?_
   obtain ⟨sm6,rd6⟩:=yl x H6 y6
   have I6':=I6.pinned (stat fr6) (TU.obj _ _ st6)
   have hD6:H6 D=some (.lst ys):=sm6 _ _ hHD
   refine thn (YT xY (S:=fun a=>S a∨a=D) htg hb _ s6 σ' H6 x u (fun σ2 H2=>H2=H6∧RE X.K T H6 (fun a=>S a∨a=D) ρ1 σ2∧∀ j,j ∉ tgs→σ2[j]?=σ'[j]?) I6' r6
    ⟨rei.same sm6,rd6,fun σ7 re7 ag7=>⟨rfl,re7,ag7⟩⟩) fun _ s7 ⟨σ7,H7,I7,e7,re7,ag7⟩=>?_
   subst e7
   have next:∀ (s9:Shared) (H9:Hp) (ys':List V) (pre':List Z.D),Inv Y ([]++lH fp s6.heap) σ7 H9 s9→aG H H9→H9 D=some (.lst ys')→aD X.K T H9 (fun a=>S a∨a=D) pre' ys'→ys'.length≤i+1→outs=pre'++t →
     ∃ m,m<ds.length+1-i∧∃ (i:Nat) (σ':L2.St) (H':Hp) (ys:List V) (pre post:List Z.D),m=ds.length+1-i∧i≤ds.length∧Inv Y [] σ' H' s9∧tn i s9.heap∧(∀ b ∈ fp,H' b=none) ∧
      aG H H'∧H' D=some (.lst ys)∧aD X.K T H' (fun a=>S a∨a=D) pre ys∧ys.length≤i∧outs=pre++post∧bP f (ds.drop i)=some post ∧
      σ'.length=(ownNames sc).length∧(∀ j,j ∉ tgs→σ'[j]?=(eG (ownNames sc).length fr σ)[j]?):=fun s9 H9 ys' pre' I9 sm9 hD9 rp9 hl9 ho9=>by
    refine ⟨ds.length+1-(i+1),by omega,i+1,σ7,H9,ys',pre',t,rfl,hlt,I9.unpinned,?_,fun b hb=>?_,sm9,hD9,rp9,hl9,ho9,ht,?_,fun j hj=>(ag7 j hj).trans (hag j hj)⟩
    ·exact TU.keep _ _ _ st6 fun b hb o e=>(I9.pin (b,o) (List.mem_append_right _ (List.mem_append_right _ (gY hb e)))).1
    ·obtain ⟨o,e,_⟩:=TU.obj _ _ st6 b hb
     exact (I9.pin (b,o) (List.mem_append_right _ (List.mem_append_right _ (gY hb e)))).2.1
    ·have l1:=re7.len
     have l2:=I9.len
     exact l2
   obtain ⟨htest,helt⟩:=hok Y (fun a=>S a∨a=D) xY rfl
   have fin:∀ (s8:Shared) (H8:Hp),Inv Y ([]++lH fp s6.heap) σ7 H8 s8→aG H7 H8 →
     (if o.isSome=true then wpAny (model X.prog X.w) X.A (eval elt (compEnvC sc cl C X.env)) (fun x s₄=>wpAny (model X.prog X.w) X.A (call (.builtin "list.append") [.ref D,x]) (fun _ s₅=>∃ m,m<ds.length+1-i∧∃ (i:Nat) (σ':L2.St) (H':Hp) (ys:List V) (pre post:List Z.D),m=ds.length+1-i∧i≤ds.length∧Inv Y [] σ' H' s₅∧tn i s₅.heap∧(∀ b ∈ fp,H' b=none) ∧
      aG H H'∧H' D=some (.lst ys)∧aD X.K T H' (fun a=>S a∨a=D) pre ys∧ys.length≤i∧outs=pre++post∧bP f (ds.drop i)=some post ∧
      σ'.length=(ownNames sc).length∧(∀ j,j ∉ tgs→σ'[j]?=(eG (ownNames sc).length fr σ)[j]?)) EN s₄) EN s8
     else ∃ m,m<ds.length+1-i∧∃ (i:Nat) (σ':L2.St) (H':Hp) (ys:List V) (pre post:List Z.D),m=ds.length+1-i∧i≤ds.length∧Inv Y [] σ' H' s8∧tn i s8.heap∧(∀ b ∈ fp,H' b=none) ∧
      aG H H'∧H' D=some (.lst ys)∧aD X.K T H' (fun a=>S a∨a=D) pre ys∧ys.length≤i∧outs=pre++post∧bP f (ds.drop i)=some post ∧
      σ'.length=(ownNames sc).length∧(∀ j,j ∉ tgs→σ'[j]?=(eG (ownNames sc).length fr σ)[j]?)):=fun s8 H8 I8 sm8=>by
    have smH8:aG H H8:=same.trans (sm6.trans sm8)
    cases o with
    | none =>
     rw [if_neg (by simp)]
     refine next s8 H8 ys pre I8 smH8 (sm8 _ _ hD6) ((rp.same sm6).same sm8) (Nat.le_succ_of_le hyl) ?_
     rw [ho,hpost]
    | some y =>
     rw [if_pos (show (some y).isSome=true from rfl)]
     refine thn (helt y rfl _ s8 σ7 H8 (fun v H9=>aG H8 H9∧Rep X.K T H9 (fun a=>S a∨a=D) y v) I8 ⟨re7.same sm8,fun v H9 sm9 rv=>⟨sm9,rv⟩⟩) fun u9 s9 ⟨v,H9,I9,r9,sm9,rv⟩=>?_
     have hD9:H9 D=some (.lst ys):=sm9 _ _ (sm8 _ _ hD6)
     refine thn (pW (X:=Y) _ s9 σ7 H9 (.ref D) [v] (.ref D) [u9] (fun _ H10=>H10=upd H9 D (.lst (ys++[v]))) I9 rfl (.cons r9 .nil) ⟨D,ys,v,rfl,rfl,hD9,by omega,rfl⟩) fun _ s10 ⟨_,H10,I10,_,e10⟩=>?_
     subst e10
     have smD:aG H (upd H9 D (.lst (ys++[v]))):=fun b ob e=>by
      rw [aM (bC e hDn)]
      exact sm9 _ _ (smH8 _ _ e)
     have mvD:aO X.K H9 (upd H9 D (.lst (ys++[v]))) (fun a=>S a∨a=D) (fun a=>S a∨a=D):=fun a n _=>⟨n,fun ob e=>by rw [aM (fun z=>n (.inr z))]; exact e⟩
     refine next s10 _ (ys++[v]) (pre++[y]) I10 smD aJ ?_ (by rw [List.length_append]; simp; omega) ?_
     ·exact aD.gen mvD _ _ (aD.app (((rp.same sm6).same sm8).same sm9) (aD.cons rv aD.nil))
     ·rw [ho,hpost,List.append_assoc]; rfl
   rcases htest with ⟨hifs,hsome⟩|⟨e,hifs,hpt⟩
   ·subst hifs
    refine wpAny_tests_nil ?_
    have z:=fin s7 H7 I7 (aG.refl _)
    rw [hsome] at z
    exact z
   ·subst hifs
    refine wpAny_tests_one (thn (hpt _ s7 σ7 H7 (fun b H8=>b=o.isSome∧aG H7 H8) I7 ⟨re7,fun H8 sm8=>⟨rfl,sm8⟩⟩) fun b s8 ⟨H8,I8,eb,sm8⟩=>?_)
    subst eb
    exact fin s8 H8 I8 sm8
  ·have ei:i=ds.length:=by omega
   subst ei
   refine thn (TU.done Y rfl rfl rfl h.calm ds.length [] s' σ' H' EN IY (stat fri) sti (it2 _ (Nat.le_refl _))) fun r s5 ⟨hr,I5⟩=>?_
   subst hr
   have hp0:post=[]:=by
    rw [List.drop_length] at hgo
    simp only [bP,Option.some.injEq] at hgo
    exact hgo.symm
   subst hp0
   rw [List.append_nil] at ho
   subst ho
   obtain ⟨m,hnC,_⟩:=I5.loc
   have I9:Inv X pins σ H' s5:=I3.call' I5.os I5.base I5.hok I5.bare fun b hb=>⟨(hf b hb).2.2.2.1,(hf b hb).2.1,(hf b hb).2.2.2.2.1,(hf b hb).2.2.2.2.2⟩
   have hCs:s.heap.objs.size≤C:=by rw [hD,hC]; exact Nat.le_succ _
   refine hRR D C s5 H' ys m I9 same hDn hHD (aD.disown (p:=D) (.inr rfl) (fun a z=>.inl z) rp) hnC ⟨I5.free,?_,Nat.le_trans I.sz hCs,fun x a e=>?_,fun p hp=>?_⟩
   ·intro z
    have:=I.lt
    rw [← z] at this
    exact absurd this (Nat.not_lt.mpr hCs)
   ·intro z
    obtain ⟨v,ob,h5,_⟩:=I.cell x a e
    rw [z] at h5
    exact absurd (Heap.lt_size h5) (Nat.not_lt.mpr hCs)
   ·intro z
    have:=(I.pin p hp).1
    rw [z] at this
    exact absurd (Heap.lt_size this) (Nat.not_lt.mpr hCs)
 exact codeAny_compStart_list (loop E _ rfl) (TU.self X.A 0 _ _ _ (TU.keep _ _ _ st fun b _ o e=>k4 b o (k3 b o e)) (loop E _ rfl))
end
end Z
namespace Z
open PySem PySem.Spec PyProof.Rows L2
section
variable {CX:CXT}{X:Cx}{c:CC}{G:GS}{T:Tx}{lv:Nat}{ρ:List Sl}{S:Addr→Prop}{tg:Expr}
theorem JF {H1:Hp} {a:Addr} {xs:List V} {ds:List D} (n:¬ S a) (hq:SqL X.K H1 a xs) (r:aD X.K T H1 S ds xs):ItD X.K T S H1 (Itl X.K a) ds:=fun H S' mv dom=>by
 obtain ⟨n',k⟩:=mv a n (SqL.has hq)
 have hq':=SqL.keeps hq k
 refine ⟨fun i d e=>?_,fun i hi=>⟨xs,hq',by rw [← r.len]; exact hi⟩⟩
 obtain ⟨x,e1,rx⟩:=r.get e
 refine ⟨⟨xs,x,hq',e1⟩,fun y H' ⟨eH,ey⟩=>?_⟩
 subst eH
 have:=ey xs hq'
 rw [e1] at this
 cases this
 exact ⟨aG.refl _,Rep.gen mv d x rx⟩
theorem QV {H1:Hp} {a:Addr} {xs:List V} {ds:List D} (n:¬ S a) (hq:SqT X.K H1 a xs) (r:aD X.K T H1 S ds xs):ItD X.K T S H1 (Itt X.K a) ds:=fun H S' mv dom=>by
 obtain ⟨n',k⟩:=mv a n (SqT.has hq)
 have hq':=SqT.keeps hq k
 refine ⟨fun i d e=>?_,fun i hi=>⟨xs,hq',by rw [← r.len]; exact hi⟩⟩
 obtain ⟨x,e1,rx⟩:=r.get e
 refine ⟨⟨xs,x,hq',e1⟩,fun y H' ⟨eH,ey⟩=>?_⟩
 subst eH
 have:=ey xs hq'
 rw [e1] at this
 cases this
 exact ⟨aG.refl _,Rep.gen mv d x rx⟩
theorem AL {H1:Hp} {lo hi:Int}:ItD X.K T S H1 (Itr lo (hi-lo).toNat) (dI lo hi):=fun H S' mv dom=>by
 refine ⟨fun i d e=>?_,fun i h=>by
  show (hi-lo).toNat≤i
  unfold dI at h
  rw [List.length_map,List.length_range] at h
  exact h⟩
 unfold dI at e
 rw [List.getElem?_map] at e
 cases hr:(List.range (hi-lo).toNat)[i]? with
 | none=>rw [hr] at e; cases e
 | some k =>
  obtain ⟨h1,e'⟩:=List.getElem?_eq_some_iff.mp hr
  have ek:k=i:=by simpa using e'.symm
  subst ek
  rw [hr] at e
  simp only [Option.map_some,Option.some.injEq] at e
  subst e
  refine ⟨by show k<(hi-lo).toNat; simpa using h1,fun y H' ⟨eH,ey⟩=>?_⟩
  subst eH ey
  exact ⟨aG.refl _,by unfold Rep; rfl⟩
theorem PF {l:Expr} {d:D} {ds:List D} (hl:PE X l (tD X.K T S ρ d)) (hi:items .seq d=some ds):PI X tg l (tI X.K T S ρ ds):=by
 intro pins s σ H R I ⟨re,q⟩
 refine thn (hl pins s σ H (fun v H'=>aG H H'∧Rep X.K T H' S d v) I ⟨re,fun v H' a b=>⟨a,b⟩⟩) fun v s1 ⟨x,H1,I1,r1,sm,rep⟩=>?_
 have golist:∀ (a:Addr) (xs:List V),x=.ref a→¬ S a→SqL X.K H1 a xs→aD X.K T H1 S ds xs→wpAny (model X.prog X.w) X.A (pyIter v) (PIE X pins σ tg R) X.xe s1:=fun a xs e n hq r=>by
  subst e
  cases r1
  obtain ⟨its,rv,p,hz⟩:=I1.list hq
  refine wpAny_pyIter_list p.isList ?_
  refine ⟨s1.heap.objs.size,[s1.heap.objs.size],_,_,H1,rfl,I1.kept (t':=s1.toks) fun b o e=>Heap.get?_push_of_some _ e,DS a _,⟨_,Heap.get?_push_size _ rfl,rfl,rfl⟩,fun b hb=>?_,q _ _ sm (JF n hq r) (by rw [r.len]; exact hz)⟩
  have e:b=s1.heap.objs.size:=by simpa using hb
  subst e
  exact I1.fpOk (Nat.le_refl _) (I1.hok.fresh (Nat.le_refl _))
 cases d<;>simp only [items,VJ,reduceCtorEq,Option.some.injEq] at hi
 ·subst hi
  unfold Rep at rep
  obtain ⟨a,xs,e,n,hq,r⟩:=rep
  exact golist a xs e n (SqL.of hq) r
 ·subst hi
  unfold Rep at rep
  obtain ⟨a,xs,e,n,hq,r⟩:=rep
  subst e
  cases r1
  obtain ⟨its,rv,p,hz⟩:=I1.tuple hq
  refine wpAny_pyIter_tuple (show s1.heap.IsTuple a its.toArray from p) ?_
  refine ⟨s1.heap.objs.size,[s1.heap.objs.size],_,_,H1,rfl,I1.kept (t':=s1.toks) fun b o e=>Heap.get?_push_of_some _ e,xF a _,⟨_,Heap.get?_push_size _ rfl,rfl,rfl⟩,fun b hb=>?_,q _ _ sm (QV n hq r) (by rw [r.len]; exact hz)⟩
  have e:b=s1.heap.objs.size:=by simpa using hb
  subst e
  exact I1.fpOk (Nat.le_refl _) (I1.hok.fresh (Nat.le_refl _))
 ·subst hi
  unfold Rep at rep
  obtain ⟨a,xs,e,n,hq,r⟩:=rep
  exact golist a xs e n hq r
theorem pT {lo hi:Int} (h:(hi-lo).toNat≤big):(dI lo hi).length≤sizeLine:=by
 unfold dI
 rw [List.length_map,List.length_range]
 exact Nat.le_trans h iV
theorem iG {i:Int} (h:fW i=true):-(2 ^ 62)≤i∧i<2 ^ 62:=by
 unfold fW at h
 rw [Bool.and_eq_true] at h
 exact ⟨of_decide_eq_true h.1,of_decide_eq_true h.2⟩
theorem PH {args:List Expr} {p pos:Pos} {as ds:List D} (hg:Gl X "range") (hm:X.mg "range" = none) (ha:PA X args (tAs X.K T S ρ as)) (hs:starEach args X.env=args.map fun e=>(false,eval e X.env)) (hi:items .rng (.tup as)=some ds) (hlen:as.length=args.length) :
  PI X tg (.Call (.Name "range" p) args [] pos) (tI X.K T S ρ ds):=by
 simp only [items] at hi
 unfold JG at hi
 split at hi
 ·rename_i j
  split at hi
  ·rename_i hc
   rw [Bool.and_eq_true] at hc
   cases hi
   obtain ⟨b1,b2⟩:=iG hc.1
   match args,hlen with
   | [a],_ =>
    intro pins s σ H R I ⟨re,q⟩
    refine ED hg hm ha hs pins s σ H R I ⟨re,fun vs H' sm r=>?_⟩
    unfold aD at r
    obtain ⟨x,r',rfl,rx,rr⟩:=r
    unfold aD at rr
    subst rr
    unfold Rep at rx
    subst rx
    refine ⟨j,rfl,b1,b2,?_⟩
    have hz:=pT (lo:=0) (hi:=j) (by simpa using of_decide_eq_true hc.2)
    have:=q (Itr 0 (j-0).toNat) H' sm AL hz
    simpa using this
  ·cases hi
 ·rename_i i j
  split at hi
  ·rename_i hc
   rw [Bool.and_eq_true,Bool.and_eq_true] at hc
   cases hi
   obtain ⟨b1,b2⟩:=iG hc.1.1
   obtain ⟨b3,b4⟩:=iG hc.1.2
   match args,hlen with
   | [a,b],_ =>
    intro pins s σ H R I ⟨re,q⟩
    refine EC hg hm ha hs (by
     have h2:=congrArg List.tail hs
     have e:starEach [a,b] X.env=(false,eval a X.env)::starEach [b] X.env:=by
      cases a<;>first|rfl|(simp [starEach] at hs)
     rw [e] at h2
     exact h2) pins s σ H R I ⟨re,fun vs H' sm r=>?_⟩
    unfold aD at r
    obtain ⟨x,r',rfl,rx,rr⟩:=r
    unfold aD at rr
    obtain ⟨y,r'',rfl,ry,rr⟩:=rr
    unfold aD at rr
    subst rr
    unfold Rep at rx ry
    subst rx ry
    exact ⟨i,j,rfl,⟨b1,b2,b3,b4⟩,q _ H' sm AL (pT (of_decide_eq_true hc.2))⟩
  ·cases hi
 ·cases hi
theorem oG (h:XC CX X c G T lv) {pins:List (Addr × Obj)} {σ:L2.St} {H:Hp} {s:Shared} (I:Inv X pins σ H s) {sc:Scope} (cs:CompScope c sc):∀ x ∈ sc.names,x.2=.free→∃ a,X.env.cells.lookup x.1=some a:=fun x hx hf=>by
 refine I.ok.has x.1 ?_
 have k:=h.kd x.1
 rcases cs.fre x hx hf with e|e
 ·rw [e] at k; exact .inl k
 ·rw [e] at k
  rcases k with k|k
  ·exact .inr k
  ·exact .inl k
theorem PN (h:XC CX X c G T lv) {sc:Scope} (chk:kA c sc=true) {iter elt:Expr} {ifs:List Expr} {pos:Pos} {fr:List (Nat × Nat)} {tgs:List Nat} {tp:Bool} {ds outs:List D} {f:D→Option (Option D)}
  (hfr:freeOf c sc (sc.names.filter fun x=>x.2 == .free)=some fr) (htn:tgs.all (fun i=>(fr.lookup i).isNone)=true) (htg:cX { c with N:=ownNames sc,sc:=sc } tg=some (tgs,tp))
  (hi:PI X tg iter (tI X.K T S ρ ds)) (hs:∀ x,foldedSetIterable iter X.env x=pure x)
  (hout:bP f ds=some outs) (hstep:∀ d o,f d=some o→∃ ρ1,bE tgs tp d (frame (ownNames sc).length fr ρ)=some ρ1∧TurnOk CX G T lv { c with N:=ownNames sc,sc:=sc } X.K ifs elt ρ1 o) :
  PE X (.ListComp elt [⟨tg,iter,ifs,0⟩] sc pos) (tNw X.K T S ρ outs):=by
 intro pins s σ H Q I ⟨re,q⟩
 have cs:=qL chk
 obtain ⟨cl,hclos,hcl,hhas⟩:=oT (oG h I cs)
 rw [eval_ListComp]
 refine wpAny_comprehension_free (use:=none) rfl hs hclos cs.kind cs.loc (thn (hi pins s σ H (fun J H2=>aG H H2∧ItD X.K T S H2 J ds∧ds.length≤sizeLine) I ⟨re,fun J H2 a b z=>⟨a,b,z⟩⟩) fun v s1 h1=>thn h1 fun itv s2 h2=>?_)
 obtain ⟨it,fp,tn,J,H2,e,I2,TU,st2,f2,sm,itd,hlen⟩:=h2
 subst e
 refine oR (RR:=fun acc C=>compPost (model X.prog X.w) X.A X.xe none (EP X pins σ Q) acc C) h cs hfr htn htg hcl hhas I2 (re.same sm) TU st2 f2 itd hlen hout hstep ?_
 intro D C s' H' ys m I' sm' hD hD' rp hn ⟨c1,c2,c3,c4,c5⟩
 refine ⟨m,hn,fun h' hs'=>⟨.ref D,H',I'.turned (t':=s'.toks) (fun b o hb e=>hs'.extBut b o hb e) c1 c2.symm.symm (.inr c3) c4 c5,rfl,?_⟩⟩
 exact q D ys H' (sm.trans sm') (sm.free hD) hD' rp
theorem zY (h:XC CX X c G T lv) {sc:Scope} (chk:kA c sc=true) {iter elt:Expr} {ifs:List Expr} {pos spos px:Pos} {fr:List (Nat × Nat)} {tgs:List Nat} {tp:Bool} {ds outs:List D} {f:D→Option (Option D)} {x:Str} {i:Nat}
  (hfr:freeOf c sc (sc.names.filter fun x=>x.2 == .free)=some fr) (htn:tgs.all (fun i=>(fr.lookup i).isNone)=true) (htg:cX { c with N:=ownNames sc,sc:=sc } tg=some (tgs,tp))
  (hi:PI X tg iter (tI X.K T S ρ ds)) (hs:∀ x,foldedSetIterable iter X.env x=pure x) (hx:fZ c (.Name x px)=some i)
  (hsw:swapsWith (.ListComp elt [⟨tg,iter,ifs,0⟩] sc pos) (some (.Name x px)) spos.line X.env=pure true)
  (hout:bP f ds=some outs) (hstep:∀ d o,f d=some o→∃ ρ1,bE tgs tp d (frame (ownNames sc).length fr ρ)=some ρ1∧TurnOk CX G T lv { c with N:=ownNames sc,sc:=sc } X.K ifs elt ρ1 o) :
  PS X (.Assign [.Name x px] (.ListComp elt [⟨tg,iter,ifs,0⟩] sc pos) spos) (fun D σ H=>RE X.K T H S ρ σ∧∀ p xs H',aG H H'→H p=none→H' p=some (.lst xs)→aD X.K T (er H' p) S outs xs→D.nx (σ.set i (some (.ref p))) H'):=by
 intro pins s σ H DD I ⟨re,q⟩
 have cs:=qL chk
 obtain ⟨cl,hclos,hcl,hhas⟩:=oT (oG h I cs)
 rw [exec_Assign_Name_used _ _ _ _ hsw]
 refine wpAny_bind (wpAny_standAt (wpAny_bind ?_))
 show wpAny _ X.A (do let _ ← comprehension (.ListComp elt [⟨tg,iter,ifs,0⟩] sc pos) sc X.env _ (newList []) false (eval iter X.env) (some (assign (.Name x px) X.env))) _ _ s
 refine wpAny_bind (wpAny_mono (wpAny_comprehension_free (use:=some (assign (.Name x px) X.env)) (Q:=fun _ s'=>SP X pins DD .next s') rfl hs hclos cs.kind cs.loc
  (thn (hi pins s σ H (fun J H2=>aG H H2∧ItD X.K T S H2 J ds∧ds.length≤sizeLine) I ⟨re,fun J H2 a b z=>⟨a,b,z⟩⟩) fun v s1 h1=>thn h1 fun itv s2 h2=>?_)) (fun _ s' hq=>wpAny_pure (wpAny_pure hq)) fun _ _ e=>e)
 obtain ⟨it,fp,tn,J,H2,e,I2,TU,st2,f2,sm,itd,hlen⟩:=h2
 subst e
 refine oR (RR:=fun acc C=>compPost (model X.prog X.w) X.A X.xe (some (assign (.Name x px) X.env)) (fun _ s'=>SP X pins DD .next s') acc C) h cs hfr htn htg hcl hhas I2 (re.same sm) TU st2 f2 itd hlen hout hstep ?_
 intro D C s' H' ys m I' sm' hD hD' rp hn ⟨c1,c2,c3,c4,c5⟩
 obtain ⟨hN,hk⟩:=gL hx
 obtain ⟨hl,hf⟩:=h.loc hk
 show wpAny _ X.A (assign (.Name x px) X.env (.ref D)) _ _ _
 refine wpAny_assign_Name (pQ I' (by rw [h.N]; exact h.nd) (by rw [h.N]; exact hN) hl (v:=.ref D) (u:=.ref D) rfl (fun s'' I'' ⟨a,sb,ha⟩=>?_) hf)
 have hCa:C≠a:=by
  rcases ha with z|z
  ·rw [z]; exact c2
  ·exact fun w=>c4 x a z w.symm
 refine ⟨m,hn.sameBut sb hCa,fun h' hs'=>⟨_,H',I''.turned (t':=s''.toks) (fun b o hb e=>hs'.extBut b o hb e) c1 c2 (.inr c3) c4 c5,q D ys H' (sm.trans sm') (sm.free hD) hD' rp⟩⟩
end
end Z
namespace Z
open PySem PySem.Spec PyProof.Rows L2
noncomputable def Itv (K:PySem.W.Frag) (a:Addr) (n:Nat):It:=
 ⟨fun i H=>∃ xs x,SqL K H a xs∧xs.length=n∧xs[n-1-i]?=some x∧i<n,fun i H x H'=>H'=H∧∀ xs,SqL K H a xs→xs[n-1-i]?=some x,fun i H=>n≤i⟩
theorem GF {P:Program} {w:World} {K:PySem.W.Frag} {tg:Expr} (a it:Addr) (n:Nat):Turn P w K tg (Itv K a n) [it] it (fun i h=>i≤n∧h.IsRevIter it a ((n:Int)-1-(i:Int))) where
 mem:=by simp
 obj:=fun i h st b hb=>by
  have e:b=it:=by simpa using hb
  subst e
  obtain ⟨_,o,e,c,d⟩:=st
  exact ⟨o,e,fun v z=>by rw [d] at z; cases z⟩
 keep:=fun i h h' st k=>⟨st.1,st.2.at fun o e=>k it (by simp) o e⟩
 item:=by
  intro X hP hw hK hc i pins s σ H E I hf st hg
  subst hP hw hK
  obtain ⟨xs,x,hq,hn,hx,hi⟩:=hg
  obtain ⟨its,rv,p,hz⟩:=I.list hq
  obtain ⟨u,hu,ru⟩:=rv.get hx
  obtain ⟨f0,f1,f2,f3,f4,f5⟩:=hf it (by simp)
  have e1:(n:Int)-1-(i:Int)=((n-1-i:Nat):Int):=by omega
  have st1:=st.2
  rw [e1] at st1
  refine wpAny_pyNext_rev_item st1 p.isList (x:=u) (by simpa using hu) fun h' st' sb=>?_
  have I1:Inv X pins σ H { s with heap:=h' }:=I.turned (t':=s.toks) (fun b o hb e=>(sb.2 b hb).trans e) f0 f1 f3 f4 f5
  obtain ⟨o,e,c,d⟩:=id st'
  have e2:((n-1-i:Nat):Int)-1=(n:Int)-1-((i+1:Nat):Int):=by omega
  rw [e2] at st'
  exact ⟨u,rfl,AS (s:={ s with heap:=h' }) e c d (by decide) ⟨x,H,I1,ru,⟨rfl,fun ys hy=>by rw [I.list_inj hy hq]; exact hx⟩,⟨hi,st'⟩,fun b hb=>(hf b hb).1⟩⟩
 done:=by
  intro X hP hw hK hc i pins s σ H E I hf st hg
  subst hP hw hK
  have hg':n≤i:=hg
  have ei:i=n:=Nat.le_antisymm st.1 hg'
  subst ei
  obtain ⟨f0,f1,f2,f3,f4,f5⟩:=hf it (by simp)
  have e1:(i:Int)-1-(i:Int)=-1:=by omega
  have st1:=st.2
  rw [e1] at st1
  exact wpAny_pyNext_rev_end (I.ok.hd hc) st1 fun h' eb=>⟨rfl,I.turned (t':=s.toks) (fun b o hb e=>eb b o hb e) f0 f1 f3 f4 f5⟩
 self:=fun _ _ _ _ _ st h=>wpAny_pyIter_revIter st.2 h
section
variable {CX:CXT}{X:Cx}{c:CC}{G:GS}{T:Tx}{lv:Nat}{ρ:List Sl}{S:Addr→Prop}{tg:Expr}
theorem QW {H1:Hp} {a:Addr} {xs:List V} {ds:List D} (n:¬ S a) (hq:SqL X.K H1 a xs) (r:aD X.K T H1 S ds xs):ItD X.K T S H1 (Itv X.K a xs.length) ds.reverse:=fun H S' mv dom=>by
 obtain ⟨n',k⟩:=mv a n (SqL.has hq)
 have hq':=SqL.keeps hq k
 have hl:=r.len
 refine ⟨fun i d e=>?_,fun i hi=>?_⟩
 ·have hi:i<ds.length:=by
   have:=(List.getElem?_eq_some_iff.mp e).1
   simpa using this
  rw [List.getElem?_reverse hi] at e
  obtain ⟨x,e1,rx⟩:=r.get e
  rw [hl] at e1 hi
  refine ⟨⟨xs,x,hq',rfl,e1,hi⟩,fun y H' ⟨eH,ey⟩=>?_⟩
  subst eH
  have:=ey xs hq'
  rw [e1] at this
  cases this
  exact ⟨aG.refl _,Rep.gen mv d x rx⟩
 ·show xs.length≤i
  rw [← hl]
  simpa using hi
theorem PJ {a:Expr} {p pos:Pos} {d:D} {ds:List D} (hg:Gl X "reversed") (hm:X.mg "reversed" = none) (ha:PA X [a] (tAs X.K T S ρ [d])) (hs:starEach [a] X.env=[(false,eval a X.env)]) (hi:vT d=some ds) :
  PI X tg (.Call (.Name "reversed" p) [a] [] pos) (tI X.K T S ρ ds):=by
 intro pins s σ H R I ⟨re,q⟩
 refine Call_ (iM I hg hm boot_reversed (PyProof.Rows.callWith_type1 (thn (ha pos pins s σ H (fun vs H'=>aG H H'∧aD X.K T H' S [d] vs) I ⟨re,fun vs H' a b=>⟨a,b⟩⟩) fun us s1 ⟨vs,H1,I1,r1,sm,rl⟩=>?_) hs rfl))
 unfold aD at rl
 obtain ⟨x,r',rfl,rx,rr⟩:=rl
 unfold aD at rr
 subst rr
 cases r1 with
 | cons r rr =>
  cases rr
  cases d<;>simp only [vT,reduceCtorEq,Option.some.injEq] at hi
  rename_i ds'
  subst hi
  unfold Rep at rx
  obtain ⟨l,xs,e,n,hq,rl⟩:=rx
  subst e
  cases r
  obtain ⟨its,rv,pl,hz⟩:=I1.list (SqL.of hq)
  have hlen:=rv.length
  refine call_reversed_list pl.isList ?_
  have I2:Inv X pins σ H1 { s1 with heap:=s1.heap.push (revObj l ((its.toArray.size:Int)-1)) }:=I1.kept (t':=s1.toks) fun b o e=>Heap.get?_push_of_some _ e
  have hri:({ s1 with heap:=s1.heap.push (revObj l ((its.toArray.size:Int)-1)) }:Shared).heap.IsRevIter s1.heap.objs.size l ((xs.length:Int)-1):=by
   refine ⟨_,Heap.get?_push_size _ rfl,rfl,?_⟩
   have:(its.toArray.size:Int)=(xs.length:Int):=by rw [List.size_toArray,hlen]
   show Data.fields #[.ref l,rawInt ((its.toArray.size:Int)-1)]=_
   rw [this]
  refine wpAny_pyIter_revIter hri ?_
  refine ⟨s1.heap.objs.size,[s1.heap.objs.size],_,_,H1,rfl,I2,GF l _ xs.length,⟨Nat.zero_le _,by simpa using hri⟩,fun b hb=>?_,q _ _ sm (QW n (SqL.of hq) rl) ?_⟩
  ·have e:b=s1.heap.objs.size:=by simpa using hb
   subst e
   exact I1.fpOk (Nat.le_refl _) (I1.hok.fresh (Nat.le_refl _))
  ·rw [List.length_reverse,rl.len]; exact hz
end
end Z
namespace Z
open PySem PySem.Spec PyProof.Rows L2
theorem CS:bootBuiltins "list" = some (.type "list"):=by decide +kernel
theorem EK:typeLookup (.type "list_reverseiterator") "__len__" = pure none:=by rw [typeLookup_type,builtinLookup_eq_fast]; kernel_rfl
theorem JP:typeLookup (.type "list_reverseiterator") "__length_hint__" = pure (some (.builtin "list_reverseiterator.__length_hint__")):=by rw [typeLookup_type,builtinLookup_eq_fast]; kernel_rfl
section
variable {prog:Program}{w:World}{A:Around}{E:Value→Shared→Prop}{s:Shared}
theorem pI {Q:Value→Shared→Prop} {I l:Addr} {items:Array Value} (hh:A.handled=none) (hne:l≠I) (hit:s.heap.IsRevIter I l ((items.size:Int)-1)) (hl:s.heap.IsList l items) (hz:items.size≤sizeLine)
  (hQ:∀ h' tk acc' c',(∀ b o,b≠I→s.heap.get? b=some o→h'.get? b=some o)→h'.get? s.heap.objs.size=some { cls:=.type "list",dict:=none,data:=.seq acc' c',slots:=#[] } →
   acc'=items.reverse→Q (.ref s.heap.objs.size) { s with heap:=h',toks:=tk }) :
  wpAny (model prog w) A (call (.type "list") [.ref I]) Q E s:=by
 refine callType_codes (Q₁:=fun obj s₁=>obj=.ref s.heap.objs.size∧s₁ = { s with heap:=s.heap.push { cls:=.type "list",data:=.seq #[] } }) F.called_list (F.typeCall_list_1 _) F.entry_list_init
  (code_list_new _ ⟨rfl,rfl⟩) fun obj s₁ h₁=>?_
 obtain ⟨rfl,rfl⟩:=h₁
 have hIlt:I<s.heap.objs.size:=by obtain ⟨o,e,_⟩:=hit; exact Heap.lt_size e
 have hllt:l<s.heap.objs.size:=by obtain ⟨o,e,_⟩:=hl; exact Heap.lt_size e
 have hS:(s.heap.push { cls:=.type "list",data:=.seq #[] }).get? s.heap.objs.size=some { cls:=.type "list",data:=.seq #[] }:=Heap.get?_push_size _ rfl
 have hup:∀ b o,s.heap.get? b=some o→(s.heap.push { cls:=.type "list",data:=.seq #[] }).get? b=some o:=fun b o e=>Heap.get?_push_of_some _ e
 refine ⟨⟨_,hS,rfl⟩,F.args_list_init_2 _ _,?_⟩
 generalize hSe:s.heap.objs.size=S at *
 generalize hs1:s.heap.push { cls:=.type "list",data:=.seq #[] }=h1 at *
 have hSI:S≠I:=Nat.ne_of_gt hIlt
 have hSl:S≠l:=Nat.ne_of_gt hllt
 show wpAny _ _ (do let old ← Builtin.List.listItems (.ref S); Builtin.List.listUpdate (.ref S) (fun _=>#[]); letGo old.toList.reverse; Builtin.List.listExtendWith (.ref S) (.ref I) .none) _ _ _
 refine wpAny_bind ?_
 unfold Builtin.List.listItems
 refine wpAny_bind (wpAny_seqItems hS rfl (wpAny_pure ?_))
 show wpAny _ _ (updateSeq S (fun _=>#[]) >>= fun _=>letGo (#[]:Array Value).toList.reverse >>= fun _=>Builtin.List.listExtendWith (.ref S) (.ref I) .none) _ _ _
 refine wpAny_bind (wpAny_updateSeq hS rfl ?_)
 have hS₂:=Heap.get?_update_self (Obj.mapSeq (fun _=>(#[]:Array Value))) hS rfl
 have oth:∀ b o,b≠S→h1.get? b=some o→(h1.update S (Obj.mapSeq (fun _=>(#[]:Array Value)))).get? b=some o:=
  fun b o hb e=>(Heap.get?_update_other _ _ (Ne.symm hb)).trans e
 refine wpAny_bind (wpAny_letGo ?_)
 generalize h1.update S (Obj.mapSeq (fun _=>(#[]:Array Value)))=h2 at *
 have W:=(Walks.listRev (prog:=prog) (w:=w) (A:=A.in1.in1) hh I l hne items).toS
 have hit2:h2.IsRevIter I l ((items.size:Int)-1-((0:Nat):Int)):=by
  have e0:(items.size:Int)-1-((0:Nat):Int)=(items.size:Int)-1:=by omega
  rw [e0]
  exact hit.at fun o e=>oth I o (Ne.symm hSI) (hup _ _ e)
 have hl2:h2.IsList l items:=hl.at fun o e=>oth l o (Ne.symm hSl) (hup _ _ e)
 have hT:({ s with heap:=h2 }:Shared).TypeIs (.ref I) "list_reverseiterator":=hit2.typeIs (s:={ s with heap:=h2 })
 have hSf:S ∉ [I,l]:=by simp [hSI,hSl]
 have hs1':Builtin.List.listSameRef (.ref S) (.ref I)=false:=by simp [Builtin.List.listSameRef,hSI]
 show wpAny _ _ (Builtin.List.listExtendWith (.ref S) (.ref I) .none) _ _ { s with heap:=h2 }
 unfold Builtin.List.listExtendWith
 refine wpAny_bind (wpAny_typeOf hT ?_)
 rw [if_neg (by rw [hs1']; decide)]
 refine wpAny_bind (W.self 0 _ _ _ ⟨Nat.zero_le _,hit2,hl2⟩ ?_)
 refine wpAny_bind (wpAny_holding ?_)
 unfold Builtin.List.listLengthHint
 refine wpAny_bind (wpAny_specialOf hT EK ?_)
 show wpAny _ _ (specialOf (Value.ref I) (Str.ofString "__length_hint__") >>= _) _ _ _
 refine wpAny_bind (wpAny_specialOf hT JP ?_)
 (generalize hid:("list_reverseiterator.__length_hint__":String)=id0; (fail_if_success (clear hid id0)); wp_delta; rw [show splitId id0=some ("list_reverseiterator","__length_hint__") from by subst hid; decide +kernel]; subst hid)
 refine wpAny_bind (wpAny_isInstance (b:=true) hT (by rw [isSubtype_type]; kernel_rfl) ?_)
 refine wpAny_pure ?_
 rw [if_neg (by decide)]
 refine wpAny_pure ⟨plainId_quiet F.plain_extend_loop _,codeAny_extend_loopS W hz S hSf _ items.size 0 _ _ _ rfl (Nat.zero_le _) ⟨Nat.zero_le _,hit2,hl2⟩ hS₂ (ItemsOf.nil _) fun s' acc' c' hm hS' hacc=>?_⟩
 refine ⟨rfl,?_⟩
 rw [Moved.eq_with hm]
 refine hQ s'.heap s'.toks acc' c' (fun b o hb e=>?_) hS' ?_
 ·have hbS:b≠S:=fun z=>by
   subst z
   exact absurd (Heap.lt_size e) (by rw [hSe]; exact Nat.lt_irrefl _)
  exact hm.heap b o (by simp [hbS,hb]) (oth b o hbS (hup _ _ e))
 ·obtain ⟨hl1,hl2⟩:=hacc
  apply Array.ext
  ·rw [hl1,Array.size_reverse]
  ·intro i h3 h4
   have h5:=hl2 i acc'[i] (Array.getElem?_eq_getElem h3)
   rw [Array.getElem_reverse]
   obtain ⟨_,e⟩:=Array.getElem?_eq_some_iff.mp h5
   exact e.symm
end
section
variable {CX:CXT}{X:Cx}{c:CC}{G:GS}{T:Tx}{lv:Nat}{ρ:List Sl}{S:Addr→Prop}
theorem xZ {a:Expr} {p pos p2 pos2:Pos} {d:D} {ds:List D} (hc:X.calm=true) (hg:Gl X "reversed") (hm:X.mg "reversed" = none) (hgl:Gl X "list") (hml:X.mg "list" = none) (ha:PA X [a] (tAs X.K T S ρ [d])) (hs:starEach [a] X.env=[(false,eval a X.env)]) (hi:vT d=some ds) :
  PE X (.Call (.Name "list" p2) [.Call (.Name "reversed" p) [a] [] pos] [] pos2) (tNw X.K T S ρ ds):=by
 intro pins s σ H Q I ⟨re,q⟩
 refine Call_ (iM I hgl hml CS (PyProof.Rows.callWith_type1 (Calls.spliced_cons (Call_ (iM I hg hm boot_reversed (PyProof.Rows.callWith_type1 (thn (ha pos pins s σ H (fun vs H'=>aG H H'∧aD X.K T H' S [d] vs) I ⟨re,fun vs H' a b=>⟨a,b⟩⟩) fun us s1 ⟨vs,H1,I1,r1,sm,rl⟩=>?_) hs rfl)))) rfl rfl))
 unfold aD at rl
 obtain ⟨x,r',rfl,rx,rr⟩:=rl
 unfold aD at rr
 subst rr
 cases r1 with
 | cons r rr =>
  cases rr
  cases d<;>simp only [vT,reduceCtorEq,Option.some.injEq] at hi
  rename_i ds'
  subst hi
  unfold Rep at rx
  obtain ⟨l,xs,e,n,hq,rl⟩:=rx
  subst e
  cases r
  obtain ⟨its,rv,pl,hz⟩:=I1.list (SqL.of hq)
  have hlen:=rv.length
  refine call_reversed_list pl.isList ?_
  refine Calls.spliced_nil ?_
  have hllt:l<s1.heap.objs.size:=by obtain ⟨o,e,_⟩:=pl.isList; exact Heap.lt_size e
  refine pI (I:=s1.heap.objs.size) (items:=its.toArray) (I1.ok.hd hc) (Nat.ne_of_lt hllt) ⟨_,Heap.get?_push_size _ rfl,rfl,rfl⟩ (pl.isList.at fun o e=>Heap.get?_push_of_some _ e) (by rw [List.size_toArray,← hlen]; exact hz) fun h' tk acc' c' hk hS' hacc=>?_
  have e1:(s1.heap.push (revObj l ((its.toArray.size:Int)-1))).objs.size=s1.heap.objs.size+1:=Heap.size_push ..
  have I3:Inv X pins σ (upd H1 (s1.heap.push (revObj l ((its.toArray.size:Int)-1))).objs.size (.lst xs.reverse)) { s1 with heap:=h',toks:=tk }:=by
   refine I1.laid (fun b u e=>hk b u (Nat.ne_of_lt (Heap.lt_size e)) (Heap.get?_push_of_some _ e)) (by rw [e1]; exact Nat.le_succ _) ?_
   refine ⟨by rw [List.length_reverse]; exact hz,its.reverse,c',aS.reverse rv,?_⟩
   rw [hS',hacc]
   simp
  have hfr:H1 (s1.heap.push (revObj l ((its.toArray.size:Int)-1))).objs.size=none:=I1.hok.fresh (by rw [e1]; exact Nat.le_succ _)
  exact ⟨.ref _,_,I3,rfl,q _ xs.reverse _ (sm.trans (aG.upd hfr)) (sm.free hfr) aJ (by rw [hV hfr]; exact rl.rev)⟩
end
end Z
namespace Z
open PySem PySem.Spec PyProof.Rows L2
section
variable {CX:CXT}{X:Cx}{c:CC}{G:GS}{T:Tx}{lv:Nat}{ρ:List Sl}{S:Addr→Prop}{pos:Pos}{ea eb ec:Expr}{a b d:D}
theorem NV {i:Nat} (h:slot ρ i=some d):ρ[i]?=some (.im d):=by
 unfold slot at h
 split at h
 ·rename_i e; cases h; exact e
 ·cases h
theorem aFy (h:XC CX X c G T lv) {x:Str} {i:Nat} (e:bT c x=some i) (hs:slot ρ i=some d):PE X (.Name x pos) (tD X.K T S ρ d):=by
 obtain ⟨hN,hk⟩:=rM e
 have hm:x ∈ c.N:=List.mem_of_getElem? hN
 refine PE.mono (lI (by rw [h.N]; exact hN) (h.vis hk) (h.dbg x hm).1 (h.dbg x hm).2) fun σ H Q ⟨re,q⟩=>?_
 obtain ⟨v,e1,r⟩:=re.at_ i _ (NV hs)
 exact ⟨v,e1,q v H (aG.refl H) r⟩
theorem kM (h:XC CX X c G T lv) {x:Str} {i:Nat} (e:bT c x=some i):PE X (.Name x pos) (rL i):=by
 obtain ⟨hN,hk⟩:=rM e
 have hm:x ∈ c.N:=List.mem_of_getElem? hN
 exact lI (by rw [h.N]; exact hN) (h.vis hk) (h.dbg x hm).1 (h.dbg x hm).2
theorem aFM (h:XC CX X c G T lv) {x:Str} (e:aX c x=true) (hc:c.csts.contains x=true) (hd:G.cst x=some d):PE X (.Name x pos) (tD X.K T S ρ d):=by
 obtain ⟨u,v,e1,r,hr⟩:=h.go.cst x d hd hc
 intro pins s σ H Q I ⟨re,q⟩
 exact eO I (h.glob e) e1 ⟨v,H,I,r,q v H (aG.refl H) (hr H S (VI I) re.dom)⟩ (h.gne e)
theorem aFL {i:Int} {j:Nat}:PE X (.Constant (.int i) j pos) (tD X.K T S ρ (.int i)):=PE.mono HI fun σ H Q ⟨re,q⟩=>q _ H (aG.refl H) (by unfold Rep; rfl)
theorem aJm {i:Bool} {j:Nat}:PE X (.Constant (.bool i) j pos) (tD X.K T S ρ (.bl i)):=PE.mono AE fun σ H Q ⟨re,q⟩=>q _ H (aG.refl H) (by unfold Rep; rfl)
theorem aFA {i:Str} {j:Nat}:PE X (.Constant (.str i) j pos) (tD X.K T S ρ (.str i)):=PE.mono fO fun σ H Q ⟨re,q⟩=>q _ H (aG.refl H) (by unfold Rep; rfl)
theorem aFG {j:Nat}:PE X (.Constant .none j pos) (tD X.K T S ρ .non):=PE.mono YW fun σ H Q ⟨re,q⟩=>q _ H (aG.refl H) (by unfold Rep; rfl)
theorem nH {o:O2} (hd:op2 o a b=some d):∀ σ H Q,tD X.K T S ρ d σ H Q→tOp (rD X.K T S o) (tD X.K T S ρ a) (tD X.K T S ρ b) σ H Q:=fun σ H Q ⟨re,q⟩ =>
 ⟨re,fun x H1 s1 r1=>⟨re.same s1,fun y H2 s2 r2=>⟨a,b,d,((re.same s1).same s2).dom,r1.same s2,r2,hd,fun v H' s3 r3=>q v H' (s1.trans (s2.trans s3)) r3⟩⟩⟩
theorem aFQ {op:Operator} {o:O2} (ho:PZ op=some o) (ha:PE X ea (tD X.K T S ρ a)) (hb:PE X eb (tD X.K T S ρ b)) (hd:op2 o a b=some d):PE X (.BinOp ea op eb pos) (tD X.K T S ρ d):=
 PE.mono (TK (QE ho) ha hb) (nH hd)
theorem EF:OpR X (compareOp .IsNot) (rD X.K T S .isnot):=by
 rintro pins s σ H x y v u Q I rx ry ⟨a,b,d,dom,ra,rb,e,q⟩
 have go:∀ k,b=.non→k=decide (x=V.non)→d=.bl (!k)→wpAny (model X.prog X.w) X.A (compareOp .IsNot v u) (EP X pins σ Q) X.xe s:=fun k hb hk hd=>by
  subst hb hd hk
  unfold Rep at rb
  exact PV pins s σ H x y v u Q I rx ry ⟨rb,q _ H (aG.refl H) bO⟩
 simp only [op2,IF,isD] at e
 split at e<;>simp only [Option.map_some,Option.map_none,Option.some.injEq,reduceCtorEq] at e
 all_goals subst e
 all_goals first
  | (unfold Rep at ra; refine go _ rfl ?_ rfl; first|(subst ra; rfl)|(obtain ⟨_,_,rfl,_⟩:=ra; rfl)|(obtain ⟨_,_,_,_,rfl,_⟩:=ra; rfl))
  | (unfold Rep at ra rb
     subst ra rb
     cases rx
     cases ry
     exact isnot_bool ⟨.bl _,H,I,rfl,q _ H (aG.refl H) bO⟩)
theorem eN (hu:X.A.units+64<cLine) (op:CmpOp):OpR X (compareOp op) (rD X.K T S (jQ op)):=by
 cases op
 ·exact ZO hu
 ·exact ZH hu
 ·exact ZI
 ·exact ZJ
 ·exact ZM
 ·exact ZN
 ·exact ZK
 ·exact EF
 ·exact ZL hu
 ·exact EE hu
theorem aFP (hu:X.A.units+64<cLine) {op:CmpOp} (ha:PE X ea (tD X.K T S ρ a)) (hb:PE X eb (tD X.K T S ρ b)) (hm:behindInMarks op eb=false) (hd:op2 (jQ op) a b=some d):PE X (.Compare ea [op] [eb] pos) (tD X.K T S ρ d):=
 PE.mono (AB (eN hu op) ha hb hm) (nH hd)
theorem ZY (hu:X.A.units+64<cLine) {op:CmpOp} {k:Bool} (ha:PE X ea (tD X.K T S ρ a)) (hb:PE X eb (tD X.K T S ρ b)) (hm:behindInMarks op eb=false) (hd:op2 (jQ op) a b=some (.bl k)):PT X (.Compare ea [op] [eb] pos) (tTe X.K T S ρ k):=
 PT.mono (zX (eN hu op) ha hb hm) fun σ H Q ⟨re,q⟩=>nH hd σ H _ ⟨re,fun v H' sm r=>by
  unfold Rep at r
  exact ⟨k,r,q H' sm⟩⟩
theorem oU {o o':O2} {c':D} {k:Bool} (h1:op2 o a b=some (.bl k)) (h2:if k=true then op2 o' b c'=some d else d=.bl false):∀ σ H Q,tD X.K T S ρ d σ H Q→xI (rD X.K T S o) (rD X.K T S o') (tD X.K T S ρ a) (tD X.K T S ρ b) (tD X.K T S ρ c') σ H Q:=
 fun σ H Q ⟨re,q⟩=>⟨re,fun x H1 s1 r1=>⟨re.same s1,fun y H2 s2 r2=>⟨a,b,.bl k,((re.same s1).same s2).dom,r1.same s2,r2,h1,fun z H3 s3 r3=>by
  unfold Rep at r3
  refine ⟨k,r3,?_⟩
  cases k with
  | true =>
   rw [if_pos rfl] at h2 ⊢
   exact ⟨((re.same s1).same s2).same s3,fun w' H4 s4 r4=>⟨b,c',d,(((re.same s1).same s2).same s3).same s4 |>.dom,(r2.same s3).same s4,r4,h2,fun v H' s5 r5=>q v H' (s1.trans (s2.trans (s3.trans (s4.trans s5)))) r5⟩⟩
  | false =>
   rw [if_neg Bool.false_ne_true] at h2 ⊢
   subst h2
   exact q _ H3 (s1.trans (s2.trans s3)) bO⟩⟩⟩
theorem QP (hu:X.A.units+64<cLine) {op op':CmpOp} {c':D} {k:Bool} (ha:PE X ea (tD X.K T S ρ a)) (hb:PE X eb (tD X.K T S ρ b)) (hc:PE X ec (tD X.K T S ρ c')) (hm:lastMarks [op,op'] [eb,ec]=false)
  (h1:op2 (jQ op) a b=some (.bl k)) (h2:if k=true then op2 (jQ op') b c'=some d else d=.bl false):PE X (.Compare ea [op,op'] [eb,ec] pos) (tD X.K T S ρ d):=
 PE.mono (vG (eN hu op) (eN hu op') ha hb hc hm) (oU h1 h2)
theorem IL (hu:X.A.units+64<cLine) {op op':CmpOp} {c':D} {k k':Bool} (ha:PE X ea (tD X.K T S ρ a)) (hb:PE X eb (tD X.K T S ρ b)) (hc:PE X ec (tD X.K T S ρ c')) (hm:lastMarks [op,op'] [eb,ec]=false)
  (h1:op2 (jQ op) a b=some (.bl k)) (h2:if k=true then op2 (jQ op') b c'=some (.bl k') else D.bl k'=.bl false):PT X (.Compare ea [op,op'] [eb,ec] pos) (tTe X.K T S ρ k'):=
 PT.mono (vE (eN hu op) (eN hu op') ha hb hc hm) fun σ H Q ⟨re,q⟩=>oU h1 h2 σ H _ ⟨re,fun v H' sm r=>by
  unfold Rep at r
  exact ⟨k',r,q H' sm⟩⟩
theorem aFH {i:Int} (ha:PE X ea (tD X.K T S ρ (.int i))):PE X (.UnaryOp .USub ea pos) (tD X.K T S ρ (.int (-i))):=
 PE.mono (aDL XA ha) fun σ H Q ⟨re,q⟩=>⟨re,fun x H1 s1 r1=>by
  unfold Rep at r1
  exact ⟨i,r1,q _ H1 s1 (by unfold Rep; rfl)⟩⟩
theorem _root_.Z.aD.emp {K:PySem.W.Frag} {H:Hp} {ds:List D} {xs:List V} (r:aD K T H S ds xs):ds.isEmpty=xs.isEmpty:=by
 have:=r.len
 cases ds<;>cases xs<;>simp_all
theorem aCf {H:Hp} {v:V} {k:Bool} (r:Rep X.K T H S a v) (h:tru a=some k):aAW X.K v H k:=by
 cases a<;>simp only [tru,reduceCtorEq,Option.some.injEq] at h
 ·unfold Rep at r; subst r; exact h.symm
 ·unfold Rep at r; subst r; exact h.symm
 ·unfold Rep at r; subst r; exact h.symm
 ·unfold Rep at r
  obtain ⟨p,xs,rfl,_,e,rl⟩:=r
  refine .inl ⟨xs,SqL.of e,?_⟩
  rw [← h]
  rw [rl.emp]
 ·unfold Rep at r
  obtain ⟨p,xs,rfl,_,e,rl⟩:=r
  refine .inr (.inl ⟨xs,e,?_⟩)
  rw [← h]
  rw [rl.emp]
 ·unfold Rep at r
  obtain ⟨p,xs,rfl,_,e,rl⟩:=r
  refine .inl ⟨xs,e,?_⟩
  rw [← h]
  rw [rl.emp]
theorem QM {k:Bool} (ha:PE X ea (tD X.K T S ρ a)) (he:∀ whole,isTrue ea X.env whole=(do let v ← whole; standAt ea.pos; holding [v] (truthy v))) (h:tru a=some k):PT X ea (tTe X.K T S ρ k):=
 PT.mono (HA ha he) fun σ H Q ⟨re,q⟩=>⟨re,fun x H1 s1 r1=>⟨k,aCf r1 h,q H1 s1⟩⟩
theorem ZU {k:Bool} (ha:PT X ea (tTe X.K T S ρ k)):PT X (.UnaryOp .Not ea pos) (tTe X.K T S ρ (!k)):=PT.mono (HB ha) fun σ H Q ⟨re,q⟩=>⟨re,fun H1 s1=>q H1 s1⟩
theorem aFF {k:Bool} (ha:PE X ea (tD X.K T S ρ a)) (h:tru a=some k):PE X (.UnaryOp .Not ea pos) (tD X.K T S ρ (.bl (!k))):=by
 intro pins s σ H Q I ⟨re,q⟩
 refine UnaryOp_ (thn (ha pins s σ H (fun v H'=>aG H H'∧Rep X.K T H' S a v) I ⟨re,fun v H' a b=>⟨a,b⟩⟩) fun v s1 ⟨x,H1,I1,r1,sm,rx⟩=>?_)
 exact not_of (thn (GG pins s1 σ H1 x v (fun b H2=>b=k∧H2=H1) I1 r1 ⟨k,aCf rx h,rfl,rfl⟩) fun b s2 ⟨H2,I2,eb,eH⟩=>by
  subst eb eH
  exact ⟨.bl (!b),H2,I2,rfl,q _ H2 sm bO⟩)
theorem VF {k:Bool} (hc:PT X ec (tTe X.K T S ρ k)) (ha:k=true→PE X ea (tD X.K T S ρ d)) (hb:k=false→PE X eb (tD X.K T S ρ d)):PE X (.IfExp ec ea eb pos) (tD X.K T S ρ d):=by
 cases k with
 | true =>
  refine PE.mono (vF hc (ha rfl) (tb:=fun _ _ _=>False) (fun _ _ _ _ _ _ h=>h.elim)) fun σ H Q ⟨re,q⟩=>⟨re,fun H1 s1=>?_⟩
  exact EV ⟨re.same s1,fun v H' s2 r=>q v H' (s1.trans s2) r⟩
 | false =>
  refine PE.mono (vF hc (ta:=fun _ _ _=>False) (fun _ _ _ _ _ _ h=>h.elim) (hb rfl)) fun σ H Q ⟨re,q⟩=>⟨re,fun H1 s1=>?_⟩
  exact pG ⟨re.same s1,fun v H' s2 r=>q v H' (s1.trans s2) r⟩
theorem IJ:PA X [] (tAs X.K T S ρ []):=PA.mono eY fun σ H Q ⟨re,q⟩=>q [] H (aG.refl H) aD.nil
theorem yC {es:List Expr} {ds:List D} (ha:PE X ea (tD X.K T S ρ a)) (hr:PA X es (tAs X.K T S ρ ds)) (hs:starEach (ea::es) X.env=(false,eval ea X.env)::starEach es X.env):PA X (ea::es) (tAs X.K T S ρ (a::ds)):=
 PA.mono (bB ha hr hs) fun σ H Q ⟨re,q⟩=>⟨re,fun x H1 s1 r1=>⟨re.same s1,fun xs H2 s2 r2=>q _ H2 (s1.trans s2) (aD.cons (r1.same s2) r2)⟩⟩
theorem aFz {es:List Expr} {ds:List D} {x1:Nat} (h:PA X es (tAs X.K T S ρ ds)) (hl:ds.length≤sizeLine):PE X (.Tuple es x1 pos) (tD X.K T S ρ (.tup ds)):=
 PE.mono (YU h) fun σ H Q ⟨re,q⟩=>⟨re,fun xs H1 s1 r1=>⟨by rw [← r1.len]; exact hl,fun p hp=>q _ _ (s1.trans (aG.upd hp)) (fX (re.same s1).dom hp r1)⟩⟩
theorem aFI {es:List Expr} {ds:List D} (h:PA X es (tAs X.K T S ρ ds)) (hl:ds.length≤sizeLine):PE X (.List es pos) (tNw X.K T S ρ ds):=
 PE.mono (xX h) fun σ H Q ⟨re,q⟩=>⟨re,fun xs H1 s1 r1=>⟨by rw [← r1.len]; exact hl,fun p hp=>q _ _ _ (s1.trans (aG.upd hp)) (s1.free hp) aJ (by rw [hV hp]; exact r1)⟩⟩
theorem IK {e:Expr} {ds:List D} (h:PE X e (tNw X.K T S ρ ds)):PE X e (tD X.K T S ρ (.lst ds)):=
 PE.mono h fun σ H Q ⟨re,q⟩=>⟨re,fun p xs H' sm hp hp' r=>q _ H' sm (by unfold Rep; exact ⟨p,xs,rfl,re.nS hp,hp',r.er⟩)⟩
theorem nD {K:PySem.W.Frag} {H:Hp} {ds:List D} {xs:List V} {i:Int} (r:aD K T H S ds xs) (h:atI ds i=some d):∃ x,L2.atI xs i=some x∧Rep K T H S d x:=by
 unfold atI at h
 unfold L2.atI
 rw [Option.bind_eq_some_iff] at h
 obtain ⟨j,h1,h2⟩:=h
 obtain ⟨x,e,rx⟩:=r.get h2
 have h1':L2.ixN xs.length i=some j:=by rw [← r.len]; exact h1
 exact ⟨x,by rw [h1']; exact e,rx⟩
theorem QU {i:Int} {ds:List D} (hc:a=.lst ds∨a=.tup ds∨a=.frz ds) (hd:atI ds i=some d):∀ σ H Q,tD X.K T S ρ d σ H Q→tOp (rIx X.K) (tD X.K T S ρ a) (tD X.K T S ρ (.int i)) σ H Q:=fun σ H Q ⟨re,q⟩ =>
 ⟨re,fun x H1 s1 r1=>⟨re.same s1,fun y H2 s2 r2=>by
  have r1':=r1.same s2
  unfold Rep at r2
  rcases hc with rfl|rfl|rfl
  ·unfold Rep at r1'
   obtain ⟨p,xs,ex,_,e,rl⟩:=r1'
   obtain ⟨v,e1,rv⟩:=nD rl hd
   exact .inl ⟨p,xs,i,v,ex,r2,SqL.of e,e1,q v H2 (s1.trans s2) rv⟩
  ·unfold Rep at r1'
   obtain ⟨p,xs,ex,_,e,rl⟩:=r1'
   obtain ⟨v,e1,rv⟩:=nD rl hd
   exact .inr (.inl ⟨p,xs,i,v,ex,r2,e,e1,q v H2 (s1.trans s2) rv⟩)
  ·unfold Rep at r1'
   obtain ⟨p,xs,ex,_,e,rl⟩:=r1'
   obtain ⟨v,e1,rv⟩:=nD rl hd
   exact .inl ⟨p,xs,i,v,ex,r2,e,e1,q v H2 (s1.trans s2) rv⟩⟩⟩
theorem ZX {i:Int} {ds:List D} (ha:PE X ea (tD X.K T S ρ a)) (hb:PE X eb (tD X.K T S ρ (.int i))) (hp:kZ eb) (hc:a=.lst ds∨a=.tup ds∨a=.frz ds) (hd:atI ds i=some d):PE X (.Subscript ea eb pos) (tD X.K T S ρ d):=
 PE.mono (HG JE ha hb hp) (QU hc hd)
theorem iY {i:Nat} {ds:List D} {σ:L2.St} {H:Hp} (re:RE X.K T H S ρ σ) (h:eT ρ i=some ds):∃ p xs,σ[i]?=some (some (.ref p))∧H p=some (.lst xs)∧aD X.K T H S ds xs:=by
 unfold eT at h
 split at h
 ·rename_i e
  cases h
  obtain ⟨v,e1,r⟩:=re.at_ i _ e
  unfold Rep at r
  obtain ⟨p,xs,rfl,_,e2,rl⟩:=r
  exact ⟨p,xs,e1,e2,rl⟩
 ·rename_i e
  cases h
  obtain ⟨p,ob,e1,_,e2,rm⟩:=re.at_ i _ e
  obtain ⟨xs,rfl,rl⟩:=rm.lst
  exact ⟨p,xs,e1,e2,rl⟩
 ·cases h
theorem aFJ (h:XC CX X c G T lv) {x:Str} {p2:Pos} {j:Nat} {i:Int} {ds:List D} (e:bT c x=some j) (hb:PE X eb (tD X.K T S ρ (.int i))) (hp:kZ eb) (hs:eT ρ j=some ds) (hd:atI ds i=some d):PE X (.Subscript (.Name x p2) eb pos) (tD X.K T S ρ d):=
 PE.mono (HG JE (kM h e) hb hp) fun σ H Q ⟨re,q⟩=>by
  obtain ⟨p,xs,e1,e2,rl⟩:=iY re hs
  refine ⟨.ref p,e1,re,fun y H2 s2 r2=>?_⟩
  unfold Rep at r2
  obtain ⟨v,e3,rv⟩:=nD (rl.same s2) hd
  exact .inl ⟨p,xs,i,v,rfl,r2,SqL.of (s2 _ _ e2),e3,q v H2 s2 rv⟩
theorem nC {K:PySem.W.Frag} {H:Hp} {ds:List D} {xs:List V} {lo hi:Option Int} (r:aD K T H S ds xs):aD K T H S (cut ds lo hi) (wK xs lo hi):=by
 unfold cut wK
 rw [r.len]
 exact (r.drop _).take _
noncomputable def tPt (K:PySem.W.Frag) (T:Tx) (S:Addr→Prop) (ρ:List Sl) (o:Option Int):TO:=fun σ H Q=>RE K T H S ρ σ∧∀ H',aG H H'→Q o H'
theorem aFE:PO X none (tPt X.K T S ρ none):=fun pins s σ H Q I ⟨re,q⟩=>PB pins s σ H Q I (q H (aG.refl H))
theorem aFD {i:Int} (ha:PE X ea (tD X.K T S ρ (.int i))):PO X (some ea) (tPt X.K T S ρ (some i)):=fun pins s σ H Q I ⟨re,q⟩=>OZ ha pins s σ H Q I ⟨re,fun v H' sm r=>by
 unfold Rep at r
 exact ⟨i,r,q H' sm⟩⟩
theorem VE {lo hi:Option Expr} {l h:Option Int} {p2:Pos} {ds:List D} (ha:PE X ea (tD X.K T S ρ a)) (hl:PO X lo (tPt X.K T S ρ l)) (hh:PO X hi (tPt X.K T S ρ h)) (hc:a=.lst ds∨a=.frz ds):PE X (.Subscript ea (.Slice lo hi none p2) pos) (tNw X.K T S ρ (cut ds l h)):=
 PE.mono (nQ zT ha hl hh) fun σ H Q ⟨re,q⟩=>⟨re,fun x H1 s1 r1=>⟨re.same s1,fun H2 s2=>⟨(re.same s1).same s2,fun H3 s3=>by
  have r1':=(r1.same s2).same s3
  have sm:=s1.trans (s2.trans s3)
  rcases hc with rfl|rfl
  ·unfold Rep at r1'
   obtain ⟨p,xs,ex,_,e,rl⟩:=r1'
   exact ⟨p,xs,ex,SqL.of e,fun p hp=>q _ _ _ (sm.trans (aG.upd hp)) (sm.free hp) aJ (by rw [hV hp]; exact nC rl)⟩
  ·unfold Rep at r1'
   obtain ⟨p,xs,ex,_,e,rl⟩:=r1'
   exact ⟨p,xs,ex,e,fun p hp=>q _ _ _ (sm.trans (aG.upd hp)) (sm.free hp) aJ (by rw [hV hp]; exact nC rl)⟩⟩⟩⟩
theorem aFC {lo hi:Option Expr} {l h:Option Int} {p2:Pos} {ds:List D} (ha:PE X ea (tD X.K T S ρ (.tup ds))) (hl:PO X lo (tPt X.K T S ρ l)) (hh:PO X hi (tPt X.K T S ρ h)) (hw:¬ (sIx ds.length 0 l=0∧sIx ds.length ds.length h=ds.length)) :
  PE X (.Subscript ea (.Slice lo hi none p2) pos) (tD X.K T S ρ (.tup (cut ds l h))):=
 PE.mono (nQ XY ha hl hh) fun σ H Q ⟨re,q⟩=>⟨re,fun x H1 s1 r1=>⟨re.same s1,fun H2 s2=>⟨(re.same s1).same s2,fun H3 s3=>by
  have r1':=(r1.same s2).same s3
  have sm:=s1.trans (s2.trans s3)
  have re3:=((re.same s1).same s2).same s3
  unfold Rep at r1'
  obtain ⟨p,xs,ex,_,e,rl⟩:=r1'
  exact ⟨p,xs,ex,e,by rw [← rl.len]; exact hw,fun p hp=>q _ _ (sm.trans (aG.upd hp)) (fX re3.dom hp (nC rl))⟩⟩⟩⟩
theorem aFB (h:XC CX X c G T lv) {x:Str} {p3:Pos} {j:Nat} {lo hi:Option Expr} {l u:Option Int} {p2:Pos} {ds:List D} (e:bT c x=some j) (hs:eT ρ j=some ds) (hl:PO X lo (tPt X.K T S ρ l)) (hh:PO X hi (tPt X.K T S ρ u)) :
  PE X (.Subscript (.Name x p3) (.Slice lo hi none p2) pos) (tNw X.K T S ρ (cut ds l u)):=
 PE.mono (nQ zT (kM h e) hl hh) fun σ H Q ⟨re,q⟩=>by
  obtain ⟨p,xs,e1,e2,rl⟩:=iY re hs
  refine ⟨.ref p,e1,re,fun H2 s2=>⟨re.same s2,fun H3 s3=>?_⟩⟩
  have sm:=s2.trans s3
  exact ⟨p,xs,rfl,SqL.of (s3 _ _ (s2 _ _ e2)),fun p hp=>q _ _ _ (sm.trans (aG.upd hp)) (sm.free hp) aJ (by rw [hV hp]; exact nC ((rl.same s2).same s3))⟩
theorem aFN (h:XC CX X c G T lv) {cn f:Str} {fs:List (Str × D)} (ha:PE X ea (tD X.K T S ρ (.obj cn fs))) (hb:attributeBase ea f X.env (eval ea X.env)=eval ea X.env) (hf:(G.fl cn).contains f=true) (hd:fs.lookup f=some d):PE X (.Attribute ea f pos) (tD X.K T S ρ d):=
 PE.mono (YZ ha hb) fun σ H Q ⟨re,q⟩=>⟨re,fun x H1 s1 r1=>by
  unfold Rep at r1
  obtain ⟨p,C,dx,gs,ex,_,ec,e,rf⟩:=r1
  obtain ⟨v,e1,rv⟩:=(bX.look rf).1 d hd
  exact ⟨p,C,dx,gs,v,ex,e,h.go.cls cn C ec,h.go.fld cn C f ec hf,e1,q v H1 s1 rv⟩⟩
theorem rX (h:XC CX X c G T lv):fT CX X E0:=fun _ _ H s e s' _ z=>(h.go.cx0 _ H s e s' z).elim
theorem pR {e:Expr} {es:List Expr} (hs:starEach (e::es) X.env=(e::es).map fun e=>(false,eval e X.env)):starEach (e::es) X.env=(false,eval e X.env)::starEach es X.env∧(backTo pos (starEach es X.env)).any (·.1)=false:=by
 have h2:starEach (e::es) X.env=(false,eval e X.env)::starEach es X.env:=by
  cases e<;>first|rfl|(simp [starEach] at hs)
 have h3:starEach es X.env=es.map fun e=>(false,eval e X.env):=by
  have:=congrArg List.tail (h2.symm.trans hs)
  simpa using this
 refine ⟨h2,?_⟩
 rw [h3]
 clear h2 h3 hs
 induction es with
 | nil=>rfl
 | cons a r ih=>exact ih
theorem ZZ (h:XC CX X c G T lv) {x:Str} {es:List Expr} {ds:List D} {p:Pos} (hg:aX c x=true) (hf:c.fns.contains x=true) (ha:PA X es (tAs X.K T S ρ ds)) (hs:starEach es X.env=es.map fun e=>(false,eval e X.env)) (hlen:ds.length=es.length) (hd:G.fn x ds=some (.ok d)) :
  PE X (.Call (.Name x p) es [] pos) (fun σ H Q=>RE X.K T H S ρ σ∧∀ v H1 H',aG H H1→aG H1 H'→Rep X.K T H' S d v→(G.ff x=true→qW X.K T S H1 H' d v)→Q v H'):=by
 obtain ⟨f,fd,ps,hm,hk,hb,hl,F⟩:=h.go.fn x hf
 have key:∀ σ H Q,(RE X.K T H S ρ σ∧∀ v H1 H',aG H H1→aG H1 H'→Rep X.K T H' S d v→(G.ff x=true→qW X.K T S H1 H' d v)→Q v H')→uU (spD X.K T ps.length (G.fn x) (G.ff x)) [] E0 (tAs X.K T S ρ ds) σ H Q:=fun σ H Q ⟨re,q⟩ =>
  ⟨re,fun vs H1 s1 r1=>⟨by rw [List.append_nil,← r1.len]; exact hl ds _ hd,S,ds,(re.same s1).dom,by rw [List.append_nil]; exact r1,.inl ⟨d,hd,fun v H' s2 r2 fr=>q v H1 H' s1 s2 r2 fr⟩⟩⟩
 cases es with
 | nil =>
  refine PE.mono (vH F h.room (h.glob hg) hm hk hb .nil (rX h) (h.gne hg)) fun σ H Q hq=>?_
  obtain ⟨re,q⟩:=hq
  have hds:ds=[]:=List.length_eq_zero_iff.mp hlen
  subst hds
  exact (key σ H Q ⟨re,q⟩).2 [] H (aG.refl H) aD.nil
 | cons e es =>
  obtain ⟨h1,h2⟩:=pR (pos:=pos) hs
  exact PE.mono (AC F h.room (h.glob hg) hm hk hb .nil (rX h) ha (h.gne hg) h1 h2) key
end
end Z
namespace Z
open PySem PySem.Spec PyProof.Rows L2
section
variable {CX:CXT}{X:Cx}{c:CC}{G:GS}{T:Tx}{lv:Nat}{ρ:List Sl}{S:Addr→Prop}{pos:Pos}{ea eb ec:Expr}{a b d:D}
def pA (X:Cx) (o:Expr) (m:Str) (args:List Expr) (apos pos:Pos):Prop:=∃ pl:Sem Bool,eval (.Call (.Attribute o m apos) args [] pos) X.env=(do
   let ov ← eval o X.env
   standAt apos.atName
   let (f,first) ← holding [ov] (getMethod ov m pl)
   callWith pos f first (backTo pos (starEach args X.env)) (backToKw pos (keywordEach [] X.env)))
theorem ZV (h:XC CX X c G T lv) {m cn:Str} {fs:List (Str × D)} {es:List Expr} {ds:List D} {apos:Pos} (ht:pA X ea m es apos pos) (ho:PE X ea (tD X.K T S ρ (.obj cn fs))) (hn:fs.lookup m=none)
  (ha:PA X es (tAs X.K T S ρ ds)) (hs:starEach es X.env=es.map fun e=>(false,eval e X.env)) (hlen:ds.length=es.length) (hd:G.me cn m (.obj cn fs::ds)=some (.ok d)) :
  PE X (.Call (.Attribute ea m apos) es [] pos) (fun σ H Q=>RE X.K T H S ρ σ∧∀ v H1 H',aG H H1→aG H1 H'→Rep X.K T H' S d v→(G.mf cn m=true→qW X.K T S H1 H' d v)→Q v H'):=by
 obtain ⟨pl,ht⟩:=ht
 intro pins s σ H Q I ⟨re,q⟩
 refine PySem.W.methodCall_KW (pl:=pl) (thn (ho pins s σ H (fun v H'=>aG H H'∧Rep X.K T H' S (.obj cn fs) v) I ⟨re,fun v H' a b=>⟨a,b⟩⟩) fun u s1 ⟨x,H1,I1,rx,sm,ro⟩=>?_) ht
 have ro':=ro
 unfold Rep at ro
 obtain ⟨p,C,dx,gs,ex,_,ec,e,rf⟩:=ro
 subst ex
 obtain rfl:u=Value.ref p:=rx
 obtain ⟨f,fd,ps,hm,hb,hl,F⟩:=h.go.me cn C m _ _ ec hd
 refine oE I1 e (h.go.cls cn C ec) hm ((bX.look rf).2 hn) ?_
 have fin:∀ (us:List Value) (vs:List V) (s2:Shared) (H2:Hp),Inv X pins σ H2 s2→aS vs us→aG H1 H2→aD X.K T H2 S ds vs→wpAny (model X.prog X.w) X.A (call (.ref f) (.ref p::us)) (EP X pins σ Q) X.xe s2:=fun us vs s2 H2 I2 r2 s12 rl=>by
  refine rQ (us:=.ref p::us) (vs:=.ref p::vs) (dvs:=[]) (ds:=[]) (E:=E0) F h.room hb .nil (rX h) I2 (.cons rfl r2) ?_
  refine ⟨?_,S,.obj cn fs::ds,((re.same sm).same s12).dom,?_,.inl ⟨d,hd,fun v H' s3 r3 fr=>q v H2 H' (sm.trans s12) s3 r3 fr⟩⟩
  ·have:=hl _ _ hd
   simp only [List.append_nil,List.length_cons] at this ⊢
   rw [← rl.len]; exact this
  ·rw [List.append_nil]
   exact aD.cons (ro'.same s12) rl
 cases es with
 | nil =>
  have hds:ds=[]:=List.length_eq_zero_iff.mp hlen
  subst hds
  exact PySem.W.callWith_K0 (first:=[.ref p]) I1.kIn hm.kp (fin [] [] s1 H1 I1 .nil (aG.refl _) aD.nil)
 | cons e es =>
  obtain ⟨h1,h2⟩:=pR (pos:=pos) hs
  refine PySem.W.callWith_K (first:=[.ref p]) (h₀:=X.base) I.ok.mod.kin hm.kp (thn (ha pos pins s1 σ H1 (fun vs H'=>aG H1 H'∧aD X.K T H' S ds vs) I1 ⟨re.same sm,fun vs H' a b=>⟨a,b⟩⟩) fun us s2 ⟨vs,H2,I2,r,s12,rl⟩=>⟨I2.kIn,?_⟩) h1 h2
  exact fin us vs s2 H2 I2 r s12 rl
theorem DX {CX:CXT} {k:Nat} {f C:Addr} {fd:FuncData} {ps:List Str} {sp:Sp} {E:XK} {pins:List (Addr × Obj)} {σ:L2.St} {H:Hp} {s:Shared} {Q:VK} {us:List Value} {vs:List V} (M:Mk X.K C f) (F:FnOk X.prog X.w X.K X.mg X.base CX k f fd ps sp) (hr:Room (k+1) X.A) (hb:Binds X.K fd ps [])
  (hx:fT CX X E) (I:Inv X pins σ H s) (r:aS vs us)
  (h:∀ x dx,H x=none→H dx=none→dx≠x→X.K.lookup x=none→X.K.lookup dx=none→sp (.ref x::vs) (upd (upd H dx (.own x)) x (.ins C dx [])) (fun v H2=>v=.non∧Q (.ref x) H2) E) :
  wpAny (model X.prog X.w) X.A (call (.ref C) us) (EP X pins σ Q) X.xe s:=by
 have nk:∀ a,s.heap.objs.size≤a→X.K.lookup a=none:=fun a ha=>by
  cases q:X.K.lookup a with
  | none=>rfl
  | some o=>exact absurd (Heap.lt_size (I.kIn a o q)) (Nat.not_lt.mpr ha)
 have hq:=h (s.heap.objs.size+1) s.heap.objs.size (I.hok.fresh (Nat.le_succ _)) (I.hok.fresh (Nat.le_refl _)) (Nat.ne_of_lt (Nat.lt_succ_self _)) (nk _ (Nat.le_succ _)) (nk _ (Nat.le_refl _))
 have I2:=Inv.made (C:=C) I
 have r2:aS (V.ref (s.heap.objs.size+1)::vs) (Value.ref (s.heap.objs.size+1)::us):=.cons rfl r
 have hl:(Value.ref (s.heap.objs.size+1)::us++[]).length=ps.length:=by
  have e:=r2.length
  rw [F.len _ _ _ _ hq] at e
  rw [List.append_nil]
  exact e.symm
 refine wpAny_call (IP (f:=f) I.kIn M.makes M.init (beq_iff_eq.mp M.fn) (codeAny_mono (F.run _ X.stack _ _ ⟨Value.ref (s.heap.objs.size+1)::us,[]⟩ (Value.ref (s.heap.objs.size+1)::us) _ _ E (hr.make C us [])
  (I2.env0.make C us []) (by have:=hb _ (Value.ref (s.heap.objs.size+1)::us) I2.kIn hl; rw [List.append_nil] at this; exact this) r2 hq) fun r s' hq'=>?_))
 cases r with
 | error e=>exact hx pins σ _ _ e s' I2 hq'
 | ok fl =>
  cases fl with
  | ret u =>
   obtain ⟨v,H',I3,rv,ev,q3⟩:=I2.after hq'
   subst ev
   exact ⟨rv,⟨V.ref (s.heap.objs.size+1),H',I3,rfl,q3⟩⟩
  | next=>exact False.elim hq'
  | brk=>exact False.elim hq'
  | cont=>exact False.elim hq'
theorem aJl (h:XC CX X c G T lv) {x:Str} {es:List Expr} {ds:List D} {p:Pos} (hg:aX c x=true) (hf:c.cls.contains x=true) (ha:PA X es (tAs X.K T S ρ ds)) (hs:starEach es X.env=es.map fun e=>(false,eval e X.env)) (hlen:ds.length=es.length) (hd:G.mo x ds=some (.ok d)) :
  PE X (.Call (.Name x p) es [] pos) (tD X.K T S ρ d):=by
 obtain ⟨C,f,fd,ps,j,hj,hm,M,hb,hl,F⟩:=h.go.mo x hf ds d hd
 have fin:∀ (pins:List (Addr × Obj)) (σ:L2.St) (H:Hp) (Q:VK) (us:List Value) (vs:List V) (s2:Shared) (H2:Hp),RE X.K T H S ρ σ→(∀ v H',aG H H'→Rep X.K T H' S d v→Q v H')→Inv X pins σ H2 s2→aS vs us→aG H H2→aD X.K T H2 S ds vs→wpAny (model X.prog X.w) X.A (call (.ref C) us) (EP X pins σ Q) X.xe s2:=fun pins σ H Q us vs s2 H2 re q I2 r2 s12 rl=>by
  refine DX (E:=E0) M F (h.room.mono hj) hb (rX h) I2 r2 fun y dx hy hdx ne ky kdx=>?_
  have dom2:=(re.same s12).dom
  have m1:aO X.K H2 (upd H2 dx (.own y)) S S:=fun a n _=>⟨n,fun o e=>by rw [aM (bC e hdx)]; exact e⟩
  have hy1:(upd H2 dx (.own y)) y=none:=by rw [aM (Ne.symm ne)]; exact hy
  have m2:=aO.add (S:=S) (o:=.ins C dx []) hy1 ky
  refine ⟨by simp only [List.length_cons]; rw [← rl.len]; exact hl,y,dx,vs,(fun a=>S a∨a=y),ds,d,rfl,aJ,.inr rfl,fun a hs=>?_,aD.gen m2 _ _ (aD.gen m1 _ _ rl),hd,fun H' kp rp=>⟨rfl,q _ H' ?_ (rp S fun a ha=>⟨.inl ha,?_⟩)⟩⟩
  ·rcases hs with z|z
   ·obtain ⟨o,e⟩:=dom2 a z
    exact ⟨o,by rw [aM (bC e hy),aM (bC e hdx)]; exact e⟩
   ·subst z; exact ⟨_,aJ⟩
  ·intro b o e
   have e2:=s12 b o e
   refine kp b o (bC e2 hy) ?_
   rw [aM (bC e2 hy),aM (bC e2 hdx)]
   exact e2
  ·intro z
   subst z
   obtain ⟨o,e⟩:=dom2 a ha
   rw [hy] at e; cases e
 cases es with
 | nil =>
  have hds:ds=[]:=List.length_eq_zero_iff.mp hlen
  subst hds
  intro pins s σ H Q I ⟨re,q⟩
  refine wpAny_Call_Name_kw (eO I (h.glob hg) hm ?_ (h.gne hg))
  exact PySem.W.callWith_K0 I.kIn M.kp (fin pins σ H Q [] [] s H re q I .nil (aG.refl _) aD.nil)
 | cons e es =>
  obtain ⟨h1,h2⟩:=pR (pos:=pos) hs
  intro pins s σ H Q I ⟨re,q⟩
  refine wpAny_Call_Name_kw (eO I (h.glob hg) hm ?_ (h.gne hg))
  refine PySem.W.callWith_K (h₀:=X.base) I.ok.mod.kin M.kp (thn (ha pos pins s σ H (fun vs H'=>aG H H'∧aD X.K T H' S ds vs) I ⟨re,fun vs H' a b=>⟨a,b⟩⟩) fun us s1 ⟨vs,H1,I1,r,sm,rl⟩=>⟨I1.kIn,?_⟩) h1 h2
  exact fin pins σ H Q us vs s1 H1 re q I1 r sm rl
noncomputable def rBf (K:PySem.W.Frag) (T:Tx) (S:Addr→Prop) (g:List D→Option D):List V→Hp→VK→Prop:=fun xs H Q =>
 ∃ ds d,(∀ a,S a→∃ o,H a=some o)∧aD K T H S ds xs∧g ds=some d∧∀ v H',aG H H'→Rep K T H' S d v→Q v H'
theorem rep1 {K:PySem.W.Frag} {H:Hp} {xs:List V} (r:aD K T H S [a] xs):∃ x,xs=[x]∧Rep K T H S a x:=by
 unfold aD at r
 obtain ⟨x,r',rfl,rx,rr⟩:=r
 unfold aD at rr
 subst rr
 exact ⟨x,rfl,rx⟩
theorem rep2 {K:PySem.W.Frag} {H:Hp} {xs:List V} (r:aD K T H S [a,b] xs):∃ x y,xs=[x,y]∧Rep K T H S a x∧Rep K T H S b y:=by
 unfold aD at r
 obtain ⟨x,r',rfl,rx,rr⟩:=r
 obtain ⟨y,rfl,ry⟩:=rep1 rr
 exact ⟨x,y,rfl,rx,ry⟩
theorem dG {K:PySem.W.Frag} {H:Hp} {i:Int}:Rep K T H S (.int i) (.int i):=by unfold Rep; rfl
theorem aGw:eC X (.builtin "len") (rBf X.K T S RN):=by
 rintro pins s σ H xs us Q I r ⟨ds,d,dom,rl,e,q⟩
 unfold RN at e
 split at e
 ·obtain ⟨x,rfl,rx⟩:=rep1 rl
  cases e
  unfold Rep at rx
  obtain ⟨p,ys,rfl,_,hq,ry⟩:=rx
  exact fJ pins s σ H _ us Q I r ⟨p,ys,rfl,.inl (SqL.of hq),by rw [← ry.len]; exact q _ H (aG.refl H) dG⟩
 ·obtain ⟨x,rfl,rx⟩:=rep1 rl
  cases e
  unfold Rep at rx
  obtain ⟨p,ys,rfl,_,hq,ry⟩:=rx
  exact fJ pins s σ H _ us Q I r ⟨p,ys,rfl,.inr hq,by rw [← ry.len]; exact q _ H (aG.refl H) dG⟩
 ·obtain ⟨x,rfl,rx⟩:=rep1 rl
  cases e
  unfold Rep at rx
  obtain ⟨p,ys,rfl,_,hq,ry⟩:=rx
  exact fJ pins s σ H _ us Q I r ⟨p,ys,rfl,.inl hq,by rw [← ry.len]; exact q _ H (aG.refl H) dG⟩
 ·obtain ⟨x,rfl,rx⟩:=rep1 rl
  unfold Rep at rx
  subst rx
  split at e
  ·rename_i hz
   cases e
   exact uD pins s σ H _ us Q I r ⟨_,rfl,Nat.le_trans hz iV,q _ H (aG.refl H) dG⟩
  ·cases e
 ·cases e
theorem aGx:eC X (.type "int") (rBf X.K T S RO):=by
 rintro pins s σ H xs us Q I r ⟨ds,d,dom,rl,e,q⟩
 unfold RO at e
 split at e
 ·obtain ⟨x,rfl,rx⟩:=rep1 rl
  cases e
  unfold Rep at rx
  subst rx
  exact qM pins s σ H _ us Q I r (.inl ⟨_,rfl,q _ H (aG.refl H) dG⟩)
 ·obtain ⟨x,rfl,rx⟩:=rep1 rl
  cases e
  unfold Rep at rx
  subst rx
  exact qM pins s σ H _ us Q I r (.inr ⟨_,rfl,q _ H (aG.refl H) dG⟩)
 ·cases e
noncomputable def rBl (K:PySem.W.Frag) (T:Tx) (S:Addr→Prop):List V→Hp→VK→Prop:=fun xs H Q =>
 ∃ ds es,aD K T H S ds xs∧wB ds=some (.lst es)∧∀ p ys H',aG H H'→H p=none→H' p=some (.lst ys)→aD K T (er H' p) S es ys→Q (.ref p) H'
theorem aAV:eC X (.type "list") (rBl X.K T S):=by
 rintro pins s σ H xs us Q I r ⟨ds,es,rl,e,q⟩
 unfold wB at e
 split at e
 ·obtain ⟨x,rfl,rx⟩:=rep1 rl
  cases e
  unfold Rep at rx
  obtain ⟨p,ys,rfl,_,hq,ry⟩:=rx
  exact hZ pins s σ H _ us Q I r ⟨p,ys,rfl,.inl (SqL.of hq),fun l hl=>q l ys _ (aG.upd hl) hl aJ (by rw [hV hl]; exact ry)⟩
 ·obtain ⟨x,rfl,rx⟩:=rep1 rl
  cases e
  unfold Rep at rx
  obtain ⟨p,ys,rfl,_,hq,ry⟩:=rx
  exact hZ pins s σ H _ us Q I r ⟨p,ys,rfl,.inr hq,fun l hl=>q l ys _ (aG.upd hl) hl aJ (by rw [hV hl]; exact ry)⟩
 ·obtain ⟨x,rfl,rx⟩:=rep1 rl
  cases e
  unfold Rep at rx
  obtain ⟨p,ys,rfl,_,hq,ry⟩:=rx
  exact hZ pins s σ H _ us Q I r ⟨p,ys,rfl,.inl hq,fun l hl=>q l ys _ (aG.upd hl) hl aJ (by rw [hV hl]; exact ry)⟩
 ·cases e
theorem SG:eC X (.type "tuple") (rBf X.K T S tS):=by
 rintro pins s σ H xs us Q I r ⟨ds,d,dom,rl,e,q⟩
 unfold tS at e
 split at e
 ·obtain ⟨x,rfl,rx⟩:=rep1 rl
  cases e
  unfold Rep at rx
  obtain ⟨p,ys,rfl,_,hq,ry⟩:=rx
  exact jR pins s σ H _ us Q I r ⟨p,ys,rfl,.inl ⟨SqL.of hq,fun l hl=>q _ _ (aG.upd hl) (fX dom hl ry)⟩⟩
 ·obtain ⟨x,rfl,rx⟩:=rep1 rl
  cases e
  have rx':=rx
  unfold Rep at rx
  obtain ⟨p,ys,rfl,_,hq,ry⟩:=rx
  exact jR pins s σ H _ us Q I r ⟨p,ys,rfl,.inr ⟨hq,q _ H (aG.refl H) rx'⟩⟩
 ·cases e
theorem lO {K:PySem.W.Frag} {H:Hp}:∀ {ds:List D} {ns:List Int} {ys:List V} {us:List Value},iA ds=some ns→aD K T H S ds ys→aS ys us→IntsAre us ns
 | [],ns,ys,us,h,r,v=>by
  simp only [iA] at h
  cases h
  unfold aD at r
  subst r
  cases v
  exact .nil
 | d::ds,ns,ys,us,h,r,v=>by
  cases d<;>simp only [iA,reduceCtorEq] at h
  rename_i i
  rw [Option.map_eq_some_iff] at h
  obtain ⟨r',h1,rfl⟩:=h
  unfold aD at r
  obtain ⟨x,w,rfl,rx,rr⟩:=r
  unfold Rep at rx
  subst rx
  cases v with
  | cons v1 v2 =>
   obtain ⟨t,rfl⟩:=v1
   exact .cons i t (lO h1 rr v2)
section
variable {prog:Program}{w:World}{A:Around}{E:Value→Shared→Prop}{s:Shared}
theorem yF {l:Addr} {vs:List Value} {ns:List Int} {Q:Value→Shared→Prop} (hh:A.handled=none) (hl:s.heap.IsList l vs.toArray) (hi:IntsAre vs ns) (hne:0<ns.length)
  (h:∀ h' M (t:Tok) tk,(∀ b o,s.heap.get? b=some o→h'.get? b=some o)→M ∈ ns→(∀ a,a ∈ ns→a≤M)→Q (.int M t) { s with heap:=h',toks:=tk }) :
  wpAny (model prog w) A (call (.builtin "max") [.ref l]) Q E s:=by
 obtain ⟨xs,e⟩:=hi.allInts.items
 have hns:ns=xs.toList.map (·.1):=by
  rw [← hi.numsOf,← nums_intItems,← e]
 have hsz:0<xs.size:=by
  have h3:=hne; rw [hns,List.length_map,Array.length_toList] at h3; exact h3
 rw [e] at hl
 refine max_intList hh hl hsz fun v h' tk hv hk=>?_
 obtain ⟨t,rfl⟩:=intItems_at hv
 obtain ⟨h1,h2⟩:=argBest_gt (numAt xs) (xs.size-1)
 refine h _ _ t tk hk ?_ fun a ha=>?_
 ·rw [hns,numAt_eq]; exact getD_mem (by rw [List.length_map,Array.length_toList]; omega)
 ·rw [hns] at ha
  obtain ⟨j,hj,rfl⟩:=mem_getD ha
  rw [List.length_map,Array.length_toList] at hj
  rw [← numAt_eq]; exact h2 j (by omega)
theorem yD {l:Addr} {vs:List Value} {ns:List Int} {Q:Value→Shared→Prop} (hh:A.handled=none) (hl:s.heap.IsList l vs.toArray) (hi:IntsAre vs ns) (hne:0<ns.length)
  (h:∀ h' M (t:Tok) tk,(∀ b o,s.heap.get? b=some o→h'.get? b=some o)→M ∈ ns→(∀ a,a ∈ ns→M≤a)→Q (.int M t) { s with heap:=h',toks:=tk }) :
  wpAny (model prog w) A (call (.builtin "min") [.ref l]) Q E s:=by
 obtain ⟨xs,e⟩:=hi.allInts.items
 have hns:ns=xs.toList.map (·.1):=by
  rw [← hi.numsOf,← nums_intItems,← e]
 have hsz:0<xs.size:=by
  have h3:=hne; rw [hns,List.length_map,Array.length_toList] at h3; exact h3
 rw [e] at hl
 refine min_intList hh hl hsz fun v h' tk hv hk=>?_
 obtain ⟨t,rfl⟩:=intItems_at hv
 obtain ⟨h1,h2⟩:=argBest_lt (numAt xs) (xs.size-1)
 refine h _ _ t tk hk ?_ fun a ha=>?_
 ·rw [hns,numAt_eq]; exact getD_mem (by rw [List.length_map,Array.length_toList]; omega)
 ·rw [hns] at ha
  obtain ⟨j,hj,rfl⟩:=mem_getD ha
  rw [List.length_map,Array.length_toList] at hj
  rw [← numAt_eq]; exact h2 j (by omega)
end
theorem aGu (hc:X.calm=true):eC X (.builtin "max") (rBf X.K T S zC):=by
 rintro pins s σ H xs us Q I r ⟨ds,d,dom,rl,e,q⟩
 unfold zC at e
 split at e
 ·obtain ⟨x,y,rfl,rx,ry⟩:=rep2 rl
  cases e
  unfold Rep at rx ry
  subst rx ry
  exact FT hc pins s σ H _ us Q I r ⟨_,_,rfl,q _ H (aG.refl H) dG⟩
 ·obtain ⟨x,rfl,rx⟩:=rep1 rl
  split at e
  ·rename_i i t he
   cases e
   unfold Rep at rx
   obtain ⟨p,ys,rfl,_,hq,ry⟩:=rx
   obtain ⟨u,rfl,ru⟩:=vals1 r
   cases ru
   obtain ⟨its,rv,pl,hz⟩:=I.list (SqL.of hq)
   have hi:=lO he ry rv
   refine yF (I.ok.hd hc) pl.isList hi (by simp) fun h' M tt tk hk hM hle=>⟨.int M,H,I.kept (t':=tk) hk,⟨_,rfl⟩,?_⟩
   obtain ⟨m1,m2,m3⟩:=jE t i
   have e1:jL i t ∈ i::t:=by
    rcases m1 with z|z
    ·rw [z]; simp
    ·exact List.mem_cons_of_mem _ z
   have e2:M≤jL i t:=by
    rcases List.mem_cons.mp hM with z|z
    ·rw [z]; exact m2
    ·exact m3 M z
   have e3:M=jL i t:=Int.le_antisymm e2 (hle _ e1)
   rw [e3]
   exact q _ H (aG.refl H) dG
  ·cases e
 ·cases e
theorem aGt (hc:X.calm=true):eC X (.builtin "min") (rBf X.K T S JY):=by
 rintro pins s σ H xs us Q I r ⟨ds,d,dom,rl,e,q⟩
 unfold JY at e
 split at e
 ·obtain ⟨x,y,rfl,rx,ry⟩:=rep2 rl
  cases e
  unfold Rep at rx ry
  subst rx ry
  exact FS hc pins s σ H _ us Q I r ⟨_,_,rfl,q _ H (aG.refl H) dG⟩
 ·obtain ⟨x,rfl,rx⟩:=rep1 rl
  split at e
  ·rename_i i t he
   cases e
   unfold Rep at rx
   obtain ⟨p,ys,rfl,_,hq,ry⟩:=rx
   obtain ⟨u,rfl,ru⟩:=vals1 r
   cases ru
   obtain ⟨its,rv,pl,hz⟩:=I.list (SqL.of hq)
   have hi:=lO he ry rv
   refine yD (I.ok.hd hc) pl.isList hi (by simp) fun h' M tt tk hk hM hle=>⟨.int M,H,I.kept (t':=tk) hk,⟨_,rfl⟩,?_⟩
   obtain ⟨m1,m2,m3⟩:=lL t i
   have e1:mM i t ∈ i::t:=by
    rcases m1 with z|z
    ·rw [z]; simp
    ·exact List.mem_cons_of_mem _ z
   have e2:mM i t≤M:=by
    rcases List.mem_cons.mp hM with z|z
    ·rw [z]; exact m2
    ·exact m3 M z
   have e3:M=mM i t:=Int.le_antisymm (hle _ e1) e2
   rw [e3]
   exact q _ H (aG.refl H) dG
  ·cases e
 ·cases e
end
end Z
namespace Z
open PySem PySem.Spec PyProof.Rows L2
section
variable {CX:CXT}{X:Cx}{c:CC}{G:GS}{T:Tx}{lv:Nat}{ρ:List Sl}{S:Addr→Prop}{pos:Pos}{ea eb ec:Expr}{a b d:D}
noncomputable def tyn:D→Option String
 | .non=>some "NoneType"
 | .bl _=>some "bool"
 | .int _=>some "int"
 | .str _=>some "str"
 | .lst _=>some "list"
 | .tup _=>some "tuple"
 | _=>none
theorem JH {pins:List (Addr × Obj)} {σ:L2.St} {H:Hp} {s:Shared} {A:Around} {E:Value→Shared→Prop} {Q:Value→Shared→Prop} {x:V} {u c:Value} {tn:String} {k:Bool} (I:Inv X pins σ H s) (rx:RelV x u) (rep:Rep X.K T H S d x) (ht:tyn d=some tn)
  (e:PySem.W.kitOne X.K (.type tn) c=some k) (h:∀ tk,Q (.bool k) { s with toks:=tk }):wpAny (model X.prog X.w) A (call (.builtin "isinstance") [u,c]) Q E s:=by
 cases d<;>simp only [tyn,reduceCtorEq,Option.some.injEq] at ht
 all_goals subst ht
 ·unfold Rep at rep; subst rep; exact gM I rx (.non) e h
 ·unfold Rep at rep; subst rep; exact gM I rx (.bl _) e h
 ·unfold Rep at rep; subst rep; exact gM I rx (.int _) e h
 ·unfold Rep at rep; subst rep; exact gM I rx (.str _) e h
 ·unfold Rep at rep
  obtain ⟨p,xs,rfl,_,hq,_⟩:=rep
  exact gM I rx (.lst hq) e h
 ·unfold Rep at rep
  obtain ⟨p,xs,rfl,_,hq,_⟩:=rep
  obtain rfl:u=Value.ref p:=rx
  obtain ⟨its,rv,⟨o,h1,h2,_⟩,_⟩:=I.tuple hq
  exact PySem.W.kia_one PySem.W.kitx_tuple I.kIn ⟨o,h1,h2⟩ e (fun z=>nomatch z) h
theorem gN (K:PySem.W.Frag):∀ (t n:String),(t,n) ∈ ([("NoneType","int"),("NoneType","bool"),("NoneType","str"),("NoneType","list"),("NoneType","tuple"),("bool","str"),("bool","list"),("bool","tuple"),("int","bool"),("int","str"),("int","list"),("int","tuple"),
  ("str","int"),("str","bool"),("str","list"),("str","tuple"),("list","int"),("list","bool"),("list","str"),("list","tuple"),("tuple","int"),("tuple","bool"),("tuple","str"),("tuple","list")]:List (String × String))→PySem.W.kitOne K (.type t) (.type n)=some false:=by
 intro t n h
 simp only [List.mem_cons,Prod.mk.injEq,List.not_mem_nil,or_false] at h
 rcases h with ⟨rfl,rfl⟩|⟨rfl,rfl⟩|⟨rfl,rfl⟩|⟨rfl,rfl⟩|⟨rfl,rfl⟩|⟨rfl,rfl⟩|⟨rfl,rfl⟩|⟨rfl,rfl⟩|⟨rfl,rfl⟩|⟨rfl,rfl⟩|⟨rfl,rfl⟩|⟨rfl,rfl⟩|⟨rfl,rfl⟩|⟨rfl,rfl⟩|⟨rfl,rfl⟩|⟨rfl,rfl⟩|⟨rfl,rfl⟩|⟨rfl,rfl⟩|⟨rfl,rfl⟩|⟨rfl,rfl⟩|⟨rfl,rfl⟩|⟨rfl,rfl⟩|⟨rfl,rfl⟩|⟨rfl,rfl⟩<;>kernel_rfl
theorem JI (K:PySem.W.Frag):PySem.W.kitOne K (.type "bool") (.type "int")=some true:=by kernel_rfl
theorem iO (K:PySem.W.Frag) (t:String):PySem.W.kitOne K (.type t) (.type t)=some true:=by
 unfold PySem.W.kitOne
 rw [if_pos (by simp)]
theorem XB:¬ (("bool":Str) = "int")∧¬ (("str":Str) = "int")∧¬ (("list":Str) = "int")∧¬ (("tuple":Str) = "int")∧¬ (("int":Str) = "bool")∧¬ (("str":Str) = "bool")∧¬ (("list":Str) = "bool")∧¬ (("tuple":Str) = "bool") ∧
  ¬ (("int":Str) = "str")∧¬ (("bool":Str) = "str")∧¬ (("list":Str) = "str")∧¬ (("tuple":Str) = "str")∧¬ (("int":Str) = "list")∧¬ (("bool":Str) = "list")∧¬ (("str":Str) = "list")∧¬ (("tuple":Str) = "list") ∧
  ¬ (("int":Str) = "tuple")∧¬ (("bool":Str) = "tuple")∧¬ (("str":Str) = "tuple")∧¬ (("list":Str) = "tuple"):=by decide +kernel
theorem aAq {t:Str} {k:Bool} {tn:String} (K:PySem.W.Frag) (ht:iX.contains t=true) (hd:tyn d=some tn) (h:iP G t d=some k):∃ n:String,bootBuiltins t=some (.type n)∧PySem.W.kitOne K (.type tn) (.type n)=some k:=by
 obtain ⟨n1,n2,n3,n4,n5,n6,n7,n8,n9,n10,n11,n12,n13,n14,n15,n16,n17,n18,n19,n20⟩:=XB
 have ht':t = "int"∨t = "bool"∨t = "str"∨t = "list"∨t = "tuple":=by
  simpa [iX] using ht
 have b1:bootBuiltins "int" = some (.type "int"):=by decide +kernel
 have b2:bootBuiltins "bool" = some (.type "bool"):=by decide +kernel
 have b3:bootBuiltins "str" = some (.type "str"):=by decide +kernel
 have b4:bootBuiltins "list" = some (.type "list"):=by decide +kernel
 have b5:bootBuiltins "tuple" = some (.type "tuple"):=by decide +kernel
 rcases ht' with rfl|rfl|rfl|rfl|rfl<;>cases d<;>simp only [tyn,reduceCtorEq,Option.some.injEq] at hd
 all_goals subst hd
 all_goals simp only [iP,n1,n2,n3,n4,n5,n6,n7,n8,n9,n10,n11,n12,n13,n14,n15,n16,n17,n18,n19,n20,if_true,if_false,true_or,or_true,or_false,or_self,Option.some.injEq] at h
 all_goals subst h
 all_goals first
  | exact ⟨_,b1,by first|exact iO K _|exact JI K|exact gN K _ _ (by decide)⟩
  | exact ⟨_,b2,by first|exact iO K _|exact gN K _ _ (by decide)⟩
  | exact ⟨_,b3,by first|exact iO K _|exact gN K _ _ (by decide)⟩
  | exact ⟨_,b4,by first|exact iO K _|exact gN K _ _ (by decide)⟩
  | exact ⟨_,b5,by first|exact iO K _|exact gN K _ _ (by decide)⟩
theorem pJ:bootBuiltins "isinstance" = some (.builtin "isinstance"):=by decide +kernel
theorem aFK (h:XC CX X c G T lv) {t:Str} {p p2:Pos} {k:Bool} {tn:String} (hg:aX c "isinstance" = true) (hm:X.mg "isinstance" = none) (hgt:aX c t=true) (hmt:X.mg t=none) (ht:iX.contains t=true) (ha:PE X ea (tD X.K T S ρ a)) (hs:starEach [ea,.Name t p2] X.env=[(false,eval ea X.env),(false,eval (.Name t p2) X.env)])
  (hd:tyn a=some tn) (hi:iP G t a=some k):PE X (.Call (.Name "isinstance" p) [ea,.Name t p2] [] pos) (tD X.K T S ρ (.bl k)):=by
 obtain ⟨n,hb,hk⟩:=aAq X.K ht hd hi
 have hnn:t≠"__name__":=by
  intro z
  subst z
  revert ht
  decide +kernel
 have hp:PE X (.Name t p2) (tC (.ty n)):=AD (h.glob hgt) hmt hb rfl hnn (h.gne hgt)
 have hc:eC X (.builtin "isinstance") (fun xs H Q=>∃ x,xs=[x,.ty n]∧Rep X.K T H S a x∧Q (.bl k) H):=by
  rintro pins s σ H xs us Q I r ⟨x,rfl,rep,q⟩
  obtain ⟨u,w',rfl,r1,r2⟩:=vals2 r
  obtain rfl:w'=Value.type n:=r2
  exact JH I r1 rep hd hk fun tk=>⟨.bl k,H,I.tok tk,rfl,q⟩
 have hs1:starEach [ea,.Name t p2] X.env=(false,eval ea X.env)::starEach [.Name t p2] X.env:=hs
 refine PE.mono (dM hc (h.glob hg) hm pJ (bB ha (bB hp eY) hs1) (by decide +kernel) ?_ ?_ ?_) fun σ H Q ⟨re,q⟩=>⟨re,fun x H1 s1 r1=>⟨x,rfl,r1,q _ H1 s1 bO⟩⟩
 all_goals first|exact h.gne hg|exact hs1|rfl|decide +kernel
end
theorem kY {o:Expr} {m:Str} {env:Env} (ho:jC o=true):attributeBase o m env (eval o env)=eval o env:=by
 cases o<;>first|rfl|(simp [jC] at ho)
theorem wZ {env:Env} {pos:Pos}:∀ (l:List Expr),(backTo pos (l.map fun e=>(false,eval e env))).all (!·.1)=true
 | []=>rfl
 | _::r=>wZ r
theorem vN {X:Cx} {o:Expr} {m:Str} {args:List Expr} {apos pos:Pos} (ho:jC o=true) (hs:starEach args X.env=args.map fun e=>(false,eval e X.env)) (hl:args.length<30) (hp:(apos.endLine == pos.line)=true):pA X o m args apos pos:=by
 refine ⟨do return (← importBound o X.env).getD true,?_⟩
 show (do
  let ov ← attributeBase o m X.env (eval o X.env)
  standAt apos.atName
  methodCall o m apos pos X.env ov (args.length+0) (backTo pos (starEach args X.env)) (backToKw pos (keywordEach [] X.env)))=_
 rw [kY ho]
 have hf:methodCallForm (args.length+0) (backTo pos (starEach args X.env)) (backToKw pos (keywordEach [] X.env))=true:=by
  unfold methodCallForm
  rw [hs,wZ]
  simp [backToKw,keywordEach]
  first|omega|(refine ⟨?_,?_⟩<;>first|rfl|omega)
 have hpp:methodCallPos true o X.env apos pos=pure pos:=by
  unfold methodCallPos
  rw [hp]
  rfl
 unfold methodCall
 rw [hf,hpp]
 unfold calleeOf
 rfl
end Z
namespace Z
open PySem PySem.Spec PyProof.Rows L2
section
variable {K:PySem.W.Frag}{T:Tx}{H:Hp}{S:Addr→Prop}
theorem bA.len:∀ {kvs:List (Int × D)} {gs:List (Key × V)},bA K T H S kvs gs→kvs.length=gs.length
 | [],gs,h=>by unfold bA at h; subst h; rfl
 | (i,d)::kvs,gs,h=>by
  unfold bA at h
  obtain ⟨x,r,rfl,_,q⟩:=h
  exact congrArg (· + 1) (bA.len q)
theorem bA.nil:bA K T H S [] []:=by unfold bA; rfl
theorem bA.cons {i:Int} {d:D} {x:V} {kvs:List (Int × D)} {gs:List (Key × V)} (h:Rep K T H S d x) (g:bA K T H S kvs gs):bA K T H S ((i,d)::kvs) ((Sum.inl i,x)::gs):=by unfold bA; exact ⟨x,gs,rfl,h,g⟩
theorem JM {i j:Int} (h:¬ i=j):¬ (Sum.inl i:Key)=Sum.inl j:=fun z=>h (Sum.inl.inj z)
theorem bA.val {k:Int}:∀ {kvs:List (Int × D)} {gs:List (Key × V)},bA K T H S kvs gs→(∀ d,dD kvs k=some d→∃ x,lA gs (Sum.inl k)=some x∧Rep K T H S d x)∧(dD kvs k=none→lA gs (Sum.inl k)=none)
 | [],gs,h=>by unfold bA at h; subst h; exact ⟨fun d e=>(nomatch (show none=some d from e)),fun _=>rfl⟩
 | (i,d)::kvs,gs,h=>by
  unfold bA at h
  obtain ⟨x,r,rfl,p,q⟩:=h
  obtain ⟨i1,i2⟩:=bA.val (k:=k) q
  by_cases e:i=k
  ·have e1:dD ((i,d)::kvs) k=some d:=by unfold dD; rw [List.find?_cons_of_pos (by simpa using e)]; rfl
   rw [e1,kB (congrArg Sum.inl e)]
   exact ⟨fun d' z=>⟨x,rfl,by cases z; exact p⟩,fun z=>by cases z⟩
  ·have e1:dD ((i,d)::kvs) k=dD kvs k:=by unfold dD; rw [List.find?_cons_of_neg (by simpa using e)]
   rw [e1,kC (JM e)]
   exact ⟨i1,i2⟩
theorem bA.any {k:Int}:∀ {kvs:List (Int × D)} {gs:List (Key × V)},bA K T H S kvs gs→(kvs.any fun kv=>decide (kv.1=k))=gs.any fun kv=>decide (kv.1=(Sum.inl k:Key))
 | [],gs,h=>by unfold bA at h; subst h; rfl
 | (i,d)::kvs,gs,h=>by
  unfold bA at h
  obtain ⟨x,r,rfl,p,q⟩:=h
  rw [List.any_cons,List.any_cons,bA.any q]
  congr 1
  exact decide_eq_decide.mpr ⟨fun z=>congrArg Sum.inl z,fun z=>Sum.inl.inj z⟩
theorem bA.repl {k:Int} {d:D} {v:V} (hv:Rep K T H S d v):∀ {kvs:List (Int × D)} {gs:List (Key × V)},bA K T H S kvs gs→bA K T H S (kvs.map fun kv=>if kv.1=k then (kv.1,d) else kv) (gs.map fun kv=>if kv.1=(Sum.inl k:Key) then (kv.1,v) else kv)
 | [],gs,h=>by unfold bA at h; subst h; exact bA.nil
 | (i,d')::kvs,gs,h=>by
  unfold bA at h
  obtain ⟨x,r,rfl,p,q⟩:=h
  rw [List.map_cons,List.map_cons]
  by_cases e:i=k
  ·rw [if_pos e,if_pos (congrArg Sum.inl e)]
   exact bA.cons hv (bA.repl hv q)
  ·rw [if_neg e,if_neg (JM e)]
   exact bA.cons p (bA.repl hv q)
theorem bA.snoc {k:Int} {d:D} {v:V} (hv:Rep K T H S d v):∀ {kvs:List (Int × D)} {gs:List (Key × V)},bA K T H S kvs gs→bA K T H S (kvs++[(k,d)]) (gs++[(Sum.inl k,v)])
 | [],gs,h=>by unfold bA at h; subst h; exact bA.cons hv bA.nil
 | (i,d')::kvs,gs,h=>by
  unfold bA at h
  obtain ⟨x,r,rfl,p,q⟩:=h
  exact bA.cons p (bA.snoc hv q)
theorem bA.put {k:Int} {d:D} {v:V} (hv:Rep K T H S d v) {kvs:List (Int × D)} {gs:List (Key × V)} (h:bA K T H S kvs gs):bA K T H S (lG kvs k d) (putK gs (Sum.inl k) v):=by
 unfold lG putK
 rw [bA.any h]
 split
 ·exact bA.repl hv h
 ·exact bA.snoc hv h
end
section
variable {CX:CXT}{X:Cx}{c:CC}{G:GS}{T:Tx}{lv:Nat}{ρ:List Sl}{S:Addr→Prop}{pos:Pos}{ea eb ec:Expr}{a b d:D}
theorem aFO (hu:X.A.units+1<cLine) {i:Int} {kvs:List (Int × D)} (ha:PE X ea (tD X.K T S ρ (.dct kvs))) (hb:PE X eb (tD X.K T S ρ (.int i))) (hp:kZ eb) (hd:dD kvs i=some d):PE X (.Subscript ea eb pos) (tD X.K T S ρ d):=
 PE.mono (PM hu ha hb hp) fun σ H Q ⟨re,q⟩=>⟨re,fun x H1 s1 r1=>⟨re.same s1,fun y H2 s2 r2=>by
  have r1:=r1.same s2
  unfold Rep at r1 r2
  subst r2
  obtain ⟨p,gs,rfl,_,e,rk⟩:=r1
  obtain ⟨v,e1,rv⟩:=(bA.val (k:=i) rk).1 d hd
  refine ⟨p,v,rfl,?_,q v H2 (s1.trans s2) rv⟩
  rw [← e1]
  exact FZ.k (k:=Sum.inl i) e⟩⟩
end
end Z
namespace Z
open PySem PySem.Spec PyProof.Rows L2
structure Plain (e:Expr):Prop where
 star:∀ (env:Env) (es:List Expr),starEach (e::es) env=(false,eval e env)::starEach es env
 marks:∀ op,behindInMarks op e=false
 set_:∀ env x,foldedSetIterable e env x=pure x
 ix:kZ e
theorem dJ {n:Nat} {c:CC} {e:Expr} {ir:IE} (h:cE n c e=some ir):Plain e:=by
 cases e<;>first|exact ⟨fun _ _=>rfl,fun _=>rfl,fun _ _=>rfl,fun _ _=>rfl⟩|(cases n<;>exact nomatch (show none=some ir from h))
section
variable {CX:CXT}{G:GS}{T:Tx}{lv:Nat}
def OkE (CX:CXT) (G:GS) (T:Tx) (lv n:Nat):Prop:=∀ (X:Cx) (c:CC) (S:Addr→Prop) (ρ:List Sl) (e:Expr) (ir:IE),XC CX X c G T lv→cE n c e=some ir→∀ d,ev G ir ρ=some d →
 PE X e (tD X.K T S ρ d)∧(gC c e=true→∀ ds,d=.lst ds→PE X e (tNw X.K T S ρ ds))
def OkT (CX:CXT) (G:GS) (T:Tx) (lv n:Nat):Prop:=∀ (X:Cx) (c:CC) (S:Addr→Prop) (ρ:List Sl) (e:Expr) (ir:IE),XC CX X c G T lv→cT n c e=some ir→∀ k,ev G ir ρ=some (.bl k)→PT X e (tTe X.K T S ρ k)
def OkB (CX:CXT) (G:GS) (T:Tx) (lv n:Nat):Prop:=∀ (X:Cx) (c:CC) (S:Addr→Prop) (ρ:List Sl) (k:Bool) (vs:List Expr) (ir:IE) (pos:Pos),XC CX X c G T lv →
 (cB n c false k vs=some ir→∀ d,ev G ir ρ=some d→PE X (.BoolOp (if k then .And else .Or) vs pos) (tD X.K T S ρ d)) ∧
 (cB n c true k vs=some ir→∀ b,ev G ir ρ=some (.bl b)→PW X (.BoolOp (if k then .And else .Or) vs pos) (tTe X.K T S ρ b))
def OkA (CX:CXT) (G:GS) (T:Tx) (lv n:Nat):Prop:=∀ (X:Cx) (c:CC) (S:Addr→Prop) (ρ:List Sl) (es:List Expr) (ir:IE),XC CX X c G T lv→cA n c es=some ir→∀ d,ev G ir ρ=some d →
 ∃ ds,d=.tup ds∧ds.length=es.length∧PA X es (tAs X.K T S ρ ds)∧starEach es X.env=es.map fun e=>(false,eval e X.env)
def OkI (CX:CXT) (G:GS) (T:Tx) (lv n:Nat):Prop:=∀ (X:Cx) (c:CC) (S:Addr→Prop) (ρ:List Sl) (e:Expr) (k:Src) (ir:IE),XC CX X c G T lv→cI n c e=some (k,ir)→∀ d ds,ev G ir ρ=some d→items k d=some ds →
 (∀ tg,PI X tg e (tI X.K T S ρ ds))∧∀ x,foldedSetIterable e X.env x=pure x
theorem IC {n:Nat} (hE:OkE CX G T lv n) (hA:OkA CX G T lv n):OkA CX G T lv (n+1):=by
 intro X c S ρ es ir xc h d hd
 cases es with
 | nil =>
  cases (show some IE.nil=some ir from h)
  simp only [ev,Option.some.injEq] at hd
  exact ⟨[],hd.symm,rfl,IJ,rfl⟩
 | cons e es =>
  obtain ⟨x,hx,h⟩:=aF h
  obtain ⟨y,hy,rfl⟩:=aQ h
  simp only [ev,Option.bind_eq_bind,Option.bind_eq_some_iff] at hd
  obtain ⟨a,ha,w,hw,hd⟩:=hd
  obtain ⟨ds,rfl,hl,pa,hs⟩:=hA X c S ρ es y xc hy w hw
  simp only [Option.some.injEq] at hd
  have st:=(dJ hx).star X.env es
  refine ⟨a::ds,hd.symm,by simp [hl],yC (hE X c S ρ e x xc hx a ha).1 pa st,?_⟩
  rw [st,hs]; rfl
theorem IB {n:Nat} (hE:OkE CX G T lv n) (hT:OkT CX G T lv n) (hB:OkB CX G T lv n):OkB CX G T lv (n+1):=by
 intro X c S ρ k vs ir pos xc
 refine ⟨fun h d hd=>?_,fun h b hb=>?_⟩
 ·cases vs with
  | nil=>exact nomatch (show none=some ir from h)
  | cons a r =>
   cases r with
   | nil =>
    exact YV (hE X c S ρ a ir xc h d hd).1
   | cons b r =>
    obtain ⟨x,hx,h⟩:=aF h
    obtain ⟨y,hy,rfl⟩:=aQ h
    cases k with
    | true =>
     simp only [if_true,ev,Option.bind_eq_bind,Option.bind_eq_some_iff] at hd
     obtain ⟨w,hw,hd⟩:=hd
     have p1:=(hE X c S ρ a x xc hx w hw).1
     cases w<;>first|(simp only [reduceCtorEq] at hd; done)|skip
     rename_i kk
     cases kk with
     | true =>
      simp only [Option.bind_eq_some_iff] at hd
      obtain ⟨z,hz,hd⟩:=hd
      have p2:=(hB X c S ρ true (b::r) y pos xc).1 hy z hz
      have hzd:z=d:=by cases z<;>simp_all
      subst hzd
      exact PE.mono (HM p1 p2) fun σ H Q ⟨re,q⟩=>⟨re,fun x H1 s1 r1=>by
       unfold Rep at r1
       exact ⟨true,r1,EV ⟨re.same s1,fun v H' s2 r=>q v H' (s1.trans s2) r⟩⟩⟩
     | false =>
      simp only [Option.some.injEq] at hd
      subst hd
      exact PE.mono (HM p1 (tb:=fun _ _ _=>False) (fun _ _ _ _ _ _ h=>h.elim)) fun σ H Q ⟨re,q⟩=>⟨re,fun x H1 s1 r1=>by
       unfold Rep at r1
       exact ⟨false,r1,pG (q _ H1 s1 bO)⟩⟩
    | false =>
     simp only [Bool.false_eq_true,if_false,ev,Option.bind_eq_bind,Option.bind_eq_some_iff] at hd
     obtain ⟨w,hw,hd⟩:=hd
     have p1:=(hE X c S ρ a x xc hx w hw).1
     cases w<;>first|(simp only [reduceCtorEq] at hd; done)|skip
     rename_i kk
     cases kk with
     | false =>
      simp only [Option.bind_eq_some_iff] at hd
      obtain ⟨z,hz,hd⟩:=hd
      have p2:=(hB X c S ρ false (b::r) y pos xc).1 hy z hz
      have hzd:z=d:=by cases z<;>simp_all
      subst hzd
      exact PE.mono (TJ p1 p2) fun σ H Q ⟨re,q⟩=>⟨re,fun x H1 s1 r1=>by
       unfold Rep at r1
       exact ⟨false,r1,pG ⟨re.same s1,fun v H' s2 r=>q v H' (s1.trans s2) r⟩⟩⟩
     | true =>
      simp only [Option.some.injEq] at hd
      subst hd
      exact PE.mono (TJ p1 (tb:=fun _ _ _=>False) (fun _ _ _ _ _ _ h=>h.elim)) fun σ H Q ⟨re,q⟩=>⟨re,fun x H1 s1 r1=>by
       unfold Rep at r1
       exact ⟨true,r1,EV (q _ H1 s1 bO)⟩⟩
 ·cases vs with
  | nil=>exact nomatch (show none=some ir from h)
  | cons a r =>
   cases r with
   | nil =>
    cases k with
    | true=>exact OV (hT X c S ρ a ir xc h b hb)
    | false=>exact GW (hT X c S ρ a ir xc h b hb)
   | cons b' r =>
    obtain ⟨x,hx,h⟩:=aF h
    obtain ⟨y,hy,rfl⟩:=aQ h
    cases k with
    | true =>
     simp only [if_true,ev,Option.bind_eq_bind,Option.bind_eq_some_iff] at hb
     obtain ⟨w,hw,hb⟩:=hb
     cases w<;>first|(simp only [reduceCtorEq] at hb; done)|skip
     rename_i kk
     have p1:=hT X c S ρ a x xc hx kk hw
     cases kk with
     | true =>
      simp only [Option.bind_eq_some_iff] at hb
      obtain ⟨z,hz,hb⟩:=hb
      have hzd:z=.bl b:=by cases z<;>simp_all
      subst hzd
      have p2:=(hB X c S ρ true (b'::r) y pos xc).2 hy b hz
      exact PW.mono (GY p1 p2) fun σ H Q ⟨re,q⟩=>⟨re,fun H1 s1=>EV ⟨re.same s1,fun H' s2=>q H' (s1.trans s2)⟩⟩
     | false =>
      simp only [Option.some.injEq,D.bl.injEq] at hb
      subst hb
      exact PW.mono (GY p1 (tB':=fun _ _ _=>False) (fun _ _ _ _ _ _ _ h=>h.elim)) fun σ H Q ⟨re,q⟩=>⟨re,fun H1 s1=>pG (q H1 s1)⟩
    | false =>
     simp only [Bool.false_eq_true,if_false,ev,Option.bind_eq_bind,Option.bind_eq_some_iff] at hb
     obtain ⟨w,hw,hb⟩:=hb
     cases w<;>first|(simp only [reduceCtorEq] at hb; done)|skip
     rename_i kk
     have p1:=hT X c S ρ a x xc hx kk hw
     cases kk with
     | false =>
      simp only [Option.bind_eq_some_iff] at hb
      obtain ⟨z,hz,hb⟩:=hb
      have hzd:z=.bl b:=by cases z<;>simp_all
      subst hzd
      have p2:=(hB X c S ρ false (b'::r) y pos xc).2 hy b hz
      exact PW.mono (GX p1 p2) fun σ H Q ⟨re,q⟩=>⟨re,fun H1 s1=>pG ⟨re.same s1,fun H' s2=>q H' (s1.trans s2)⟩⟩
     | true =>
      simp only [Option.some.injEq,D.bl.injEq] at hb
      subst hb
      exact PW.mono (GX p1 (tB':=fun _ _ _=>False) (fun _ _ _ _ _ _ _ h=>h.elim)) fun σ H Q ⟨re,q⟩=>⟨re,fun H1 s1=>EV (q H1 s1)⟩
theorem jK (xc:XC CX X c G T lv) {x:Str} (h1:fK.contains x=true) (h2:c.fns.contains x=false) (h3:c.cls.contains x=false):X.mg x=none:=xc.go.bi x h1 h2 h3
theorem HZ {n:Nat} (hE:OkE CX G T lv n) (hA:OkA CX G T lv n):OkI CX G T lv (n+1):=by
 intro X c S ρ e k ir xc h d ds hd hi
 have h:(match (oW c e).bind fun q=>(srcOf q.1).map fun k=>(k,q.2) with
  | some q=>(match q.1 with
   | .rng=>(cA n c q.2).map fun y=>(Src.rng,IE.tup y)
   | k=>(one? q.2).bind fun a=>(cE n c a).map fun y=>(k,y))
  | none=>(cE n c e).map fun y=>(Src.seq,y))=some (k,ir):=h
 cases hb:((oW c e).bind fun q=>(srcOf q.1).map fun k=>(k,q.2)) with
 | none =>
  rw [hb] at h
  obtain ⟨y,hy,e1⟩:=aQ h
  cases e1
  exact ⟨fun tg=>PF (hE X c S ρ e ir xc hy d hd).1 hi,(dJ hy).set_ X.env⟩
 | some q =>
  rw [hb] at h
  obtain ⟨r,hr,hq⟩:=aF hb
  obtain ⟨k',hk,rfl⟩:=aQ hq
  obtain ⟨p1,p2,rfl,hg,ho⟩:=mK hr
  obtain ⟨hf,hc⟩:=HN ho
  have hx:(r.1 = "range"∧k'=.rng)∨(r.1 = "reversed"∧k'=.rev):=by
   unfold srcOf at hk
   split at hk
   ·rename_i e0; cases hk; exact .inl ⟨e0,rfl⟩
   ·split at hk
    ·rename_i e0; cases hk; exact .inr ⟨e0,rfl⟩
    ·cases hk
  obtain ⟨x,args⟩:=r
  rcases hx with ⟨rfl,rfl⟩|⟨rfl,rfl⟩
  ·obtain ⟨y,hy,e1⟩:=aQ h
   cases e1
   simp only [ev,Option.map_eq_some_iff] at hd
   obtain ⟨as,has,rfl⟩:=hd
   have hev:ev G y ρ=some (.tup as):=by
    unfold bH at has
    split at has
    ·cases has; assumption
    ·cases has
   obtain ⟨as',e1,hl,pa,hs⟩:=hA X _ S ρ args y xc hy _ hev
   cases e1
   exact ⟨fun tg=>PH (xc.glob hg) (jK xc (by decide +kernel) hf hc) pa hs hi hl,fun _=>rfl⟩
  ·obtain ⟨a,ha,h⟩:=aF h
   obtain rfl:=bQ ha
   obtain ⟨y,hy,e1⟩:=aQ h
   cases e1
   have st:=(dJ hy).star X.env []
   exact ⟨fun tg=>PJ (xc.glob hg) (jK xc (by decide +kernel) hf hc) (yC (hE X _ S ρ a ir xc hy d hd).1 IJ st) st hi,fun _=>rfl⟩
end
end Z
namespace Z
open PySem PySem.W PyProof.Rows
noncomputable def Ask {α:Type} (n:Nat) (lt:Nat→Nat→Bool) (P:α→Prop):KasT α→Prop
 | .ret a=>P a
 | .ask i j k=>i<n∧j<n∧Ask n lt P (k (lt i j))
theorem Ask.bind {α β:Type} {n:Nat} {lt:Nat→Nat→Bool} {P:β→Prop} {f:α→KasT β}:∀ {t:KasT α},Ask n lt (fun a=>Ask n lt P (f a)) t→Ask n lt P (t.bind f)
 | .ret a,h=>h
 | .ask i j k,h=>⟨h.1,h.2.1,Ask.bind h.2.2⟩
theorem Ask.mono {α:Type} {n:Nat} {lt:Nat→Nat→Bool} {P P':α→Prop} (m:∀ a,P a→P' a):∀ {t:KasT α},Ask n lt P t→Ask n lt P' t
 | .ret a,h=>m a h
 | .ask i j k,h=>⟨h.1,h.2.1,Ask.mono m h.2.2⟩
theorem Ask.wp {α:Type} {n:Nat} {lt:Nat→Nat→Bool} {P:α→Prop} {cmp:Nat→Nat→(Bool→Shared→Prop)→Shared→Prop} {Q:α→Shared→Prop} {s:Shared} (hc:∀ i j C,i<n→j<n→C (lt i j) s→cmp i j C s) (hq:∀ a,P a→Q a s):∀ {t:KasT α},Ask n lt P t→t.kasWp cmp Q s
 | .ret a,h=>hq a h
 | .ask i j k,h=>hc i j _ h.1 h.2.1 (Ask.wp hc hq h.2.2)
structure Ord (n:Nat) (lt:Nat→Nat→Bool):Prop where
 tot:∀ a b,a<n→b<n→a≠b→lt a b=false→lt b a=true
 asy:∀ a b,a<n→b<n→lt a b=true→lt b a=false
 tra:∀ a b c,a<n→b<n→c<n→lt a b=true→lt b c=true→lt a c=true
def fp (p:Array Nat) (i:Nat):Nat:=p.getD i 0
theorem iQ {p q:Array Nat} {i j:Nat} (h:p[i]?=q[j]?):fp p i=fp q j:=by
 unfold fp
 rw [Array.getD_eq_getD_getElem?,Array.getD_eq_getD_getElem?,h]
structure Prm (n:Nat) (p:Array Nat):Prop where
 pm:p.toList.Perm (List.range n)
theorem Prm.size {n:Nat} {p:Array Nat} (h:Prm n p):p.size=n:=by
 have:=h.pm.length_eq
 simpa using this
theorem Prm.lt {n:Nat} {p:Array Nat} (h:Prm n p) {i:Nat} (hi:i<n):fp p i<n:=by
 have hs:=h.size
 have:p[i] ∈ p.toList:=by simp
 have:=h.pm.mem_iff.mp this
 unfold fp
 rw [Array.getD_eq_getD_getElem?,Array.getElem?_eq_getElem (by omega)]
 simpa using this
theorem Prm.ne {n:Nat} {p:Array Nat} (h:Prm n p) {i j:Nat} (hi:i<n) (hj:j<n) (e:i≠j):fp p i≠fp p j:=by
 have hs:=h.size
 have nd:p.toList.Nodup:=h.pm.nodup_iff.mpr List.nodup_range
 unfold fp
 rw [Array.getD_eq_getD_getElem?,Array.getElem?_eq_getElem (by omega),Array.getD_eq_getD_getElem?,Array.getElem?_eq_getElem (by omega)]
 simp only [Option.getD_some]
 intro z
 have l1:i<p.toList.length:=by simp; omega
 have l2:j<p.toList.length:=by simp; omega
 exact e ((List.getElem_inj (h₀:=l1) (h₁:=l2) nd).mp (by simpa using z))
theorem Prm.perm {n:Nat} {p q:Array Nat} (h:Prm n p) (k:q.Perm p):Prm n q:=⟨(Array.perm_iff_toList_perm.mp k).trans h.pm⟩
section
variable {n:Nat}{lt:Nat→Nat→Bool}{p:Array Nat}
def Inc (lt:Nat→Nat→Bool) (p:Array Nat) (k:Nat):Prop:=∀ i j,i<j→j<k→lt (fp p i) (fp p j)=true
def Dec (lt:Nat→Nat→Bool) (p:Array Nat) (k:Nat):Prop:=∀ i j,i<j→j<k→lt (fp p j) (fp p i)=true
theorem JT {m:Nat} (hm:m≤p.size) (k:Nat):fp (kas_rev p 0 m) k=if k<m then fp p (m-1-k) else fp p k:=by
 have e:=getElem?_mirror_all (i:=0) hm k
 unfold kas_rev
 by_cases h:k<m
 ·rw [if_pos h]
  rw [if_pos ⟨Nat.zero_le _,h⟩,Nat.zero_add] at e
  exact iQ e
 ·rw [if_neg h]
  rw [if_neg (fun z=>h z.2)] at e
  exact iQ e
theorem RA {m:Nat} (hm:m≤p.size) (h:Dec lt p m):Inc lt (kas_rev p 0 m) m:=fun i j hij hj=>by
 rw [JT hm,JT hm,if_pos (by omega),if_pos hj]
 exact h _ _ (by omega) (by omega)
theorem JN (o:Ord n lt) (a:Prm n p) {m:Nat} (hm:m<n) (h1:1≤m) (h:Inc lt p m) (hs:lt (fp p (m-1)) (fp p m)=true):Inc lt p (m+1):=fun i j hij hj=>by
 by_cases e:j=m
 ·subst e
  by_cases e2:i=j-1
  ·rw [e2]; exact hs
  ·exact o.tra _ _ _ (a.lt (by omega)) (a.lt (by omega)) (a.lt hm) (h i (j-1) (by omega) (by omega)) hs
 ·exact h i j hij (by omega)
theorem KN (o:Ord n lt) (a:Prm n p) {m:Nat} (hm:m<n) (h1:1≤m) (h:Dec lt p m) (hs:lt (fp p m) (fp p (m-1))=true):Dec lt p (m+1):=fun i j hij hj=>by
 by_cases e:j=m
 ·subst e
  by_cases e2:i=j-1
  ·rw [e2]; exact hs
  ·exact o.tra _ _ _ (a.lt hm) (a.lt (by omega)) (a.lt (by omega)) hs (h i (j-1) (by omega) (by omega))
 ·exact h i j hij (by omega)
theorem uH (o:Ord n lt) (a:Prm n p):∀ (f m:Nat),1≤m→m+f=n→Inc lt p m→Ask n lt (fun m'=>m≤m'∧m'≤n∧Inc lt p m'∧(m'<n→lt (fp p m') (fp p (m'-1))=true)) (kas_asc p f m)
 | 0,m,h1,h2,h=>⟨Nat.le_refl _,by omega,h,fun z=>by omega⟩
 | f+1,m,h1,h2,h=>by
  refine ⟨a.lt (by omega),a.lt (by omega),?_⟩
  show Ask n lt _ (if lt (fp p m) (fp p (m-1))=true then _ else _)
  cases e:lt (fp p m) (fp p (m-1)) with
  | true=>rw [if_pos rfl]; exact ⟨Nat.le_refl _,by omega,h,fun _=>e⟩
  | false =>
   rw [if_neg (by decide)]
   have hs:=o.tot _ _ (a.lt (by omega)) (a.lt (by omega)) (a.ne (show m<n by omega) (show m-1<n by omega) (by omega)) e
   exact (uH o a f (m+1) (by omega) (by omega) (JN o a (by omega) h1 h hs)).mono fun m' ⟨q1,q2,q3,q4⟩=>⟨by omega,q2,q3,q4⟩
theorem xC (o:Ord n lt) (a:Prm n p):∀ (f m:Nat),1≤m→m+f=n→Dec lt p m→Ask n lt (fun r=>∃ m',r=(p,m',0)∧m≤m'∧m'≤n∧Dec lt p m') (kas_desc f p m 0)
 | 0,m,h1,h2,h=>⟨m,rfl,Nat.le_refl _,by omega,h⟩
 | f+1,m,h1,h2,h=>by
  refine ⟨a.lt (by omega),a.lt (by omega),?_⟩
  show Ask n lt _ (if lt (fp p m) (fp p (m-1))=true then _ else _)
  cases e:lt (fp p m) (fp p (m-1)) with
  | true =>
   rw [if_pos rfl,if_neg (by decide)]
   exact (xC o a f (m+1) (by omega) (by omega) (KN o a (by omega) h1 h e)).mono fun r ⟨m',q0,q1,q2,q3⟩=>⟨m',q0,by omega,q2,q3⟩
  | false =>
   rw [if_neg (by decide)]
   have hs:=o.tot _ _ (a.lt (by omega)) (a.lt (by omega)) (a.ne (show m<n by omega) (show m-1<n by omega) (by omega)) e
   refine ⟨a.lt (by omega),a.lt (by omega),?_⟩
   show Ask n lt _ (if lt (fp p (m-1)) (fp p m)=true then _ else _)
   rw [hs,if_pos rfl]
   exact ⟨m,rfl,Nat.le_refl _,by omega,h⟩
def Run (n:Nat) (lt:Nat→Nat→Bool) (r:Nat × Array Nat):Prop:=Prm n r.2∧1≤r.1∧r.1≤n∧Inc lt r.2 r.1
theorem FU (o:Ord n lt) (a:Prm n p) {m:Nat} (h1:1≤m) (hm:m≤n) (h:Dec lt p m):Ask n lt (Run n lt) (kas_tail3 m n p):=by
 have a':Prm n (kas_rev p 0 m):=a.perm (mirror_perm _ _ _ _)
 refine Ask.bind ((uH o a' (n-m) m h1 (by omega) (RA (by rw [a.size]; exact hm) h)).mono fun m' ⟨q1,q2,q3,_⟩=>?_)
 exact ⟨a',by show 1≤m'; omega,q2,q3⟩
theorem FV (o:Ord n lt) (a:Prm n p) (h1:1≤n):Ask n lt (Run n lt) (kas_count n p):=by
 refine Ask.bind ((uH o a (n-1) 1 (Nat.le_refl _) (by omega) (fun i j z1 z2=>by omega)).mono fun m ⟨q1,q2,q3,q4⟩=>?_)
 by_cases e:m=n
 ·subst e
  rw [if_pos (by simp)]
  exact ⟨a,q1,Nat.le_refl _,q3⟩
 ·rw [if_neg (by simpa using e)]
  by_cases e1:m > 1
  ·rw [if_pos e1]
   refine ⟨a.lt (by omega),a.lt (by omega),?_⟩
   show Ask n lt _ (if lt (fp p 0) (fp p (m-1))=true then _ else _)
   rw [q3 0 (m-1) (by omega) (by omega),if_pos rfl]
   exact ⟨a,q1,q2,q3⟩
  ·rw [if_neg e1]
   have em:m=1:=by omega
   subst em
   have hd:Dec lt p 2:=fun i j z1 z2=>by
    have:i=0:=by omega
    have:j=1:=by omega
    subst_vars
    exact q4 (by omega)
   unfold kas_descPart
   refine Ask.bind ((xC o a (n-(1+1)) (1+1) (by omega) (by omega) hd).mono fun r ⟨m',e0,z1,z2,z3⟩=>?_)
   subst e0
   rw [if_neg (fun z=>Nat.lt_irrefl 0 z)]
   exact FU (m:=m') o a (by omega) z2 z3
theorem lT (o:Ord n lt) (a:Prm n p) {k:Nat} (hk:k<n):∀ (f l r:Nat),l≤r→r≤k→r-l≤f→(∀ i,i<l→lt (fp p i) (fp p k)=true)→(∀ i,r≤i→i<k→lt (fp p k) (fp p i)=true)→Inc lt p k →
  Ask n lt (fun l'=>l'≤k∧(∀ i,i<l'→lt (fp p i) (fp p k)=true)∧∀ i,l'≤i→i<k→lt (fp p k) (fp p i)=true) (kas_place p k f l r)
 | 0,l,r,h1,h2,h3,lo,hi,_=>⟨by omega,lo,fun i z1 z2=>hi i (by omega) z2⟩
 | f+1,l,r,h1,h2,h3,lo,hi,inc=>by
  unfold kas_place
  by_cases e:l ≥ r
  ·rw [if_pos e]; exact ⟨by omega,lo,fun i z1 z2=>hi i (by omega) z2⟩
  ·rw [if_neg e]
   refine ⟨a.lt hk,a.lt (by omega),?_⟩
   show Ask n lt _ (if lt (fp p k) (fp p ((l+r) / 2))=true then _ else _)
   have m1:(l+r) / 2<r:=by omega
   have m2:l≤(l+r) / 2:=by omega
   cases c:lt (fp p k) (fp p ((l+r) / 2)) with
   | true =>
    rw [if_pos rfl]
    refine lT o a hk f l ((l+r) / 2) m2 (by omega) (by omega) lo (fun i z1 z2=>?_) inc
    by_cases z3:i=(l+r) / 2
    ·rw [z3]; exact c
    ·exact o.tra _ _ _ (a.lt hk) (a.lt (by omega)) (a.lt (by omega)) c (inc _ _ (by omega) z2)
   | false =>
    rw [if_neg (by decide)]
    have c':=o.tot _ _ (a.lt hk) (a.lt (by omega)) (a.ne hk (show (l+r) / 2<n by omega) (by omega)) c
    refine lT o a hk f ((l+r) / 2+1) r (by omega) h2 (by omega) (fun i z=>?_) hi inc
    by_cases z3:i=(l+r) / 2
    ·rw [z3]; exact c'
    ·exact o.tra _ _ _ (a.lt (by omega)) (a.lt (by omega)) (a.lt hk) (inc _ _ (by omega) (by omega)) c'
theorem FC {k d:Nat} (hk:k<p.size) (hd:d≤k) (i:Nat):fp (bubble p k d) i=if i=k-d then fp p k else if k-d<i∧i≤k then fp p (i-1) else fp p i:=by
 have e:=getElem?_bubble hk d hd i
 by_cases h1:i=k-d
 ·rw [if_pos h1] at e ⊢; exact iQ e
 ·rw [if_neg h1] at e ⊢
  by_cases h2:k-d<i∧i≤k
  ·rw [if_pos h2] at e ⊢; exact iQ e
  ·rw [if_neg h2] at e ⊢; exact iQ e
theorem CU (o:Ord n lt):∀ (f:Nat) (p:Array Nat) (k:Nat),Prm n p→k+f=n→Inc lt p k→Ask n lt (fun p'=>Prm n p'∧Inc lt p' n) (kas_bin f p k)
 | 0,p,k,a,h,inc=>⟨a,by rw [← h]; exact inc⟩
 | f+1,p,k,a,h,inc=>by
  have hk:k<n:=by omega
  unfold kas_bin
  refine Ask.bind ((lT o a hk k 0 k (Nat.zero_le _) (Nat.le_refl _) (by omega) (fun i z=>by omega) (fun i z1 z2=>by omega) inc).mono fun l ⟨q1,q2,q3⟩=>?_)
  have hs:=a.size
  have fb:=fun i=>FC (p:=p) (k:=k) (d:=k-l) (by omega) (by omega) i
  have ek:k-(k-l)=l:=by omega
  rw [ek] at fb
  refine CU o f _ (k+1) (a.perm (bubble_perm _ _ _)) (by omega) fun i j hij hj=>?_
  rw [fb i,fb j]
  by_cases j1:j=l
  ·rw [if_pos j1,if_neg (by omega),if_neg (by omega)]
   exact q2 i (by omega)
  ·rw [if_neg j1]
   by_cases i1:i=l
   ·rw [if_pos i1,if_pos (by omega)]
    exact q3 _ (by omega) (by omega)
   ·rw [if_neg i1]
    by_cases i2:l<i∧i≤k
    ·rw [if_pos i2,if_pos (by omega)]
     exact inc _ _ (by omega) (by omega)
    ·rw [if_neg i2]
     by_cases j2:l<j∧j≤k
     ·rw [if_pos j2]
      exact inc _ _ (by omega) (by omega)
     ·rw [if_neg j2]
      exact inc _ _ hij (by omega)
theorem LH (o:Ord n lt) (h1:1≤n):Ask n lt (fun p=>Prm n p∧Inc lt p n) (kas_sort n):=by
 have a:Prm n (List.toArray (List.range n)):=⟨by simp⟩
 refine Ask.bind ((FV o a h1).mono fun r ⟨q1,q2,q3,q4⟩=>?_)
 by_cases e:r.1<n
 ·rw [if_pos e]
  rw [Nat.max_eq_left q2]
  exact CU o _ _ _ q1 (by omega) q4
 ·rw [if_neg e]
  have:r.1=n:=by omega
  rw [this] at q4
  exact ⟨q1,q4⟩
end
end Z
namespace Z
open PySem PySem.Spec PySem.W PyProof.Rows L2 PySem.Calls
def Kept (g g':Heap):Prop:=∀ b u,g.get? b=some u→g'.get? b=some u
section
variable {prog:Program}{w:World}{A:Around}{E:Value→Shared→Prop}{s:Shared}{vs:List Value}{lt:Nat→Nat→Bool}{κ:SortKind}
noncomputable def kK (vs:List Value) (p:Array Nat):List Value:=p.toList.map fun i=>vs.getD i Value.none
theorem HP {p:Array Nat} (a:Prm vs.length p):(kK vs p).length=vs.length:=by unfold kK; rw [List.length_map,Array.length_toList,a.size]
theorem AF:kK vs (List.toArray (List.range vs.length))=vs:=by
 unfold kK
 apply List.ext_getElem
 ·simp
 ·intro i h1 h2
  simp [h2]
structure Lts (prog:Program) (w:World) (A:Around) (κ:SortKind) (vs:List Value) (lt:Nat→Nat→Bool) (s:Shared):Prop where
 kind:2≤vs.length→∀ (R:SortKind→Shared→Prop),R κ s→wpAny (model prog w) A (keyKind' vs.toArray) R (fun _ _=>False) s
 ask:∀ i j C,i<vs.length→j<vs.length→C (lt i j) s→kas_ask prog w A κ vs i j C s
theorem NU {a:Addr} {n:Nat} {P:PySem.Fin→Shared→Prop} (ho:s.heap.get? a=some (seqObj "list" vs.toArray n)) (o:Ord vs.length lt) (h64:vs.length<64)
  (hl:∀ g',(∀ b u,b≠a→s.heap.get? b=some u→g'.get? b=some u)→Lts prog w A κ vs lt { s with heap:=g' })
  (hP:∀ g' p c,(∀ b u,b≠a→s.heap.get? b=some u→g'.get? b=some u)→Prm vs.length p→Inc lt p vs.length→g'.get? a=some (seqObj "list" (kK vs p).toArray c)→P (.done (.ret .none)) { s with heap:=g' }) :
  wpAny (model prog w) A (Builtin.«list.sort» ⟨[.ref a],[]⟩) P E s:=by
 have hlt:a<s.heap.objs.size:=Heap.lt_size ho
 have same1:=Heap.SameBut.update s.heap a (Obj.mapSeq fun _=>(#[]:Array Value))
 have hz:vs.length≤sizeLine:=by rw [sizeLine_eq]; omega
 obtain ⟨e1,ho1⟩:∃ e1,(s.heap.update a (Obj.mapSeq fun _=>(#[]:Array Value))).get? a=some (seqObj "list" #[] e1):=⟨_,get?_update_seq ho fun _=>#[]⟩
 rw [list_sort_plain]
 refine wpAny_bind (listItems_at ho rfl (wpAny_bind (listUpdate_at ho rfl (wpAny_bind (seqEpoch_at ho1 rfl (wpAny_bind (wpAny_newTuple (wpAny_bind (wpAny_newList (wpAny_holding ?_) (Nat.zero_le _))) hz)))) (by rw [List.size_toArray]; exact hz) (Nat.zero_le _))))
 show wpAny (model prog w) A _ P E { s with heap:=((s.heap.update a (Obj.mapSeq fun _=>(#[]:Array Value))).push (seqObj "tuple" vs.toArray 0)).push (seqObj "list" #[] 0) }
 have kp:∀ b u,(s.heap.update a (Obj.mapSeq fun _=>(#[]:Array Value))).get? b=some u→(((s.heap.update a (Obj.mapSeq fun _=>(#[]:Array Value))).push (seqObj "tuple" vs.toArray 0)).push (seqObj "list" #[] 0)).get? b=some u:=
  fun b u e=>Heap.get?_push_of_some _ (Heap.get?_push_of_some _ e)
 have kq:∀ b u,b≠a→s.heap.get? b=some u→(((s.heap.update a (Obj.mapSeq fun _=>(#[]:Array Value))).push (seqObj "tuple" vs.toArray 0)).push (seqObj "list" #[] 0)).get? b=some u:=
  fun b u hb e=>kp b u ((same1.2 b hb).trans e)
 have ho2:=kp a _ ho1
 generalize ((s.heap.update a (Obj.mapSeq fun _=>(#[]:Array Value))).push (seqObj "tuple" vs.toArray 0)).push (seqObj "list" #[] 0)=g1 at *
 have L:=hl g1 kq
 have fin:∀ p:Array Nat,Prm vs.length p→Inc lt p vs.length→P (.done (.ret .none)) { s with heap:=g1.update a (Obj.mapSeq fun _=>(kK vs p).toArray) }:=fun p pa inc=>by
  have same2:=Heap.SameBut.update g1 a (Obj.mapSeq fun _=>(kK vs p).toArray)
  obtain ⟨c2,hc2⟩:∃ c2,(g1.update a (Obj.mapSeq fun _=>(kK vs p).toArray)).get? a=some (seqObj "list" (kK vs p).toArray c2):=⟨_,get?_update_seq ho2 fun _=>(kK vs p).toArray⟩
  exact hP _ p c2 (fun b u hb e=>(same2.2 b hb).trans (kq b u hb e)) pa inc hc2
 dsimp only
 by_cases h2:vs.toArray.size<2
 ·have h2':vs.length<2:=by simpa using h2
  rw [if_pos h2,if_pos h2]
  refine wpAny_bind (wpAny_pure ?_)
  rw [StateT.run_pure]
  refine wpAny_bind (wpAny_pure ?_)
  dsimp only
  have e0:(arrOf (SortSt.mk' general' (vs.toArray.zip vs.toArray) #[] 7 none)).map (·.2)=(kK vs (List.toArray (List.range vs.length))).toArray:=by
   rw [AF]
   show (vs.toArray.zip vs.toArray).map (·.2)=_
   apply Array.toList_inj.mp
   simp [List.map_snd_zip]
  rw [e0]
  refine wpAny_bind (seqEpoch_at ho2 rfl (wpAny_bind (listUpdate_at ho2 rfl ?_ (Nat.zero_le _) (by rw [AF,List.size_toArray]; exact Nat.le_succ_of_le hz))))
  simp only [bne_self_eq_false,Bool.false_eq_true,if_false]
  exact wpAny_pure (fin _ ⟨by simp⟩ fun i j q1 q2=>by omega)
 ·have h2':2≤vs.length:=by
   have:¬ vs.length<2:=by simpa using h2
   omega
  rw [if_neg h2,if_neg h2]
  refine wpAny_bind (wpAny_mono (L.kind h2' (fun k u=>k=κ∧u = { s with heap:=g1 }) ⟨rfl,rfl⟩) (fun k s0 hk=>?_) fun _ _ x=>x.elim)
  obtain ⟨rfl,rfl⟩:=hk
  refine wpAny_bind (wpAny_mono (kat_run (Q:=fun st' s'=>s' = { s with heap:=g1 }∧∃ p:Array Nat,Prm vs.length p∧Inc lt p vs.length∧arrOf st'=p.map (kas_item (vs.toArray.zip vs.toArray))∧failedOf st'=none)
   (G:=fun p s'=>s' = { s with heap:=g1 }∧Prm vs.length p∧Inc lt p vs.length) rfl h2' h64 (fun p' st' s' _ q2 q3 ⟨q4,q5,q6⟩=>⟨q4,p',q5,q6,q2,q3⟩) (Ask.wp L.ask (fun p hp=>⟨rfl,hp.1,hp.2⟩) (LH o (by omega)))) ?_ fun _ _ x=>x)
  rintro ⟨⟨⟩,st'⟩ s' ⟨rfl,p,pa,inc,har,hf⟩
  dsimp only
  have e0:(arrOf st').map (·.2)=(kK vs p).toArray:=kat_snds rfl har
  rw [e0]
  refine wpAny_bind (seqEpoch_at ho2 rfl (wpAny_bind (listUpdate_at ho2 rfl ?_ (Nat.zero_le _) (by rw [List.size_toArray,HP pa]; exact Nat.le_succ_of_le hz))))
  rw [hf]
  simp only [bne_self_eq_false,Bool.false_eq_true,if_false]
  exact wpAny_pure (fin p pa inc)
theorem wW {l:Addr} {Q:Value→Shared→Prop} (hl:s.heap.IsList l vs.toArray) (o:Ord vs.length lt) (h64:vs.length<64)
  (hL:∀ g',Kept s.heap g'→Lts prog w A.in1.in1 κ vs lt { s with heap:=g' })
  (hQ:∀ g' p c,Kept s.heap g'→Prm vs.length p→Inc lt p vs.length→g'.get? (s.heap.objs.size+1)=some (seqObj "list" (kK vs p).toArray c)→Q (.ref (s.heap.objs.size+1)) { s with heap:=g' }) :
  wpAny (model prog w) A (call (.builtin "sorted") [.ref l]) Q E s:=by
 have hz:vs.length≤sizeLine:=by rw [sizeLine_eq]; omega
 refine Calls.call_function_entry kind_sorted plain_sorted entry_sorted (args_sorted1 _) ?_
 unfold Builtin.«sorted»
 refine wpAny_bind (m:=checkCount "sorted" 1 1 _) (wpAny_pure (wpAny_bind (collect_list hl (wpAny_bind (wpAny_newList ?_ hz)) hz)))
 have sz:((s.heap.push (seqObj "list" #[] 0)).update s.heap.objs.size (Obj.mapSeq (·++vs.toArray))).objs.size=s.heap.objs.size+1:=by rw [Heap.size_update,size_push']
 have at1:(((s.heap.push (seqObj "list" #[] 0)).update s.heap.objs.size (Obj.mapSeq (·++vs.toArray))).push (seqObj "list" vs.toArray 0)).get? (s.heap.objs.size+1)=some (seqObj "list" vs.toArray 0):=by
  have:=Heap.get?_push_size ((s.heap.push (seqObj "list" #[] 0)).update s.heap.objs.size (Obj.mapSeq (·++vs.toArray))) (o:=seqObj "list" vs.toArray 0) rfl
  rw [sz] at this; exact this
 have kp:Kept s.heap (((s.heap.push (seqObj "list" #[] 0)).update s.heap.objs.size (Obj.mapSeq (·++vs.toArray))).push (seqObj "list" vs.toArray 0)):=fun b u e=>by
  have lb:b<s.heap.objs.size:=Heap.lt_size e
  have nb:b≠s.heap.objs.size:=Nat.ne_of_lt lb
  rw [Heap.get?_push_ne _ _ _ (by rw [sz]; exact Nat.ne_of_lt (Nat.lt_succ_of_lt lb)),Heap.get?_update_ne _ _ _ _ nb,Heap.get?_push_ne _ _ _ nb]
  exact e
 show wpAny _ _ _ _ _ { s with heap:=((s.heap.push (seqObj "list" #[] 0)).update s.heap.objs.size (Obj.mapSeq (·++vs.toArray))).push (seqObj "list" vs.toArray 0) }
 rw [sz]
 generalize ((s.heap.push (seqObj "list" #[] 0)).update s.heap.objs.size (Obj.mapSeq (·++vs.toArray))).push (seqObj "list" vs.toArray 0)=g1 at *
 have nk:∀ b u,s.heap.get? b=some u→b≠s.heap.objs.size+1:=fun b u e=>Nat.ne_of_lt (Nat.lt_succ_of_lt (Heap.lt_size e))
 refine wpAny_bind (wpAny_holding (wpAny_call_entry slot_list_sort ⟨_,at1,rfl⟩ entry_list_sort (NU (s:={ s with heap:=g1 }) (κ:=κ) (lt:=lt) at1 o h64 (fun g' k=>hL g' fun b u e=>k b u (nk b u e) (kp b u e)) fun g' p c k pa inc at2=>?_) (args_list_sort _)))
 exact ⟨_,rfl,wpAny_pure ⟨_,rfl,hQ g' p c (fun b u e=>k b u (nk b u e) (kp b u e)) pa inc at2⟩⟩
end
end Z
namespace Z
open PySem PySem.Spec PySem.W PyProof.Rows L2 PySem.Calls
noncomputable def kAt (ks:List (Int × Int)) (i:Nat):Int × Int:=ks.getD i (0,0)
theorem JD {ks:List (Int × Int)} {i:Nat} (h:i<ks.length):kAt ks i=ks[i]:=by unfold kAt; simp [h]
theorem HQ {ks:List (Int × Int)} (nd:ks.Nodup):Ord ks.length fun i j=>pLt (kAt ks i) (kAt ks j):=by
 refine ⟨fun a b ha hb hne e=>?_,fun a b ha hb e=>?_,fun a b c ha hb hc e1 e2=>?_⟩
 ·have:kAt ks a≠kAt ks b:=by
   rw [JD ha,JD hb]
   exact fun z=>hne ((List.getElem_inj nd).mp z)
  rw [mT] at e
  rw [eM]
  have:¬ ((kAt ks a).1=(kAt ks b).1∧(kAt ks a).2=(kAt ks b).2):=fun q=>this (Prod.ext q.1 q.2)
  omega
 ·rw [eM] at e
  rw [mT]
  omega
 ·rw [eM] at e1 e2 ⊢
  omega
theorem JB {ks:List (Int × Int)} {p:Array Nat} (a:Prm ks.length p) (inc:Inc (fun i j=>pLt (kAt ks i) (kAt ks j)) p ks.length):p.toList.map (kAt ks)=jN ks:=by
 refine uZ ?_ ?_
 ·refine (a.pm.map _).trans (List.Perm.of_eq ?_)
  apply List.ext_getElem
  ·simp
  ·intro i h1 h2
   simp [kAt,h2]
 ·rw [List.pairwise_map,List.pairwise_iff_getElem]
  intro i j hi hj hij
  have l1:=a.size
  have:=inc i j hij (by simpa [l1] using hj)
  have e:∀ k (hk:k<p.toList.length),fp p k=p.toList[k]:=fun k hk=>by
   unfold fp
   rw [Array.getD_eq_getD_getElem?,Array.getElem?_eq_getElem (by simpa using hk)]
   simp
  rw [e i hi,e j hj] at this
  exact this
section
variable {X:Cx}{T:Tx}{pins:List (Addr × Obj)}{σ:L2.St}{H:Hp}{s:Shared}{S:Addr→Prop}
def aHd (h:Heap) (v:Value) (k:Int × Int):Prop:=∃ a o n t u,v=.ref a∧h.get? a=some o∧o.cls=.type "tuple"∧o.data=.seq #[.int k.1 t,.int k.2 u] n
noncomputable def gB (h:Heap):List Value→List (Int × Int)→Prop
 | [],ks=>ks=[]
 | v::r,ks=>∃ k ks',ks=k::ks'∧aHd h v k∧gB h r ks'
theorem gB.kept {h h':Heap} (hk:Kept h h'):∀ {vs:List Value} {ks:List (Int × Int)},gB h vs ks→gB h' vs ks
 | [],ks,e=>e
 | v::r,ks,⟨k,ks',e,⟨a,o,n,t,u,q1,q2,q3,q4⟩,q⟩=>⟨k,ks',e,⟨a,o,n,t,u,q1,hk _ _ q2,q3,q4⟩,gB.kept hk q⟩
theorem gB.get {h:Heap}:∀ {vs:List Value} {ks:List (Int × Int)},gB h vs ks→∀ i,i<vs.length→aHd h (vs.getD i Value.none) (kAt ks i)
 | [],ks,e,i,hi=>by simp at hi
 | v::r,ks,⟨k,ks',e,q0,q⟩,0,_=>by subst e; exact q0
 | v::r,ks,⟨k,ks',e,q0,q⟩,i+1,hi=>by
  subst e
  have:=gB.get q i (by simpa using hi)
  simpa [kAt] using this
theorem gB.tups {h:Heap}:∀ {vs:List Value} {ks:List (Int × Int)},gB h vs ks→∃ fs:List Value,KatTups h vs fs∧fs.length=vs.length∧∀ v ∈ fs,∃ i t,v=Value.int i t
 | [],ks,e=>⟨[],KatTups.nil,rfl,fun v hv=>by simp at hv⟩
 | v::r,ks,⟨k,ks',e,⟨a,o,n,t,u,q1,q2,q3,q4⟩,q⟩=>by
  obtain ⟨fs,h1,h2,h3⟩:=gB.tups q
  refine ⟨.int k.1 t::fs,?_,by simp [h2],fun v hv=>?_⟩
  ·rw [q1]
   exact KatTups.cons q2 q3 q4 (by simp) h1
  ·rcases List.mem_cons.mp hv with rfl|hv
   ·exact ⟨_,_,rfl⟩
   ·exact h3 v hv
theorem EM {prog:Program} {w:World} {A:Around} {s:Shared} {vs:List Value} {ks:List (Int × Int)} (h:gB s.heap vs ks):Lts prog w A (tuples' (Value.type "int" != Value.type "tuple")) vs (fun i j=>pLt (kAt ks i) (kAt ks j)) s:=by
 have hb:(Value.type "int" != Value.type "tuple")=true:=by decide
 refine ⟨fun h2 R hR=>?_,fun i j C hi hj hC=>?_⟩
 ·obtain ⟨fs,h1,h3,h4⟩:=h.tups
  refine kat_kind (T:=Value.type "int") h1 (by omega) (fun v hv=>?_) (by decide) hR
  obtain ⟨i,t,rfl⟩:=h4 v hv
  exact Looks.now
 ·obtain ⟨a,o,n,t,u,q1,q2,q3,q4⟩:=h.get i hi
  obtain ⟨a',o',n',t',u',q1',q2',q3',q4'⟩:=h.get j hj
  unfold kas_ask
  rw [q1,q1',hb]
  refine kat_lt q2 q4 q2' q4' ?_
  show KatLex prog w A true _ C [((.int (kAt ks i).1 t),(.int (kAt ks j).1 t')),((.int (kAt ks i).2 u),(.int (kAt ks j).2 u'))] 0 s
  refine kat_cons (wpAny_eqBool_int ?_)
  refine kat_go (fun e=>kat_yes (kat_cons (wpAny_eqBool_int (kat_go (fun e'=>kat_yes (kat_nil ?_)) fun e'=>kat_no ?_)))) fun e=>kat_no ?_
  ·have:pLt (kAt ks i) (kAt ks j)=false:=by
    rw [mT]
    rw [beq_iff_eq] at e e'
    omega
   rw [this] at hC
   exact hC
  ·refine kat_one _ _ (lt_int ?_)
   have:pLt (kAt ks i) (kAt ks j)=decide ((kAt ks i).2<(kAt ks j).2):=by
    rw [beq_iff_eq] at e
    unfold pLt
    rw [e]
    simp
   rw [this] at hC
   exact hC
  ·refine oneLt_int ?_
   have:pLt (kAt ks i) (kAt ks j)=decide ((kAt ks i).1<(kAt ks j).1):=by
    unfold pLt
    rw [e]
    simp
   rw [this] at hC
   exact hC
noncomputable def qV:List Value→List (Int × Int)→Prop
 | [],ks=>ks=[]
 | v::r,ks=>∃ i t ks',ks=(i,0)::ks'∧v=.int i t∧qV r ks'
theorem qV.get:∀ {vs:List Value} {ks:List (Int × Int)},qV vs ks→∀ i,i<vs.length→∃ t,vs.getD i Value.none=.int (kAt ks i).1 t∧(kAt ks i).2=0
 | [],ks,e,i,hi=>by simp at hi
 | v::r,ks,⟨k,t,ks',e,q0,q⟩,0,_=>by subst e; exact ⟨t,q0,rfl⟩
 | v::r,ks,⟨k,t,ks',e,q0,q⟩,i+1,hi=>by
  subst e
  have:=qV.get q i (by simpa using hi)
  simpa [kAt] using this
theorem IQ {prog:Program} {w:World} {A:Around} {s:Shared} {vs:List Value} {ks:List (Int × Int)} (h:qV vs ks):Lts prog w A oneType' vs (fun i j=>pLt (kAt ks i) (kAt ks j)) s:=by
 refine ⟨fun h2 R hR=>?_,fun i j C hi hj hC=>?_⟩
 ·refine kas_kind (T:=Value.type "int") h2 (fun v hv=>?_) (by decide) (by decide) hR
  obtain ⟨i,hi,rfl⟩:=List.getElem_of_mem hv
  obtain ⟨t,e,_⟩:=h.get i hi
  have:vs[i]=.int (kAt ks i).1 t:=by rw [← e]; simp [hi]
  rw [this]
  exact Looks.now
 ·obtain ⟨t,e,z⟩:=h.get i hi
  obtain ⟨t',e',z'⟩:=h.get j hj
  unfold kas_ask
  rw [e,e']
  refine kat_lt_int ?_
  have:pLt (kAt ks i) (kAt ks j)=decide ((kAt ks i).1<(kAt ks j).1):=by
   unfold pLt
   rw [z,z']
   simp
  rw [this] at hC
  exact hC
theorem getD_get {α:Type} {l:List α} {i:Nat} {d:α} (h:i<l.length):l[i]?=some (l.getD i d):=by simp [h]
theorem aS.pick {xs:List V} {us:List Value} (r:aS xs us):∀ {is:List Nat},(∀ i ∈ is,i<xs.length)→aS (is.map fun i=>xs.getD i .non) (is.map fun i=>us.getD i Value.none)
 | [],_=>.nil
 | i::is,h=>by
  have hi:=h i (by simp)
  obtain ⟨u,e1,e2⟩:=r.get (getD_get (d:=V.non) hi)
  have e3:us.getD i Value.none=u:=by simp [e1]
  refine .cons ?_ (aS.pick r fun j hj=>h j (List.mem_cons_of_mem _ hj))
  show L2.RelV (xs.getD i V.non) (us.getD i Value.none)
  rw [e3]
  exact e2
theorem aD.pick {K:PySem.W.Frag} {ds:List D} {xs:List V} (r:aD K T H S ds xs):∀ {is:List Nat},(∀ i ∈ is,i<ds.length)→aD K T H S (is.map fun i=>ds.getD i .non) (is.map fun i=>xs.getD i .non)
 | [],_=>aD.nil
 | i::is,h=>by
  have hi:=h i (by simp)
  obtain ⟨x,e1,e2⟩:=r.get (getD_get (d:=D.non) hi)
  have e3:xs.getD i .non=x:=by simp [e1]
  refine aD.cons ?_ (aD.pick r fun j hj=>h j (List.mem_cons_of_mem _ hj))
  show Rep K T H S (ds.getD i D.non) (xs.getD i V.non)
  rw [e3]
  exact e2
theorem nR:∀ {ds:List D} {ks:List (Int × Int)},jU ds=some ks→ds=ks.map eX
 | [],ks,h=>by simp only [jU] at h; cases h; rfl
 | d::ds,ks,h=>by
  unfold jU at h
  split at h
  ·rename_i e; cases e
  ·rename_i a b r e
   cases e
   obtain ⟨r',h1,rfl⟩:=Option.map_eq_some_iff.mp h
   rw [nR h1]; rfl
  ·cases h
theorem qC:∀ {ds:List D} {is:List Int},iA ds=some is→ds=is.map .int
 | [],ks,h=>by simp only [iA] at h; cases h; rfl
 | d::ds,ks,h=>by
  cases d<;>simp only [iA,reduceCtorEq] at h
  obtain ⟨r',h1,rfl⟩:=Option.map_eq_some_iff.mp h
  rw [qC h1]; rfl
theorem zS (I:Inv X pins σ H s):∀ {ks:List (Int × Int)} {xs:List V} {us:List Value},aD X.K T H S (ks.map eX) xs→aS xs us→gB s.heap us ks
 | [],xs,us,r,v=>by
  rw [List.map_nil] at r
  unfold aD at r
  subst r
  cases v
  rfl
 | k::ks,xs,us,r,v=>by
  rw [List.map_cons] at r
  unfold aD at r
  obtain ⟨x,w,rfl,rx,rr⟩:=r
  cases v with
  | cons v1 v2 =>
   refine ⟨k,ks,rfl,?_,zS I rr v2⟩
   unfold eX at rx
   unfold Rep at rx
   obtain ⟨a,ys,rfl,_,hq,ry⟩:=rx
   cases v1
   obtain ⟨its,rv,⟨o,ho,hc,n,hd⟩,_⟩:=I.tuple hq
   unfold aD at ry
   obtain ⟨y,ys',rfl,ry1,ry⟩:=ry
   unfold aD at ry
   obtain ⟨y2,ys2,rfl,ry2,ry⟩:=ry
   unfold aD at ry
   subst ry
   unfold Rep at ry1 ry2
   subst ry1 ry2
   obtain ⟨u1,u2,rfl,⟨t,rfl⟩,⟨t',rfl⟩⟩:=rv.two
   exact ⟨a,o,n,t,t',rfl,ho,hc,hd⟩
theorem AN:∀ {is:List Int} {xs:List V} {us:List Value},aD X.K T H S (is.map .int) xs→aS xs us→qV us (is.map fun i=>(i,0))
 | [],xs,us,r,v=>by
  rw [List.map_nil] at r
  unfold aD at r
  subst r
  cases v
  rfl
 | k::ks,xs,us,r,v=>by
  rw [List.map_cons] at r
  unfold aD at r
  obtain ⟨x,w,rfl,rx,rr⟩:=r
  cases v with
  | cons v1 v2 =>
   unfold Rep at rx
   subst rx
   obtain ⟨t,rfl⟩:=v1
   exact ⟨k,t,_,rfl,rfl,AN rr v2⟩
theorem DU {l:Addr} {xs:List V} {ds es:List D} {Q:VK} (I:Inv X pins σ H s) (hl:SqL X.K H l xs) (r:aD X.K T H S ds xs) (hs:kG ds=some es)
  (q:∀ p zs,H p=none→aD X.K T H S es zs→Q (.ref p) (upd H p (.lst zs))):wpAny (model X.prog X.w) X.A (call (.builtin "sorted") [.ref l]) (EP X pins σ Q) X.xe s:=by
 obtain ⟨its,rv,pl,hz⟩:=I.list hl
 have l1:=r.len
 have l2:=rv.length
 have fin:∀ (ks:List (Int × Int)) (g:Int × Int→D) (κ:SortKind),ds=ks.map g→ks.length=ds.length→jJ ks=true→(∀ g',Kept s.heap g'→Lts X.prog X.w X.A.in1.in1 κ its (fun i j=>pLt (kAt ks i) (kAt ks j)) { s with heap:=g' })→es=(jN ks).map g →
   wpAny (model X.prog X.w) X.A (call (.builtin "sorted") [.ref l]) (EP X pins σ Q) X.xe s:=fun ks g κ hd hk hc hL he=>by
  unfold jJ at hc
  rw [Bool.and_eq_true,decide_eq_true_eq,decide_eq_true_eq] at hc
  have e0:its.length=ks.length:=by omega
  have o:=HQ hc.2
  rw [← e0] at o
  refine wW (κ:=κ) pl.isList o (by omega) hL fun g' p c kp pa inc at1=>?_
  have mem:∀ i ∈ p.toList,i<its.length:=fun i hi=>by simpa using pa.pm.mem_iff.mp hi
  have hfr:H (s.heap.objs.size+1)=none:=I.hok.fresh (Nat.le_succ _)
  have I3:Inv X pins σ (upd H (s.heap.objs.size+1) (.lst (p.toList.map fun i=>xs.getD i .non))) { s with heap:=g',toks:=s.toks }:=by
   refine I.laid kp (Nat.le_succ _) ⟨?_,kK its p,c,aS.pick rv fun i hi=>by rw [l2]; exact mem i hi,at1⟩
   rw [List.length_map,Array.length_toList,pa.size,← l2]
   exact hz
  refine ⟨.ref _,_,I3,rfl,q _ _ hfr ?_⟩
  have e1:es=p.toList.map fun i=>ds.getD i .non:=by
   rw [he,← JB (by rw [← e0]; exact pa) (by rw [← e0]; exact inc),List.map_map]
   refine List.map_congr_left fun i hi=>?_
   have hi':=mem i hi
   subst hd
   simp [kAt,show i<ks.length by omega]
  rw [e1]
  exact aD.pick r fun i hi=>by rw [l1,l2]; exact mem i hi
 unfold kG at hs
 split at hs
 ·rename_i ks hk
  split at hs
  ·rename_i hc
   cases hs
   have ed:=nR hk
   subst ed
   exact fin ks eX _ rfl (by simp) hc (fun g' kp=>EM (s:={ s with heap:=g' }) (gB.kept kp (zS I r rv))) rfl
  ·cases hs
 ·split at hs
  ·rename_i is hk
   split at hs
   ·rename_i hc
    cases hs
    have ed:=qC hk
    subst ed
    exact fin (is.map fun i=>(i,0)) (fun p=>.int p.1) _ (by simp [List.map_map,Function.comp_def]) (by simp) hc (fun g' kp=>IQ (AN (X:=X) r rv)) rfl
   ·cases hs
  ·cases hs
noncomputable def rBs (K:PySem.W.Frag) (T:Tx) (S:Addr→Prop):List V→Hp→VK→Prop:=fun vs H Q =>
 ∃ l xs ds es,vs=[.ref l]∧SqL K H l xs∧aD K T H S ds xs∧kG ds=some es∧∀ p ys H',aG H H'→H p=none→H' p=some (.lst ys)→aD K T (er H' p) S es ys→Q (.ref p) H'
theorem xA:eC X (.builtin "sorted") (rBs X.K T S):=by
 rintro pins s σ H vs us Q I r ⟨l,xs,ds,es,rfl,hl,rl,hs,q⟩
 obtain ⟨u,rfl,ru⟩:=r.one
 cases ru
 exact DU I hl rl hs fun p zs hp rz=>q p zs _ (aG.upd hp) hp aJ (by rw [hV hp]; exact rz)
end
end Z
namespace Z
open PySem PySem.Spec PyProof.Rows L2
variable {CX:CXT}{G:GS}{T:Tx}{lv:Nat}
theorem bZ {o:Option D} {ds:List D} (h:bH o=some ds):o=some (.tup ds):=by
 unfold bH at h
 split at h
 ·cases h; rfl
 ·cases h
theorem lK {o:Option Rs} {d:D} (h:gX o=some d):o=some (.ok d):=by
 unfold gX at h
 split at h
 ·cases h; rfl
 ·cases h
theorem gZ {o:Option D} {i:Int} (h:intOf o=some i):o=some (.int i):=by
 unfold intOf at h
 split at h
 ·cases h; rfl
 ·cases h
theorem dN {X:Cx} {K:PySem.W.Frag} {c:CC} {S:Addr→Prop} {ρ:List Sl} {e:Expr} {d:D} (h:PE X e (tD X.K T S ρ d)) (hf:gC c e=false):PE X e (tD X.K T S ρ d)∧(gC c e=true→∀ ds,d=.lst ds→PE X e (tNw X.K T S ρ ds)):=
 ⟨h,fun z=>by rw [hf] at z; cases z⟩
theorem eD {X:Cx} {c:CC} {S:Addr→Prop} {ρ:List Sl} {e:Expr} {ds:List D} (h:PE X e (tNw X.K T S ρ ds)):PE X e (tD X.K T S ρ (.lst ds))∧(gC c e=true→∀ es,D.lst ds=.lst es→PE X e (tNw X.K T S ρ es)):=
 ⟨IK h,fun _ es z=>by cases z; exact h⟩
theorem fY {X:Cx} {c:CC} {S:Addr→Prop} {ρ:List Sl} {n:Nat} (hE:OkE CX G T lv n) (xc:XC CX X c G T lv) {lo:Option Expr} {l:IE} {o:Option Int} (h:rR (cE n c) lo=some l) (hp:part lo.isSome (ev G l ρ)=some o):PO X lo (tPt X.K T S ρ o):=by
 cases lo with
 | none =>
  simp only [part,Option.isSome_none,Bool.false_eq_true,if_false,Option.some.injEq] at hp
  subst hp
  exact aFE
 | some e =>
  simp only [part,Option.isSome_some,if_true,Option.map_eq_some_iff] at hp
  obtain ⟨i,hi,rfl⟩:=hp
  exact aFD (hE X c S ρ e l xc h _ (gZ hi)).1
theorem EL {c:CC} {x:Str} {i:Nat} (h:aAa c x=some i):bT c x=some i:=by
 unfold aAa at h
 exact (bK h).2
theorem fL {c:CC} {e:Expr} {i:Nat} (h:fP c e=some i):∃ x p,e=.Name x p∧bT c x=some i:=by
 obtain ⟨x,h1,h⟩:=aF h
 exact ⟨x.1,x.2,cM h1,EL h⟩
theorem qF {K:PySem.W.Frag} {S:Addr→Prop} {H H1 H':Hp} {es:List D} {v:V} {Q:VK} (s1:aG H H1) (s2:aG H1 H') (fr:qW K T S H1 H' (.lst es) v) (q:∀ p xs H',aG H H'→H p=none→H' p=some (.lst xs)→aD K T (er H' p) S es xs→Q (.ref p) H'):Q v H':=by
 obtain ⟨p,xs,rfl,hn,hs,rl⟩:=fr es rfl
 exact q p xs H' (s1.trans s2) (s1.free hn) hs rl
theorem ZW {X:Cx} {c:CC} {S:Addr→Prop} {ρ:List Sl} (xc:XC CX X c G T lv) {y:Str} {p py q:Pos} {i:Nat} {xs:List D} (hg:aX c "len" = true) (hm:X.mg "len" = none) (e:bT c y=some i) (hs:eT ρ i=some xs) :
  PE X (.Call (.Name "len" p) [.Name y py] [] q) (tD X.K T S ρ (.int xs.length)):=by
 have st:starEach [.Name y py] X.env=(false,eval (.Name y py) X.env)::starEach [] X.env:=rfl
 refine PE.mono (dM fJ (xc.glob hg) hm (by decide +kernel) (bB (kM xc e) eY st) (by decide +kernel) (by decide +kernel) rfl rfl) fun σ H Q ⟨re,q⟩=>?_
 obtain ⟨p,ys,e1,e2,rl⟩:=iY re hs
 exact ⟨_,e1,p,ys,rfl,.inl (SqL.of e2),by rw [← rl.len]; exact q _ H (aG.refl H) dG⟩
theorem qO:bootBuiltins "sorted" = some (.builtin "sorted"):=by decide +kernel
theorem mF {ds:List D} {d:D} (h:hU ds=some d):∃ xs es,ds=[.lst xs]∧kG xs=some es∧d=.lst es:=by
 unfold hU at h
 split at h
 ·obtain ⟨es,h1,rfl⟩:=Option.map_eq_some_iff.mp h
  exact ⟨_,es,rfl,h1,rfl⟩
 ·cases h
theorem QN {X:Cx} {c:CC} {S:Addr→Prop} {ρ:List Sl} (xc:XC CX X c G T lv) {y:Str} {p py q:Pos} {i:Nat} {xs es:List D} (hg:aX c "sorted" = true) (hm:X.mg "sorted" = none) (e:bT c y=some i) (hs:eT ρ i=some xs) (hd:kG xs=some es) :
  PE X (.Call (.Name "sorted" p) [.Name y py] [] q) (tNw X.K T S ρ es):=by
 have st:starEach [.Name y py] X.env=(false,eval (.Name y py) X.env)::starEach [] X.env:=rfl
 refine PE.mono (dM (xA (T:=T) (S:=S)) (xc.glob hg) hm qO (bB (kM xc e) eY st) (by decide +kernel) (by decide +kernel) rfl rfl) fun σ H Q ⟨re,q⟩=>?_
 obtain ⟨p,ys,e1,e2,rl⟩:=iY re hs
 exact ⟨_,e1,p,ys,xs,es,rfl,SqL.of e2,rl,hd,q⟩
theorem aAS:bootBuiltins "len" = some (.builtin "len"):=by decide +kernel
theorem aAT:bootBuiltins "int" = some (.type "int"):=by decide +kernel
theorem LB:bootBuiltins "tuple" = some (.type "tuple"):=by decide +kernel
theorem aAR:bootBuiltins "max" = some (.builtin "max"):=by decide +kernel
theorem aAQ:bootBuiltins "min" = some (.builtin "min"):=by decide +kernel
theorem QR {X:Cx} {c:CC} {S:Addr→Prop} {ρ:List Sl} (xc:XC CX X c G T lv) {x:Str} {b:BF} {p pos:Pos} {es:List Expr} {ds:List D} {d:D} (hg:aX c x=true) (hm:X.mg x=none) (hb:oX x=some b) (ha:PA X es (tAs X.K T S ρ ds)) (hs:starEach es X.env=es.map fun e=>(false,eval e X.env)) (hlen:ds.length=es.length) (hd:bf b ds=some d) :
  PE X (.Call (.Name x p) es [] pos) (tD X.K T S ρ d)∧(x = "list"∨x = "sorted"→∀ es',d=.lst es'→PE X (.Call (.Name x p) es [] pos) (tNw X.K T S ρ es')):=by
 cases es with
 | nil =>
  have:ds=[]:=List.length_eq_zero_iff.mp hlen
  subst this
  cases b<;>simp [bf,RN,RO,wB,tS,zC,JY,hU] at hd
 | cons e es =>
  obtain ⟨h1,h2⟩:=pR (pos:=pos) hs
  have hgl:=xc.glob hg
  have go:∀ {g:List D→Option D},g ds=some d→∀ σ H Q,tD X.K T S ρ d σ H Q→tCB (rBf X.K T S g) (tAs X.K T S ρ ds) σ H Q:=fun {g} hg' σ H Q ⟨re,q⟩=>⟨re,fun vs H1 s1 r1=>⟨ds,d,(re.same s1).dom,r1,hg',fun v H' s2 r2=>q v H' (s1.trans s2) r2⟩⟩
  unfold oX at hb
  split at hb
  ·rename_i e0; subst e0; cases hb
   exact ⟨PE.mono (dM aGw hgl hm aAS ha (by decide +kernel) (by decide +kernel) h1 h2) (go hd),fun z=>absurd z (by decide +kernel)⟩
  split at hb
  ·rename_i e0; subst e0; cases hb
   exact ⟨PE.mono (lJ aGx hgl hm aAT ha (by decide +kernel) (by decide +kernel) h1 h2) (go hd),fun z=>absurd z (by decide +kernel)⟩
  split at hb
  ·rename_i e0; subst e0; cases hb
   have hl:∃ es',d=.lst es':=by
    simp only [bf] at hd
    unfold wB at hd
    split at hd<;>first|(cases hd; exact ⟨_,rfl⟩)|cases hd
   obtain ⟨es',rfl⟩:=hl
   have pn:PE X (.Call (.Name "list" p) (e::es) [] pos) (tNw X.K T S ρ es'):=PE.mono (lJ aAV hgl hm CS ha (by decide +kernel) (by decide +kernel) h1 h2) fun σ H Q ⟨re,q⟩=>⟨re,fun vs H1 s1 r1=>⟨ds,es',r1,hd,fun p ys H' s2 hn hs' rl=>by
    refine q p ys H' (s1.trans s2) ?_ hs' rl
    cases e0:H p with
    | none=>rfl
    | some o=>rw [s1 p o e0] at hn; cases hn⟩⟩
   exact ⟨IK pn,fun _ es2 z=>by cases z; exact pn⟩
  split at hb
  ·rename_i e0; subst e0; cases hb
   exact ⟨PE.mono (lJ SG hgl hm LB ha (by decide +kernel) (by decide +kernel) h1 h2) (go hd),fun z=>absurd z (by decide +kernel)⟩
  split at hb
  ·rename_i e0; subst e0; cases hb
   exact ⟨PE.mono (dM (aGu xc.calm) hgl hm aAR ha (by decide +kernel) (by decide +kernel) h1 h2) (go hd),fun z=>absurd z (by decide +kernel)⟩
  split at hb
  ·rename_i e0; subst e0; cases hb
   exact ⟨PE.mono (dM (aGt xc.calm) hgl hm aAQ ha (by decide +kernel) (by decide +kernel) h1 h2) (go hd),fun z=>absurd z (by decide +kernel)⟩
  split at hb
  ·cases hb; cases hd
  split at hb
  ·rename_i e0; subst e0; cases hb
   obtain ⟨xs,es',rfl,hso,rfl⟩:=mF hd
   have pn:PE X (.Call (.Name "sorted" p) (e::es) [] pos) (tNw X.K T S ρ es'):=PE.mono (dM (xA (T:=T) (S:=S)) hgl hm qO ha (by decide +kernel) (by decide +kernel) h1 h2) fun σ H Q ⟨re,q⟩=>⟨re,fun vs H1 s1 r1=>by
    obtain ⟨x,rfl,rx⟩:=rep1 r1
    unfold Rep at rx
    obtain ⟨l,ys,rfl,_,hq,ry⟩:=rx
    refine ⟨l,ys,xs,es',rfl,SqL.of hq,ry,hso,fun p zs H' s2 hn hs' rl=>q p zs H' (s1.trans s2) ?_ hs' rl⟩
    cases e0:H p with
    | none=>rfl
    | some o=>rw [s1 p o e0] at hn; cases hn⟩
   exact ⟨IK pn,fun _ es2 z=>by cases z; exact pn⟩
  split at hb
  ·cases hb; cases hd
  ·cases hb
theorem aGs {x:Str} {b:BF} (h:oX x=some b):fK.contains x=true:=by
 unfold oX at h
 repeat' split at h
 all_goals first|cases h; done|(rename_i e; subst e; decide +kernel)
theorem aCe {x:Str} (h:iX.contains x=true):fK.contains x=true:=by
 rw [List.contains_iff_mem] at h ⊢
 unfold iX at h
 simp only [List.mem_cons,List.not_mem_nil,or_false] at h
 rw [← List.contains_iff_mem]
 rcases h with h|h|h|h|h<;>subst h<;>decide +kernel
section
variable {n:Nat}{X:Cx}{c:CC}{S:Addr→Prop}{ρ:List Sl}{ir:IE}{d:D}
abbrev Tells (CX:CXT) (T:Tx) (X:Cx) (c:CC) (S:Addr→Prop) (ρ:List Sl) (e:Expr) (d:D):Prop:=PE X e (tD X.K T S ρ d)∧(gC c e=true→∀ ds,d=.lst ds→PE X e (tNw X.K T S ρ ds))
theorem aDU (hE:OkE CX G T lv n) (hA:OkA CX G T lv n) (xc:XC CX X c G T lv) {x:Str} {p q:Pos} {args:List Expr} {b:BF} (hg:aX c x=true) (hf:c.fns.contains x=false) (hc:c.cls.contains x=false) (hb:oX x=some b) (h:EA (cE n c) c b args (cA n c args)=some ir) (hd:ev G ir ρ=some d):Tells CX T X c S ρ (.Call (.Name x p) args [] q) d:=by
 have hm:=jK xc (aGs hb) hf hc
 have bcl:∀ {y:IE},cA n c args=some y→ir=.bcall b y→Tells CX T X c S ρ (.Call (.Name x p) args [] q) d:=fun {y} hy e=>by
  subst e
  simp only [ev,Option.bind_eq_bind,Option.bind_eq_some_iff] at hd
  obtain ⟨ds,hds,hd⟩:=hd
  obtain ⟨ds',e1,hl,pa,hs⟩:=hA X _ S ρ args y xc hy _ (bZ hds)
  cases e1
  have r:=QR (p:=p) (pos:=q) xc hg hm hb pa hs hl hd
  refine ⟨r.1,fun z es e=>r.2 ?_ es e⟩
  have z:((c.fns.contains x&&c.fresh.contains x) || (aX c x&&(x == "list" || x == "sorted")&&!own c x))=true:=z
  simp only [own,hf,hc,hg,Bool.false_and,Bool.false_or,Bool.true_and,Bool.or_false,Bool.not_false,Bool.and_true,Bool.or_eq_true,beq_iff_eq] at z
  exact z
 have mb:(cA n c args).map (fun x=>IE.bcall b x)=some ir→Tells CX T X c S ρ (.Call (.Name x p) args [] q) d:=fun h=>by
  obtain ⟨y,hy,e⟩:=aQ h
  exact bcl hy e
 unfold EA at h
 cases hmu:VH c args with
 | some i =>
  rw [hmu] at h
  obtain ⟨e,h1,h2⟩:=aF hmu
  obtain ⟨y,py,rfl,hsl⟩:=fL h2
  obtain rfl:=bQ h1
  cases b with
  | int=>exact mb h
  | list=>exact mb h
  | tuple=>exact mb h
  | max=>exact mb h
  | min=>exact mb h
  | str=>exact mb h
  | any=>exact mb h
  | len =>
   cases (show some (IE.lenm i)=some ir from h)
   simp only [ev,Option.bind_eq_bind,Option.bind_eq_some_iff,Option.some.injEq] at hd
   obtain ⟨xs,hxs,rfl⟩:=hd
   have hx:x = "len":=by
    unfold oX at hb
    repeat' split at hb
    all_goals first|assumption|cases hb
   subst hx
   exact ⟨ZW xc hg hm hsl hxs,fun _ ds z=>by cases z⟩
  | sorted =>
   cases (show some (IE.sortm i)=some ir from h)
   simp only [ev,Option.bind_eq_bind,Option.bind_eq_some_iff] at hd
   obtain ⟨xs,hxs,hd⟩:=hd
   obtain ⟨xs',es,e0,hso,rfl⟩:=mF hd
   cases e0
   have hx:x = "sorted":=by
    unfold oX at hb
    repeat' split at hb
    all_goals first|assumption|cases hb
   subst hx
   exact eD (QN xc hg hm hsl hxs hso)
 | none =>
  rw [hmu] at h
  cases hr:xN c args with
  | none =>
   rw [hr] at h
   exact mb (by cases b<;>exact h)
  | some a =>
   rw [hr] at h
   cases b with
   | int=>exact mb h
   | len=>exact mb h
   | tuple=>exact mb h
   | max=>exact mb h
   | min=>exact mb h
   | str=>exact mb h
   | any=>exact mb h
   | sorted=>exact mb h
   | list =>
   clear bcl mb
   obtain ⟨z,hz,rfl⟩:=aQ (show (cE n c a).map (fun x=>IE.walk .rev x)=some ir from h)
   simp only [ev,Option.bind_eq_bind,Option.bind_eq_some_iff,Option.map_eq_some_iff] at hd
   obtain ⟨w,hw,ds,hds,rfl⟩:=hd
   have hx:x = "list":=by
    unfold oX at hb
    repeat' split at hb
    all_goals first|assumption|cases hb
   subst hx
   obtain ⟨e,h1,r1⟩:=aF hr
   obtain ⟨r,h2,r2⟩:=aF r1
   obtain ⟨hn,r3⟩:=bK r2
   obtain ⟨p1,p2,e5,hg',ho⟩:=mK h2
   obtain ⟨y,as⟩:=r
   have e6:y = "reversed":=beq_iff_eq.mp hn
   have e7:as=[a]:=bQ r3
   have e8:=bQ h1
   clear hr h1 r1 h2 r2 hn r3 hmu h
   subst e6 e7
   dsimp only at e5 hg' ho
   subst e5
   subst e8
   obtain ⟨hf',hc'⟩:=HN ho
   have st:=(dJ hz).star X.env []
   exact eD (xZ xc.calm (xc.glob hg') (jK xc (by decide +kernel) hf' hc') (xc.glob hg) hm (yC (hE X _ S ρ a z xc hz w hw).1 IJ st) st hds)
theorem HX (hE:OkE CX G T lv n) (hA:OkA CX G T lv n) (xc:XC CX X c G T lv) {x:Str} {p q:Pos} {args:List Expr} (h:zV (cE n c) c x args (cA n c args)=some ir) (hd:ev G ir ρ=some d):Tells CX T X c S ρ (.Call (.Name x p) args [] q) d:=by
 obtain ⟨hg,h⟩:=bK h
 cases hfn:c.fns.contains x with
 | true =>
  rw [hfn] at h
  obtain ⟨y,hy,rfl⟩:=aQ (show (cA n c args).map (fun y=>IE.call x y)=some ir from h)
  simp only [ev,Option.bind_eq_bind,Option.bind_eq_some_iff] at hd
  obtain ⟨ds,hds,hd⟩:=hd
  obtain ⟨ds',e1,hl,pa,hs⟩:=hA X _ S ρ args y xc hy _ (bZ hds)
  cases e1
  have r:=ZZ (p:=p) (pos:=q) xc hg hfn pa hs hl (lK hd)
  refine ⟨PE.mono r fun σ H Q ⟨re,q⟩=>⟨re,fun v H1 H' s1 s2 rp _=>q v H' (s1.trans s2) rp⟩,fun hf es e=>?_⟩
  subst e
  have hf':G.ff x=true:=by
   have z:((c.fns.contains x&&c.fresh.contains x) || (aX c x&&(x == "list" || x == "sorted")&&!own c x))=true:=hf
   simp only [own,hfn,Bool.true_and,Bool.true_or,Bool.not_true,Bool.and_false,Bool.or_false] at z
   exact (xc.go.frs x z).1
  exact PE.mono r fun σ H Q ⟨re,q⟩=>⟨re,fun v H1 H' s1 s2 rp fr=>qF s1 s2 (fr hf') q⟩
 | false =>
  rw [hfn] at h
  cases hcl:c.cls.contains x with
  | true =>
   rw [hcl] at h
   obtain ⟨y,hy,rfl⟩:=aQ (show (cA n c args).map (fun y=>IE.mk x y)=some ir from h)
   simp only [ev,Option.bind_eq_bind,Option.bind_eq_some_iff] at hd
   obtain ⟨ds,hds,hd⟩:=hd
   obtain ⟨ds',e1,hl,pa,hs⟩:=hA X _ S ρ args y xc hy _ (bZ hds)
   cases e1
   refine dN (K:=X.K) (aJl xc hg hcl pa hs hl (lK hd)) ?_
   show ((c.fns.contains x&&c.fresh.contains x) || (aX c x&&(x == "list" || x == "sorted")&&!own c x))=false
   simp only [own,hfn,hcl,Bool.false_and,Bool.or_true,Bool.not_true,Bool.and_false,Bool.or_false]
  | false =>
   rw [hcl] at h
   cases hi:x == "isinstance" with
   | false =>
    rw [hi] at h
    obtain ⟨b,hb,h⟩:=aF (show (oX x).bind (fun b=>EA (cE n c) c b args (cA n c args))=some ir from h)
    exact aDU hE hA xc hg hfn hcl hb h hd
   | true =>
    rw [hi] at h
    obtain rfl:=beq_iff_eq.mp hi
    have h:GR (cE n c) c args=some ir:=h
    match args,h with
    | [a,y],h =>
     obtain ⟨y',hy',h⟩:=aF h
     obtain ⟨hk,h⟩:=bK h
     obtain ⟨hk,hk3⟩:=cU hk
     obtain ⟨hk1,hk2⟩:=cU hk
     obtain ⟨z,hz,rfl⟩:=aQ h
     obtain rfl:=cM hy'
     obtain ⟨ho1,ho2⟩:=HN (VD hk3)
     simp only [ev,Option.bind_eq_bind,Option.bind_eq_some_iff,Option.map_eq_some_iff] at hd
     obtain ⟨w,hw,k,hk,rfl⟩:=hd
     have ht:∃ tn,tyn w=some tn:=by
      cases w<;>first|exact ⟨_,rfl⟩|(simp only [iP,reduceCtorEq] at hk)
     obtain ⟨tn,ht⟩:=ht
     have st:=(dJ hz).star X.env [.Name y'.1 y'.2]
     exact ⟨aFK xc hg (jK xc (by decide +kernel) hfn hcl) hk1 (jK xc (aCe hk2) ho1 ho2) hk2 (hE X _ S ρ a z xc hz w hw).1 (by rw [st]; rfl) ht hk,fun _ ds z=>by cases z⟩
theorem QH (hE:OkE CX G T lv n) (hA:OkA CX G T lv n) (xc:XC CX X c G T lv) {o:Expr} {m:Str} {ap q:Pos} {args:List Expr} (h:(if jC o&&decide (args.length<30)&&(ap.endLine == q.line) then (cE n c o).bind fun x=>(cA n c args).map fun y=>IE.meth x m y else none)=some ir) (hd:ev G ir ρ=some d):Tells CX T X c S ρ (.Call (.Attribute o m ap) args [] q) d:=by
 obtain ⟨hc,h⟩:=bK h
 obtain ⟨hc,hc3⟩:=cU hc
 obtain ⟨hc1,hc2⟩:=cU hc
 obtain ⟨x,hx,h⟩:=aF h
 obtain ⟨y,hy,rfl⟩:=aQ h
 simp only [ev,Option.bind_eq_bind,Option.bind_eq_some_iff] at hd
 obtain ⟨w,hw,hd⟩:=hd
 cases w<;>first|exact nomatch (show none=some d from hd)|skip
 rename_i cn fs
 obtain ⟨hnone,hd⟩:=bK hd
 obtain ⟨ds,hds,hd⟩:=aF hd
 obtain ⟨ds',e1,hl,pa,hs⟩:=hA X _ S ρ args y xc hy _ (bZ hds)
 cases e1
 have r:=ZV (pos:=q) xc (vN hc1 hs (of_decide_eq_true hc2) hc3) (hE X _ S ρ o x xc hx _ hw).1 (Option.isNone_iff_eq_none.mp hnone) pa hs hl (lK hd)
 refine ⟨PE.mono r fun σ H Q ⟨re,q⟩=>⟨re,fun v H1 H' s1 s2 rp _=>q v H' (s1.trans s2) rp⟩,fun hf es e=>?_⟩
 subst e
 have hf':=(xc.go.frs m hf).2 cn
 exact PE.mono r fun σ H Q ⟨re,q⟩=>⟨re,fun v H1 H' s1 s2 rp fr=>qF s1 s2 (fr hf') q⟩
theorem JW {es:List Expr} (h:few es=true):es.length≤sizeLine:=Nat.le_trans (of_decide_eq_true h) (Nat.le_trans (by decide) iV)
theorem ZP (hE:OkE CX G T lv n) (xc:XC CX X c G T lv) {a i:Expr} {p:Pos} (h:GQ (cE n c) (fP c a) (cE n c a) i=some ir) (hd:ev G ir ρ=some d):Tells CX T X c S ρ (.Subscript a i p) d:=by
 unfold GQ at h
 cases hsl:slP i with
 | some q =>
  rw [hsl] at h
  obtain ⟨lo,hi,st,pp⟩:=q
  obtain rfl:=GN hsl
  cases st with
  | some _=>exact nomatch (show none=some ir from h)
  | none =>
   obtain ⟨l,hl,h⟩:=aF (show (rR (cE n c) lo).bind _=some ir from h)
   obtain ⟨u,hu,h⟩:=aF h
   unfold aCW at h
   cases hm:fP c a with
   | some j =>
    rw [hm] at h
    cases h
    obtain ⟨x,px,rfl,hsl⟩:=fL hm
    simp only [ev,Option.bind_eq_bind,Option.bind_eq_some_iff,Option.some.injEq] at hd
    obtain ⟨xs,hxs,ol,hol,ou,hou,rfl⟩:=hd
    exact eD (aFB xc hsl hxs (fY hE xc hl hol) (fY hE xc hu hou))
   | none =>
    rw [hm] at h
    obtain ⟨x,hx,rfl⟩:=aQ h
    simp only [ev,Option.bind_eq_bind,Option.bind_eq_some_iff] at hd
    obtain ⟨w,hw,ol,hol,ou,hou,hd⟩:=hd
    have pa:=(hE X _ S ρ a x xc hx w hw).1
    cases w<;>first|exact nomatch (show none=some d from hd)|skip
    ·cases hd
     exact eD (VE pa (fY hE xc hl hol) (fY hE xc hu hou) (.inl rfl))
    ·simp only at hd
     split at hd
     ·cases hd
     ·rename_i hw'
      cases hd
      exact ⟨aFC pa (fY hE xc hl hol) (fY hE xc hu hou) hw',fun _ ds z=>by cases z⟩
    ·cases hd
     exact eD (VE pa (fY hE xc hl hol) (fY hE xc hu hou) (.inr rfl))
 | none =>
  rw [hsl] at h
  obtain ⟨k,hk,h⟩:=aF h
  refine dN (K:=X.K) ?_ (by show (slP i).isSome=false; rw [hsl]; rfl)
  unfold aCZ at h
  cases hm:fP c a with
  | some j =>
   rw [hm] at h
   cases h
   obtain ⟨x,px,rfl,hsl⟩:=fL hm
   simp only [ev,Option.bind_eq_bind,Option.bind_eq_some_iff] at hd
   obtain ⟨xs,hxs,ii,hii,hd⟩:=hd
   exact aFJ xc hsl (hE X _ S ρ i k xc hk _ (gZ hii)).1 (dJ hk).ix hxs hd
  | none =>
   rw [hm] at h
   obtain ⟨x,hx,rfl⟩:=aQ h
   simp only [ev,Option.bind_eq_bind,Option.bind_eq_some_iff] at hd
   obtain ⟨u,hu,v,hv,hd⟩:=hd
   have pa:=(hE X _ S ρ a x xc hx u hu).1
   have pi:=(hE X _ S ρ i k xc hk v hv).1
   cases v<;>first|(cases u<;>exact nomatch (show none=some d from hd))|skip
   cases u<;>first|exact nomatch (show none=some d from hd)|skip
   ·exact ZX pa pi (dJ hk).ix (.inl rfl) hd
   ·exact ZX pa pi (dJ hk).ix (.inr (.inl rfl)) hd
   ·exact aFO (VL xc.room) pa pi (dJ hk).ix hd
   ·exact ZX pa pi (dJ hk).ix (.inr (.inr rfl)) hd
theorem CO (hE:OkE CX G T lv n) (hT:OkT CX G T lv n) (hI:OkI CX G T lv n) (xc:XC CX X c G T lv) {elt:Expr} {gs:List Comprehension} {sc:Scope} {p:Pos} (h:cE (n+1) c (.ListComp elt gs sc p)=some ir) (hd:ev G ir ρ=some d) :
  ∃ tg iter ifs fr tgs tp ds outs f,gs=[⟨tg,iter,ifs,0⟩]∧d=.lst outs∧kA c sc=true∧freeOf c sc (sc.names.filter fun x=>x.2 == .free)=some fr∧tgs.all (fun i=>(fr.lookup i).isNone)=true∧cX { c with N:=ownNames sc,sc:=sc } tg=some (tgs,tp) ∧
   PI X tg iter (tI X.K T S ρ ds)∧(∀ x,foldedSetIterable iter X.env x=pure x)∧bP f ds=some outs ∧
   (∀ d o,f d=some o→∃ ρ1,bE tgs tp d (frame (ownNames sc).length fr ρ)=some ρ1∧TurnOk CX G T lv { c with N:=ownNames sc,sc:=sc } X.K ifs elt ρ1 o):=by
 obtain ⟨g,hgs,h⟩:=aF h
 obtain ⟨tg,iter,ifs,as⟩:=g
 by_cases ha:as=0
 ·subst ha
  obtain ⟨⟨tgs,tp⟩,htg,h⟩:=aF (show GT c sc ⟨tg,iter,ifs,0⟩ (cI n c iter) (cT n { c with N:=ownNames sc,sc:=sc }) (cE n { c with N:=ownNames sc,sc:=sc } elt)=some ir from h)
  obtain ⟨⟨k,src⟩,hk,h⟩:=aF h
  obtain ⟨test,htest,h⟩:=aF h
  obtain ⟨el,hel,h⟩:=aF h
  obtain ⟨fr,hfr,h⟩:=aF h
  obtain ⟨hok,h⟩:=bK h
  obtain ⟨ho1,ho2⟩:=cU hok
  cases h
  obtain ⟨s,hs,hd⟩:=aF hd
  obtain ⟨ds,hds,hd⟩:=aF hd
  obtain ⟨outs,houts,rfl⟩:=aQ hd
  obtain ⟨hi,hset⟩:=hI X _ S ρ iter k src xc hk s ds hs hds
  refine ⟨tg,iter,ifs,fr,tgs,tp,ds,outs,_,bQ hgs,rfl,ho1,hfr,ho2,htg,hi tg,hset,houts,?_⟩
  intro d o hf
  obtain ⟨ρ1,h1,hf⟩:=aF hf
  obtain ⟨w,hw,hf⟩:=aF hf
  refine ⟨ρ1,h1,fun X' S' xc' hK=>?_⟩
  cases w<;>first|exact nomatch (show none=some o from hf)|skip
  rename_i kk
  have ho:kk=o.isSome∧∀ y,o=some y→ev G el ρ1=some y:=by
   cases kk with
   | true =>
    obtain ⟨y,hy,rfl⟩:=aQ hf
    exact ⟨rfl,fun z e=>by cases e; exact hy⟩
   | false =>
    cases hf
    exact ⟨rfl,fun z e=>by cases e⟩
  obtain ⟨rfl,hy⟩:=ho
  refine ⟨?_,fun y e=>(hE X' _ S' ρ1 elt el xc' hel y (hy y e)).1⟩
  match ifs,htest with
  | [],htest =>
   cases htest
   simp only [ev,Lit.d,Option.some.injEq,D.bl.injEq] at hw
   exact .inl ⟨rfl,hw.symm⟩
  | [e],htest=>exact .inr ⟨e,rfl,hT X' _ S' ρ1 e test xc' htest _ hw⟩
 ·exact nomatch (show none=some ir from (if_neg ha).symm.trans h)
theorem HW (hE:OkE CX G T lv n) (xc:XC CX X c G T lv) {a:Expr} {os:List CmpOp} {bs:List Expr} {p:Pos} (h:GU (cE n c) (cE n c a) os bs=some ir) (hd:ev G ir ρ=some d):PE X (.Compare a os bs p) (tD X.K T S ρ d)∧∀ k,d=.bl k→PT X (.Compare a os bs p) (tTe X.K T S ρ k):=by
 match os,bs,h with
 | [o],[b],h =>
  obtain ⟨x,hx,h⟩:=aF h
  obtain ⟨y,hy,rfl⟩:=aQ h
  simp only [ev,Option.bind_eq_bind,Option.bind_eq_some_iff] at hd
  obtain ⟨u,hu,v,hv,hd⟩:=hd
  have pa:=(hE X _ S ρ a x xc hx u hu).1
  have pb:=(hE X _ S ρ b y xc hy v hv).1
  exact ⟨aFP xc.units pa pb ((dJ hy).marks o) hd,fun k e=>by subst e; exact ZY xc.units pa pb ((dJ hy).marks o) hd⟩
 | [o,o'],[b,b'],h =>
  obtain ⟨x,hx,h⟩:=aF h
  obtain ⟨y,hy,h⟩:=aF h
  obtain ⟨z,hz,rfl⟩:=aQ h
  simp only [ev,Option.bind_eq_bind,Option.bind_eq_some_iff] at hd
  obtain ⟨v,hv,u,hu,w,hw,hd⟩:=hd
  have pa:=(hE X _ S ρ a x xc hx u hu).1
  have pb:=(hE X _ S ρ b y xc hy v hv).1
  have lm:lastMarks [o,o'] [b,b']=false:=(dJ hz).marks o'
  cases w<;>first|exact nomatch (show none=some d from hd)|skip
  rename_i kk
  cases kk with
  | true =>
   obtain ⟨w,hw',hd⟩:=aF hd
   have pc:=(hE X _ S ρ b' z xc hz w hw').1
   exact ⟨QP xc.units pa pb pc lm hw (by rw [if_pos rfl]; exact hd),fun k e=>by subst e; exact IL xc.units pa pb pc lm hw (by rw [if_pos rfl]; exact hd)⟩
  | false =>
   cases hd
   refine ⟨PE.mono (vG (eN (T:=T) (S:=S) xc.units o) (eN (T:=T) (S:=S) xc.units o') pa pb (tc:=fun _ _ _=>False) (fun _ _ _ _ _ _ h=>h.elim) lm) fun σ H Q ⟨re,q⟩=>⟨re,fun x H1 s1 r1=>⟨re.same s1,fun y H2 s2 r2=>⟨u,v,.bl false,((re.same s1).same s2).dom,r1.same s2,r2,hw,fun z H3 s3 r3=>?_⟩⟩⟩,fun k e=>?_⟩
   ·unfold Rep at r3
    exact ⟨false,r3,pG (q _ H3 (s1.trans (s2.trans s3)) bO)⟩
   ·cases e
    refine PT.mono (vE (eN (T:=T) (S:=S) xc.units o) (eN (T:=T) (S:=S) xc.units o') pa pb (tc:=fun _ _ _=>False) (fun _ _ _ _ _ _ h=>h.elim) lm) fun σ H Q ⟨re,q⟩=>⟨re,fun x H1 s1 r1=>⟨re.same s1,fun y H2 s2 r2=>⟨u,v,.bl false,((re.same s1).same s2).dom,r1.same s2,r2,hw,fun z H3 s3 r3=>?_⟩⟩⟩
    unfold Rep at r3
    exact ⟨false,r3,pG ⟨_,rfl,q H3 (s1.trans (s2.trans s3))⟩⟩
end
theorem IA {n:Nat} (hE:OkE CX G T lv n) (hT:OkT CX G T lv n) (hB:OkB CX G T lv n) (hA:OkA CX G T lv n) (hI:OkI CX G T lv n):OkE CX G T lv (n+1):=by
 intro X c S ρ e ir xc h d hd
 cases e<;>first|exact nomatch (show none=some ir from h)|skip
 case Name x p =>
  refine dN (K:=X.K) ?_ rfl
  have h:xP c x=some ir:=h
  unfold xP at h
  cases hs:bT c x with
  | some i =>
   rw [hs] at h
   cases h
   simp only [ev] at hd
   exact aFy xc hs hd
  | none =>
   rw [hs] at h
   obtain ⟨hg,h⟩:=bK h
   cases h
   simp only [ev] at hd
   exact aFM xc (cU hg).1 (cU hg).2 hd
 case Constant v k p =>
  refine dN (K:=X.K) ?_ rfl
  have h:zU v=some ir:=h
  cases v<;>first|exact nomatch (show none=some ir from h)|skip
  all_goals
   cases h
   simp only [ev,Lit.d,Option.some.injEq] at hd
   subst hd
  ·exact aFG
  ·exact aJm
  ·exact aFL
  ·exact aFA
 case BinOp a o b p =>
  refine dN (K:=X.K) ?_ rfl
  obtain ⟨o',ho,h⟩:=aF h
  obtain ⟨x,hx,h⟩:=aF h
  obtain ⟨y,hy,rfl⟩:=aQ h
  simp only [ev,Option.bind_eq_bind,Option.bind_eq_some_iff] at hd
  obtain ⟨u,hu,v,hv,hd⟩:=hd
  exact aFQ ho (hE X _ S ρ a x xc hx u hu).1 (hE X _ S ρ b y xc hy v hv).1 hd
 case UnaryOp o a p =>
  refine dN (K:=X.K) ?_ rfl
  have h:aCU (cE n c a) o=some ir:=h
  cases o<;>first|exact nomatch (show none=some ir from h)|skip
  ·obtain ⟨x,hx,rfl⟩:=aQ h
   simp only [ev,Option.bind_eq_bind,Option.bind_eq_some_iff,Option.map_eq_some_iff] at hd
   obtain ⟨u,⟨w,hw,k,hk,rfl⟩,hd⟩:=hd
   cases hd
   exact aFF (hE X _ S ρ a x xc hx w hw).1 hk
  ·obtain ⟨x,hx,rfl⟩:=aQ h
   simp only [ev,Option.bind_eq_bind,Option.bind_eq_some_iff] at hd
   obtain ⟨u,hu,hd⟩:=hd
   cases u<;>first|exact nomatch (show none=some d from hd)|skip
   cases hd
   exact aFH (hE X _ S ρ a x xc hx _ hu).1
 case BoolOp o vs p =>
  refine dN (K:=X.K) ?_ rfl
  cases o with
  | And=>exact (hB X _ S ρ true vs ir p xc).1 h d hd
  | Or=>exact (hB X _ S ρ false vs ir p xc).1 h d hd
 case IfExp t a b p =>
  refine dN (K:=X.K) ?_ rfl
  obtain ⟨x,hx,h⟩:=aF h
  obtain ⟨y,hy,h⟩:=aF h
  obtain ⟨z,hz,rfl⟩:=aQ h
  simp only [ev,Option.bind_eq_bind,Option.bind_eq_some_iff] at hd
  obtain ⟨u,hu,hd⟩:=hd
  cases u<;>first|exact nomatch (show none=some d from hd)|skip
  rename_i k
  have pt:=hT X _ S ρ t x xc hx k hu
  cases k with
  | true=>exact VF pt (fun _=>(hE X _ S ρ a y xc hy d hd).1) (fun z=>by cases z)
  | false=>exact VF pt (fun z=>by cases z) (fun _=>(hE X _ S ρ b z xc hz d hd).1)
 case Compare a os bs p=>exact dN (K:=X.K) (HW hE xc h hd).1 rfl
 case Tuple es k p =>
  refine dN (K:=X.K) ?_ rfl
  obtain ⟨hl0,h⟩:=bK h
  obtain ⟨x,hx,rfl⟩:=aQ h
  simp only [ev,Option.map_eq_some_iff] at hd
  obtain ⟨ds,hds,rfl⟩:=hd
  obtain ⟨ds',e1,hl,pa,hs⟩:=hA X _ S ρ es x xc hx _ (bZ hds)
  cases e1
  exact aFz pa (by rw [hl]; exact JW hl0)
 case List es p =>
  obtain ⟨hl0,h⟩:=bK h
  obtain ⟨x,hx,rfl⟩:=aQ h
  simp only [ev,Option.map_eq_some_iff] at hd
  obtain ⟨ds,hds,rfl⟩:=hd
  obtain ⟨ds',e1,hl,pa,hs⟩:=hA X _ S ρ es x xc hx _ (bZ hds)
  cases e1
  exact eD (aFI pa (by rw [hl]; exact JW hl0))
 case Subscript a i p=>exact ZP hE xc h hd
 case Attribute a f p =>
  refine dN (K:=X.K) ?_ rfl
  obtain ⟨hns,h⟩:=bK h
  obtain ⟨x,hx,rfl⟩:=aQ h
  simp only [ev,Option.bind_eq_bind,Option.bind_eq_some_iff] at hd
  obtain ⟨u,hu,hd⟩:=hd
  have pa:=(hE X _ S ρ a x xc hx u hu).1
  cases u<;>first|exact nomatch (show none=some d from hd)|skip
  obtain ⟨hf,hd⟩:=bK hd
  exact aFN xc pa (kY hns) hf hd
 case ListComp elt gs sc p =>
  obtain ⟨tg,iter,ifs,fr,tgs,tp,ds,outs,f,rfl,rfl,h1,h2,h3,h4,h5,h6,h7,h8⟩:=CO (S:=S) hE hT hI xc h hd
  exact eD (PN xc h1 h2 h3 h4 h5 h6 h7 h8)
 case Call f args kw p =>
  obtain ⟨hkw,h⟩:=bK h
  obtain rfl:=kU hkw
  cases f<;>first|exact nomatch (show none=some ir from h)|skip
  ·exact QH hE hA xc h hd
  ·exact HX hE hA xc h hd
end Z
namespace Z
open PySem PySem.Spec PyProof.Rows L2
variable {CX:CXT}{G:GS}{T:Tx}{lv:Nat}
theorem HY {n:Nat} (hE:OkE CX G T lv n) (hT:OkT CX G T lv n) (hB:OkB CX G T lv n):OkT CX G T lv (n+1):=by
 intro X c S ρ e ir xc h k hk
 have tr:(cE n c e).map .tr=some ir→(∀ whole,isTrue e X.env whole=(do let v ← whole; standAt e.pos; holding [v] (truthy v)))→PT X e (tTe X.K T S ρ k):=fun h he=>by
  obtain ⟨x,hx,rfl⟩:=aQ h
  simp only [ev,Option.bind_eq_bind,Option.bind_eq_some_iff,Option.map_eq_some_iff,D.bl.injEq] at hk
  obtain ⟨w,hw,k',hk',rfl⟩:=hk
  exact QM (hE X c S ρ e x xc hx w hw).1 he hk'
 cases e<;>first|exact tr h fun _=>rfl|skip
 case BoolOp o vs p =>
  cases o with
  | And=>exact PW.pt ((hB X c S ρ true vs ir p xc).2 h k hk)
  | Or=>exact PW.pt ((hB X c S ρ false vs ir p xc).2 h k hk)
 case UnaryOp o a p =>
  cases o<;>first|exact tr h fun _=>rfl|skip
  obtain ⟨x,hx,rfl⟩:=aQ h
  simp only [ev,Option.bind_eq_bind,Option.bind_eq_some_iff] at hk
  obtain ⟨w,hw,hk⟩:=hk
  cases w<;>first|exact nomatch (show none=some (D.bl k) from hk)|skip
  cases hk
  exact ZU (hT X c S ρ a x xc hx _ hw)
 case IfExp _ _ _ _=>exact nomatch (show none=some ir from h)
 case Compare a os bs p=>exact (HW hE xc h hk).2 k rfl
theorem eE:∀ n,OkE CX G T lv n∧OkT CX G T lv n∧OkB CX G T lv n∧OkA CX G T lv n∧OkI CX G T lv n
 | 0=>⟨fun X c S ρ e ir xc h=>(nomatch (show none=some ir from h)),fun X c S ρ e ir xc h=>(nomatch (show none=some ir from h)),fun X c S ρ k vs ir pos xc=>⟨fun h=>(nomatch (show none=some ir from h)),fun h=>(nomatch (show none=some ir from h))⟩,fun X c S ρ es ir xc h=>(nomatch (show none=some ir from h)),fun X c S ρ e k ir xc h=>(nomatch (show none=some (k,ir) from h))⟩
 | n+1=>by
  obtain ⟨hE,hT,hB,hA,hI⟩:=eE n
  exact ⟨IA hE hT hB hA hI,HY hE hT hB,IB hE hT hB,IC hE hA,HZ hE hA⟩
end Z
namespace Z
open PySem PySem.Spec PyProof.Rows L2
structure SInv (K:PySem.W.Frag) (T:Tx) (S₀:Addr→Prop) (H₀:Hp) (S:Addr→Prop) (ρ:List Sl) (σ:L2.St) (H:Hp):Prop where
 re:RE K T H S ρ σ
 dom0:∀ a,S₀ a→∃ o,H₀ a=some o
 sup:∀ a,S₀ a→S a
 same:aG H₀ H
 dist:∀ (i j:Nat) xs ys p,ρ[i]?=some (.mu xs)→ρ[j]?=some (.mu ys)→σ[i]?=some (some (.ref p))→σ[j]?=some (some (.ref p))→i=j
 own:∀ (i:Nat) xs p,ρ[i]?=some (.mu xs)→σ[i]?=some (some (.ref p))→H₀ p=none
section
variable {K:PySem.W.Frag}{T:Tx}{S₀ S S':Addr→Prop}{H₀ H H' H'':Hp}{ρ ρ1:List Sl}{σ σ1:L2.St}
theorem aO.refl:aO K H H S S:=fun a n _=>⟨n,fun _ e=>e⟩
theorem aO.same (h:aG H H'):aO K H H' S S:=fun a n _=>⟨n,fun o e=>h a o e⟩
theorem aO.trans {S'':Addr→Prop} (h:aO K H H' S S') (g:aO K H' H'' S' S''):aO K H H'' S S'':=fun a n q=>by
 obtain ⟨n1,k1⟩:=h a n q
 obtain ⟨n2,k2⟩:=g a n1 (q.elim (fun ⟨o,e⟩=>.inl ⟨o,k1 o e⟩) .inr)
 exact ⟨n2,fun o e=>k2 o (k1 o e)⟩
theorem SInv.step (si:SInv K T S₀ H₀ S ρ σ H) (h:aG H H'):SInv K T S₀ H₀ S ρ σ H':=⟨si.re.same h,si.dom0,si.sup,si.same.trans h,si.dist,si.own⟩
theorem SInv.set (si:SInv K T S₀ H₀ S ρ σ H) {i:Nat} {d:D} {v:V} (r:Rep K T H S d v):SInv K T S₀ H₀ S (ρ.set i (.im d)) (σ.set i (some v)) H:=by
 have old:∀ (j:Nat) xs p,(ρ.set i (.im d))[j]?=some (.mu xs)→(σ.set i (some v))[j]?=some (some (.ref p))→j≠i∧ρ[j]?=some (.mu xs)∧σ[j]?=some (some (.ref p)):=fun j xs p h1 h2=>by
  have ne:j≠i:=by
   rintro rfl
   have hl:j<ρ.length:=by simpa using (List.getElem?_eq_some_iff.mp h1).1
   rw [List.getElem?_set_self hl] at h1
   cases h1
  rw [List.getElem?_set_ne (Ne.symm ne)] at h1 h2
  exact ⟨ne,h1,h2⟩
 refine ⟨si.re.set r,si.dom0,si.sup,si.same,fun a b xs ys p h1 h2 h3 h4=>?_,fun a xs p h1 h2=>?_⟩
 ·obtain ⟨_,q1,q2⟩:=old a xs p h1 h3
  obtain ⟨_,q3,q4⟩:=old b ys p h2 h4
  exact si.dist a b xs ys p q1 q3 q2 q4
 ·obtain ⟨_,q1,q2⟩:=old a xs p h1 h2
  exact si.own a xs p q1 q2
theorem SInv.setm (si:SInv K T S₀ H₀ S ρ σ H) {i:Nat} {ds:D} {p:Addr} {xs:HO} (sm:aG H H') (hp:H p=none) (hk:K.lookup p=none) (hp':H' p=some xs) (rl:lU K T (er H' p) S ds xs) :
  SInv K T S₀ H₀ (fun a=>S a∨a=p) (ρ.set i (.mu ds)) (σ.set i (some (.ref p))) H'∧aO K H H' S (fun a=>S a∨a=p):=by
 have mv:aO K H H' S (fun a=>S a∨a=p):=fun a n q=>by
  have ne:a≠p:=by
   rintro rfl
   rcases q with ⟨o,e⟩|⟨o,e⟩
   ·rw [hp] at e; cases e
   ·rw [hk] at e; cases e
  exact ⟨fun z=>z.elim n ne,fun o e=>sm a o e⟩
 have dom:∀ a,(S a∨a=p)→∃ o,H' a=some o:=fun a z=>z.elim (fun z=>let ⟨o,e⟩:=si.re.dom a z; ⟨o,sm a o e⟩) fun z=>⟨xs,by rw [z]; exact hp'⟩
 have re':RE K T H' (fun a=>S a∨a=p) ρ σ:=si.re.gen mv (fun a ys z e _=>⟨.inl z,sm a _ e⟩) dom
 have slotp:∀ (j:Nat) ys,ρ[j]?=some (.mu ys)→σ[j]?=some (some (.ref p))→False:=fun j ys h1 h2=>by
  obtain ⟨q,zs,e1,e2,e3,_⟩:=si.re.at_ j _ h1
  rw [h2] at e1
  cases e1
  rw [hp] at e3; cases e3
 have at_:∀ (j:Nat) ys q,(ρ.set i (.mu ds))[j]?=some (.mu ys)→(σ.set i (some (.ref p)))[j]?=some (some (.ref q))→(j=i∧q=p)∨(j≠i∧ρ[j]?=some (.mu ys)∧σ[j]?=some (some (.ref q))):=fun j ys q h1 h2=>by
  by_cases e:j=i
  ·subst e
   have hl:j<ρ.length:=by simpa using (List.getElem?_eq_some_iff.mp h1).1
   rw [List.getElem?_set_self (by rw [← si.re.len]; exact hl)] at h2
   cases h2
   exact .inl ⟨rfl,rfl⟩
  ·rw [List.getElem?_set_ne (Ne.symm e)] at h1 h2
   exact .inr ⟨e,h1,h2⟩
 refine ⟨⟨⟨dom,by simp [si.re.len],fun j s e=>?_⟩,si.dom0,fun a z=>.inl (si.sup a z),si.same.trans sm,fun a b ys zs q h1 h2 h3 h4=>?_,fun a ys q h1 h2=>?_⟩,mv⟩
 ·by_cases hj:j=i
  ·subst hj
   have hl:j<ρ.length:=by simpa using (List.getElem?_eq_some_iff.mp e).1
   rw [List.getElem?_set_self hl] at e
   cases e
   rw [List.getElem?_set_self (by rw [← si.re.len]; exact hl)]
   exact ⟨p,xs,rfl,.inr rfl,hp',rl.gen (aO.own hk)⟩
  ·rw [List.getElem?_set_ne (Ne.symm hj)] at e ⊢
   exact re'.at_ j s e
 ·rcases at_ a ys q h1 h3 with ⟨ea,eq⟩|⟨na,q1,q2⟩
  ·rcases at_ b zs q h2 h4 with ⟨eb,_⟩|⟨nb,q3,q4⟩
   ·rw [ea,eb]
   ·subst eq; exact (slotp b zs q3 q4).elim
  ·rcases at_ b zs q h2 h4 with ⟨eb,eq⟩|⟨nb,q3,q4⟩
   ·subst eq; exact (slotp a ys q1 q2).elim
   ·exact si.dist a b ys zs q q1 q3 q2 q4
 ·rcases at_ a ys q h1 h2 with ⟨ea,eq⟩|⟨na,q1,q2⟩
  ·subst eq; exact si.same.free hp
  ·exact si.own a ys q q1 q2
theorem SInv.write (si:SInv K T S₀ H₀ S ρ σ H) {i:Nat} {ds ds':D} {p:Addr} {xs':HO} (hi:ρ[i]?=some (.mu ds)) (hp:σ[i]?=some (some (.ref p))) (rl:lU K T H S ds' xs') :
  SInv K T S₀ H₀ S (ρ.set i (.mu ds')) σ (upd H p xs')∧aO K H (upd H p xs') S S:=by
 obtain ⟨q,zs,e1,e2,e3,_⟩:=si.re.at_ i _ hi
 rw [hp] at e1
 cases e1
 have mv:aO K H (upd H p xs') S S:=fun a n _=>⟨n,fun o e=>by rw [aM (fun z=>n (by rw [z]; exact e2))]; exact e⟩
 have dom:∀ a,S a→∃ o,upd H p xs' a=some o:=fun a z=>by
  by_cases e:a=p
  ·exact ⟨xs',by rw [e]; exact aJ⟩
  ·obtain ⟨o,q⟩:=si.re.dom a z
   exact ⟨o,by rw [aM e]; exact q⟩
 have hl:i<ρ.length:=(List.getElem?_eq_some_iff.mp hi).1
 have old:∀ (j:Nat) ys,(ρ.set i (.mu ds'))[j]?=some (.mu ys)→∃ zs,ρ[j]?=some (.mu zs):=fun j ys h=>by
  by_cases e:j=i
  ·exact ⟨ds,by rw [e]; exact hi⟩
  ·rw [List.getElem?_set_ne (Ne.symm e)] at h
   exact ⟨ys,h⟩
 refine ⟨⟨⟨dom,by simp [si.re.len],fun j s e=>?_⟩,si.dom0,si.sup,fun b o e=>?_,fun a b ys zs q h1 h2 h3 h4=>?_,fun a ys q h1 h2=>?_⟩,mv⟩
 ·by_cases hj:j=i
  ·subst hj
   rw [List.getElem?_set_self hl] at e
   cases e
   exact ⟨p,xs',hp,e2,aJ,rl.gen mv⟩
  ·rw [List.getElem?_set_ne (Ne.symm hj)] at e
   have h:=si.re.at_ j s e
   cases s with
   | un=>trivial
   | im d=>obtain ⟨v,e4,r⟩:=h; exact ⟨v,e4,Rep.gen mv d v r⟩
   | mu ys =>
    obtain ⟨q,ws,e4,e5,e6,r⟩:=h
    refine ⟨q,ws,e4,e5,?_,r.gen mv⟩
    rw [aM]
    ·exact e6
    ·rintro rfl
     exact hj (si.dist j i ys ds q e hi e4 hp)
 ·have ne:b≠p:=by
   rintro rfl
   rw [si.own i ds b hi hp] at e; cases e
  rw [aM ne]
  exact si.same b o e
 ·obtain ⟨ys',q1⟩:=old a ys h1
  obtain ⟨zs',q2⟩:=old b zs h2
  exact si.dist a b ys' zs' q q1 q2 h3 h4
 ·obtain ⟨ys',q1⟩:=old a ys h1
  exact si.own a ys' q q1 h2
theorem iU:∀ {is:List Nat} {ds:List D} {ρ ρ1:List Sl} {j:Nat} {xs:D},bL is ds ρ=some ρ1→ρ1[j]?=some (.mu xs)→j ∉ is∧ρ[j]?=some (.mu xs)
 | [],[],ρ,ρ1,j,xs,h,e=>by
  simp only [bL,Option.some.injEq] at h
  subst h
  exact ⟨by simp,e⟩
 | i::is,d::ds,ρ,ρ1,j,xs,h,e=>by
  simp only [bL] at h
  obtain ⟨n,q⟩:=iU h e
  have ne:j≠i:=by
   rintro rfl
   have hl:j<ρ.length:=by simpa using (List.getElem?_eq_some_iff.mp q).1
   rw [List.getElem?_set_self hl] at q
   cases q
  rw [List.getElem?_set_ne (Ne.symm ne)] at q
  exact ⟨by simp [n,ne],q⟩
 | [],_::_,_,_,_,_,h,_=>by simp [bL] at h
 | _::_,[],_,_,_,_,h,_=>by simp [bL] at h
theorem oV {is:List Nat} {tp:Bool} {d:D} {j:Nat} {xs:D} (h:bE is tp d ρ=some ρ1) (e:ρ1[j]?=some (.mu xs)):j ∉ is∧ρ[j]?=some (.mu xs):=by
 unfold bE at h
 split at h
 ·split at h
  ·exact iU h e
  ·cases h
 ·exact iU h e
theorem SInv.bind (si:SInv K T S₀ H₀ S ρ σ H) {is:List Nat} {tp:Bool} {d:D} (h:bE is tp d ρ=some ρ1) (re:RE K T H S ρ1 σ1) (ag:∀ j,j ∉ is→σ1[j]?=σ[j]?):SInv K T S₀ H₀ S ρ1 σ1 H:=by
 refine ⟨re,si.dom0,si.sup,si.same,fun a b xs ys p h1 h2 h3 h4=>?_,fun a xs p h1 h2=>?_⟩
 ·obtain ⟨n1,q1⟩:=oV h h1
  obtain ⟨n2,q2⟩:=oV h h2
  rw [ag a n1] at h3
  rw [ag b n2] at h4
  exact si.dist a b xs ys p q1 q2 h3 h4
 ·obtain ⟨n1,q1⟩:=oV h h1
  rw [ag a n1] at h2
  exact si.own a xs p q1 h2
theorem RE.view (re:RE K T H S ρ σ):RE K T H (fun _=>False) (view ρ) σ:=by
 refine ⟨fun a z=>z.elim,by simp [Z.view,re.len],fun i s e=>?_⟩
 unfold Z.view at e
 rw [List.getElem?_map] at e
 cases h:ρ[i]? with
 | none=>rw [h] at e; cases e
 | some s' =>
  rw [h] at e
  cases e
  have r:=re.at_ i s' h
  cases s' with
  | un=>trivial
  | im d=>obtain ⟨v,e1,r⟩:=r; exact ⟨v,e1,Rep.mono (fun _ z=>z.elim) (fun _ _ _ e=>e) d v r⟩
  | mu ds =>
   obtain ⟨p,xs,e1,_,e3,r⟩:=r
   exact ⟨.ref p,e1,r.rep e3 (fun z=>z) fun _ z=>z.elim⟩
theorem GP {d:D} {v:V} (h:xM d=true) (r:Rep K T H S d v):Rep K T H S' d v:=by
 cases d<;>first|(simp only [xM,Bool.false_eq_true] at h; done)|(unfold Rep at r ⊢; exact r)
end
end Z
namespace Z
open PySem PySem.Spec PyProof.Rows L2
variable {CX:CXT}{G:GS}{T:Tx}{lv:Nat}{X:Cx}{c:CC}{S₀:Addr→Prop}{H₀:Hp}{fr:Bool}{EX:Str→Hp→Prop}{pos:Pos}
noncomputable def LI (K:PySem.W.Frag) (T:Tx) (S₀:Addr→Prop) (H₀:Hp) (fr:Bool) (EX:Str→Hp→Prop) (H:Hp) (S:Addr→Prop) (D:Ends):Out→Prop
 | .nx ρ=>∀ S' σ' H',SInv K T S₀ H₀ S' ρ σ' H'→aO K H H' S S'→D.nx σ' H'
 | .bk ρ=>∀ S' σ' H',SInv K T S₀ H₀ S' ρ σ' H'→aO K H H' S S'→D.bk σ' H'
 | .ct ρ=>∀ S' σ' H',SInv K T S₀ H₀ S' ρ σ' H'→aO K H H' S S'→D.ct σ' H'
 | .rt d=>∀ v H',aG H₀ H'→Rep K T H' S₀ d v→(fr=true→qW K T S₀ H₀ H' d v)→D.rt v H'
 | .er c=>∀ H',aG H₀ H'→EX c H'
def tSt (K:PySem.W.Frag) (T:Tx) (S₀:Addr→Prop) (H₀:Hp) (fr:Bool) (EX:Str→Hp→Prop) (G:GS) (is:IS):TS:=fun D σ H=>∃ ρ out S,ex G is ρ=some out∧SInv K T S₀ H₀ S ρ σ H∧LI K T S₀ H₀ fr EX H S D out
structure XS (CX:CXT) (T:Tx) (X:Cx) (c:CC) (EX:Str→Hp→Prop):Prop where
 kind:X.env.scope.kind=.function
 pass:PassesOwn (model X.prog X.w) X.A X.env X.xe
 rse:∀ x m j p p' q pos,aX c x=true→c.cls.contains x=true→PS X (.Raise (some (.Call (.Name x p) [.Constant (.str m) j p'] [] q)) none pos) (fun D σ H=>EX x H)
 pss:∀ E1:XK,(∀ cls H',E1 cls none H'→∃ k C,T.xc k=some C∧cls=.ref C∧EX k H')→fT CX X E1
 stk:X.stack=X.env::X.outer
 frm:X.env.frame=some X.env.locals
theorem LI.step {K:PySem.W.Frag} {H H':Hp} {S S':Addr→Prop} {D:Ends} {o:Out} (mv:aO K H H' S S') (h:LI K T S₀ H₀ fr EX H S D o):LI K T S₀ H₀ fr EX H' S' D o:=by
 cases o with
 | nx ρ=>exact fun S2 σ2 H2 si m=>h S2 σ2 H2 si (mv.trans m)
 | bk ρ=>exact fun S2 σ2 H2 si m=>h S2 σ2 H2 si (mv.trans m)
 | ct ρ=>exact fun S2 σ2 H2 si m=>h S2 σ2 H2 si (mv.trans m)
 | rt d=>exact h
 | er c=>exact h
theorem oM {e:IE} {ρ:List Sl} {d:D} (h:evs G e ρ=some d):ev G e ρ=some d∨(ev G e (view ρ)=some d∧xM d=true):=by
 unfold evs at h
 split at h
 ·rename_i h1; cases h; exact .inl h1
 ·split at h
  ·rename_i h2
   split at h
   ·rename_i h3; cases h; exact .inr ⟨h2,h3⟩
   ·cases h
  ·cases h
theorem nV (xc:XC CX X c G T lv) {n:Nat} {e:Expr} {ir:IE} {ρ:List Sl} {d:D} {S:Addr→Prop} (he:cE n c e=some ir) (h:evs G ir ρ=some d):PE X e (tD X.K T S ρ d):=by
 rcases oM h with h|⟨h,hs⟩
 ·exact ((eE n).1 X c S ρ e ir xc he d h).1
 ·exact PE.mono ((eE n).1 X c (fun _=>False) (view ρ) e ir xc he d h).1 fun σ H Q ⟨re,q⟩=>⟨re.view,fun v H' sm r=>q v H' sm (GP hs r)⟩
theorem NS:PS X (.Pass pos) (tSt X.K T S₀ H₀ fr EX G .nop):=fun pins s σ H D I ⟨ρ,out,S,hx,si,po⟩=>by
 simp only [ex,Option.some.injEq] at hx
 subst hx
 exact OX pins s σ H D I (po S σ H si aO.refl)
theorem NQ:PS X (.Return none pos) (tSt X.K T S₀ H₀ fr EX G .retn):=fun pins s σ H D I ⟨ρ,out,S,hx,si,po⟩=>by
 simp only [ex,Option.some.injEq] at hx
 subst hx
 exact OW pins s σ H D I (po .non H si.same (by unfold Rep; rfl) fun _ ds e=>by cases e)
theorem NR (xc:XC CX X c G T lv) {x:Str} {p:Pos} {i:Nat} (e:bT c x=some i):PS X (.Return (some (.Name x p)) pos) (tSt X.K T S₀ H₀ fr EX G (.retm i)):=fun pins s σ H D I ⟨ρ,out,S,hx,si,po⟩=>by
 simp only [ex] at hx
 split at hx
 ·rename_i ds hi
  cases hx
  obtain ⟨q,xs,e1,e2,e3,rl⟩:=si.re.at_ i _ hi
  have hn:=si.own i ds q hi e1
  have n0:¬ S₀ q:=fun z=>by obtain ⟨o,z⟩:=si.dom0 q z; rw [hn] at z; cases z
  refine iI (kM xc e) pins s σ H D I ⟨_,e1,po (.ref q) H si.same ?_ fun _ ds' z=>?_⟩
  ·exact rl.rep e3 n0 si.sup
  ·subst z
   obtain ⟨ys,rfl,rl'⟩:=rl.lst
   exact ⟨q,ys,rfl,hn,e3,aD.disown e2 si.sup rl'⟩
 ·cases hx
theorem XO (xc:XC CX X c G T lv) {n:Nat} {e:Expr} {ir:IE} {b:Bool} (he:cE n c e=some ir) (hb:b=true→gC c e=true) (hfr:fr=true→b=true):PS X (.Return (some e) pos) (tSt X.K T S₀ H₀ fr EX G (.ret b ir)):=fun pins s σ H D I ⟨ρ,out,S,hx,si,po⟩=>by
 simp only [ex,Option.map_eq_some_iff] at hx
 obtain ⟨d,hd,rfl⟩:=hx
 have plain:(∀ ds,d=.lst ds→fr=false)→wpAny (model X.prog X.w) X.A (exec (.Return (some e) pos) X.env) (SP X pins D) X.xe s:=fun hn =>
  iI (nV (S:=S) xc he hd) pins s σ H D I ⟨si.re,fun v H' sm r=>po v H' (si.same.trans sm) (Rep.mono si.sup (fun _ _ _ e=>e) d v r) fun z ds e=>by rw [hn ds e] at z; cases z⟩
 cases hf:fr with
 | false=>exact plain fun _ _=>hf
 | true =>
  by_cases hl:∃ ds,d=.lst ds
  ·obtain ⟨ds,rfl⟩:=hl
   have hev:ev G ir ρ=some (.lst ds):=by
    rcases oM hd with h|⟨_,h⟩
    ·exact h
    ·cases h
   refine iI (((eE n).1 X c S ρ e ir xc he _ hev).2 (hb (hfr hf)) ds rfl) pins s σ H D I ⟨si.re,fun p xs H' sm hp hp' rl=>po (.ref p) H' (si.same.trans sm) ?_ fun _ ds' z=>?_⟩
   ·unfold Rep
    exact ⟨p,xs,rfl,fun z=>si.re.nS hp (si.sup p z),hp',aD.mono si.sup (fun _ _ _ e=>e) _ _ rl.er⟩
   ·cases z
    exact ⟨p,xs,rfl,si.same.free hp,hp',aD.mono si.sup (fun _ _ _ e=>e) _ _ rl⟩
  ·exact plain fun ds e=>(hl ⟨ds,e⟩).elim
theorem aCo (xc:XC CX X c G T lv) {n:Nat} {t:Expr} {ir:IE} {a b:List Stmt} {ia ib:IS} (ht:cT n c t=some ir) (ha:PSs X a (tSt X.K T S₀ H₀ fr EX G ia)) (hb:PSs X b (tSt X.K T S₀ H₀ fr EX G ib)) :
  PS X (.If t a b pos) (tSt X.K T S₀ H₀ fr EX G (.iff ir ia ib)):=fun pins s σ H D I ⟨ρ,out,S,hx,si,po⟩=>by
 simp only [ex,Option.bind_eq_bind,Option.bind_eq_some_iff] at hx
 obtain ⟨w,hw,hx⟩:=hx
 cases w<;>first|(simp only [reduceCtorEq] at hx; done)|skip
 rename_i k
 refine TH ((eE n).2.1 X c (fun _=>False) (view ρ) t ir xc ht k hw) ha hb pins s σ H D I ⟨si.re.view,fun H' sm=>?_⟩
 cases k with
 | true=>exact EV ⟨ρ,out,S,hx,si.step sm,po.step (aO.same sm)⟩
 | false=>exact pG ⟨ρ,out,S,hx,si.step sm,po.step (aO.same sm)⟩
theorem XR:PSs X [] (tSt X.K T S₀ H₀ fr EX G .nop):=fun pins s σ H D I ⟨ρ,out,S,hx,si,po⟩=>by
 simp only [ex,Option.some.injEq] at hx
 subst hx
 exact rV pins s σ H D I (po S σ H si aO.refl)
theorem XM {st:Stmt} {rest:List Stmt} {a b:IS} (ha:PS X st (tSt X.K T S₀ H₀ fr EX G a)) (hb:PSs X rest (tSt X.K T S₀ H₀ fr EX G b)):PSs X (st::rest) (tSt X.K T S₀ H₀ fr EX G (.seq a b)):=fun pins s σ H D I ⟨ρ,out,S,hx,si,po⟩=>by
 simp only [ex,Option.bind_eq_bind,Option.bind_eq_some_iff] at hx
 obtain ⟨o,ho,hx⟩:=hx
 refine iH ha hb pins s σ H D I ⟨ρ,o,S,ho,si,?_⟩
 cases o with
 | nx ρ'=>exact fun S' σ' H' si' mv=>⟨ρ',out,S',hx,si',po.step mv⟩
 | bk ρ'=>simp only [Option.some.injEq] at hx; subst hx; exact po
 | ct ρ'=>simp only [Option.some.injEq] at hx; subst hx; exact po
 | rt d=>simp only [Option.some.injEq] at hx; subst hx; exact po
 | er d=>simp only [Option.some.injEq] at hx; subst hx; exact po
theorem XN (xs:XS CX T X c EX) {x:Str} {m:Str} {j:Nat} {p p' q:Pos} (hg:aX c x=true) (hc:c.cls.contains x=true):PS X (.Raise (some (.Call (.Name x p) [.Constant (.str m) j p'] [] q)) none pos) (tSt X.K T S₀ H₀ fr EX G (.rse x)):=fun pins s σ H D I ⟨ρ,out,S,hx,si,po⟩=>by
 simp only [ex] at hx
 split at hx
 ·cases hx
  exact xs.rse x m j p p' q pos hg hc pins s σ H D I (po H si.same)
 ·cases hx
theorem NN (xc:XC CX X c G T lv) {n:Nat} {es:List Expr} {k:Nat} {p:Pos} {e:Expr} {ir:IE} {is:List Nat} (hn:eZ c es=some is) (he:cE n c e=some ir) (hnt:∀ vs k p,e≠.Tuple vs k p) :
  PS X (.Assign [.Tuple es k p] e pos) (tSt X.K T S₀ H₀ fr EX G (.sett is ir)):=fun pins s σ H D I ⟨ρ,out,S,hx,si,po⟩=>by
 simp only [ex,Option.bind_eq_bind,Option.bind_eq_some_iff,Option.map_eq_some_iff] at hx
 obtain ⟨d,hd,ρ1,hb,rfl⟩:=hx
 have htg:cX c (.Tuple es k p)=some (is,true):=by simp only [cX,hn,Option.map_some]
 refine HD ((eE n).1 X c S ρ e ir xc he d hd).1 (YT xc (S:=S) htg hb) ?_ ?_ rfl pins s σ H D I ⟨si.re,fun v H' sm r=>⟨si.re.same sm,r,fun σ' re' ag=>po S σ' H' ((si.step sm).bind hb re' ag) (aO.same sm)⟩⟩
 ·cases e<;>rfl
 ·cases e<;>first|rfl|exact absurd rfl (hnt _ _ _)
end Z
namespace Z
open PySem PySem.Spec PyProof.Rows L2
variable {CX:CXT}{G:GS}{T:Tx}{lv:Nat}{X:Cx}{c:CC}{S₀:Addr→Prop}{H₀:Hp}{fr:Bool}{EX:Str→Hp→Prop}{pos:Pos}
noncomputable def nZ:Expr→Bool
 | .ListComp _ _ _ _=>true
 | _=>false
theorem uV {n:Nat} {c:CC} {e:Expr} {ir:IE} (h:cE n c e=some ir) (hc:nZ e=false) (t:Expr) (l:Nat) (env:Env):swapsWith e (some t) l env=pure false:=by
 cases e<;>first|rfl|exact nomatch (show true=false from hc)|(cases n<;>exact nomatch (show none=some ir from h))
theorem nK {elt:Expr} {gs:List Comprehension} {sc:Scope} {p px:Pos} {x:Str} {l:Nat} {env:Env}:∃ b,swapsWith (.ListComp elt gs sc p) (some (.Name x px)) l env=pure b:=⟨_,rfl⟩
theorem jZ {n:Nat} {elt:Expr} {gs:List Comprehension} {sc:Scope} {p:Pos} {ir:IE} {ρ:List Sl} {d:D} (xc:XC CX X c G T lv) (h:cE n c (.ListComp elt gs sc p)=some ir) (hd:ev G ir ρ=some d) (S:Addr→Prop) :
  ∃ tg iter ifs fr tgs tp ds outs f,gs=[⟨tg,iter,ifs,0⟩]∧d=.lst outs∧kA c sc=true∧freeOf c sc (sc.names.filter fun x=>x.2 == .free)=some fr∧tgs.all (fun i=>(fr.lookup i).isNone)=true∧cX { c with N:=ownNames sc,sc:=sc } tg=some (tgs,tp) ∧
   PI X tg iter (tI X.K T S ρ ds)∧(∀ x,foldedSetIterable iter X.env x=pure x)∧bP f ds=some outs ∧
   (∀ d o,f d=some o→∃ ρ1,bE tgs tp d (frame (ownNames sc).length fr ρ)=some ρ1∧TurnOk CX G T lv { c with N:=ownNames sc,sc:=sc } X.K ifs elt ρ1 o):=by
 cases n with
 | zero=>exact nomatch (show none=some ir from h)
 | succ n =>
  obtain ⟨hE,hT,hB,hA,hI⟩:=eE (CX:=CX) (G:=G) (T:=T) (lv:=lv) n
  exact CO hE hT hI xc h hd
theorem IZ {pins:List (Addr × Obj)} {σ:L2.St} {H:Hp} {s:Shared} {p:Addr} {o:HO} (I:Inv X pins σ H s) (h:H p=some o):X.K.lookup p=none:=by
 cases e:X.K.lookup p with
 | none=>rfl
 | some u=>rw [VI I p u e] at h; cases h
def tNk (K:PySem.W.Frag) (T:Tx) (S:Addr→Prop) (ρ:List Sl) (ds:List D):TE:=fun σ H Q=>RE K T H S ρ σ∧∀ p xs H',aG H H'→H p=none→K.lookup p=none→H' p=some (.lst xs)→aD K T (er H' p) S ds xs→Q (.ref p) H'
theorem aJk {e:Expr} {S:Addr→Prop} {ρ:List Sl} {ds:List D} (h:PE X e (tNw X.K T S ρ ds)):PE X e (tNk X.K T S ρ ds):=fun pins s σ H Q I ⟨re,q⟩ =>
 thn (h pins s σ H (fun v H'=>∃ p xs,v=.ref p∧aG H H'∧H p=none∧H' p=some (.lst xs)∧aD X.K T (er H' p) S ds xs) I ⟨re,fun p xs H' a b c d=>⟨p,xs,rfl,a,b,c,d⟩⟩) fun u s1 ⟨v,H',I',r,p,xs,e,a,b,c,d⟩=>⟨v,H',I',r,by rw [e]; exact q p xs H' a b (IZ I' c) c d⟩
theorem NP (xc:XC CX X c G T lv) {x:Str} {px px' pd:Pos} {i:Nat} (hx:fZ c (.Name x px')=some i):PS X (.Assign [.Name x px] (.Dict [] [] pd) pos) (tSt X.K T S₀ H₀ fr EX G (.setd i)):=fun pins s σ H D I ⟨ρ,out,S,hex,si,po⟩=>by
 cases hex
 obtain ⟨hN,hk⟩:=gL hx
 obtain ⟨hl,hf⟩:=xc.loc hk
 have pn:PE X (.Dict [] [] pd) (fun σ H Q=>∀ p,H p=none→X.K.lookup p=none→Q (.ref p) (upd H p (.dK []))):=fun pins s σ H Q I q =>
  thn (HJ pins s σ H (fun v H'=>∃ p,v=.ref p∧H p=none∧H'=upd H p (.dK [])) I fun p hp=>⟨p,rfl,hp,rfl⟩) fun u s1 ⟨v,H',I',r,p,e1,hp,e2⟩=>⟨v,H',I',r,by
   subst e1 e2
   exact q p hp (IZ I' (aJ))⟩
 refine nP (by rw [xc.N]; exact xc.nd) (by rw [xc.N]; exact hN) hl pn rfl hf pins s σ H D I fun p hp hkp=>?_
 obtain ⟨si',mv⟩:=si.setm (i:=i) (ds:=.dct []) (xs:=.dK []) (aG.upd hp) hp hkp aJ (.inr ⟨_,_,rfl,rfl,bA.nil⟩)
 exact po _ _ _ si' mv
theorem XJ (xc:XC CX X c G T lv) {n:Nat} {e:Expr} {ir:IE} {x:Str} {px px':Pos} {i:Nat} (hx:fZ c (.Name x px')=some i) (he:cE n c e=some ir):PS X (.Assign [.Name x px] e pos) (tSt X.K T S₀ H₀ fr EX G (.set i ir)):=fun pins s σ H D I ⟨ρ,out,S,hex,si,po⟩=>by
 simp only [ex,Option.map_eq_some_iff] at hex
 obtain ⟨d,hd,rfl⟩:=hex
 obtain ⟨hN,hk⟩:=gL hx
 obtain ⟨hl,hf⟩:=xc.loc hk
 have plain:swapsWith e (some (.Name x px)) pos.line X.env=pure false→wpAny (model X.prog X.w) X.A (exec (.Assign [.Name x px] e pos) X.env) (SP X pins D) X.xe s:=fun hs =>
  nP (by rw [xc.N]; exact xc.nd) (by rw [xc.N]; exact hN) hl (nV (S:=S) xc he hd) hs hf pins s σ H D I ⟨si.re,fun v H' sm r=>po S _ H' ((si.step sm).set r) (aO.same sm)⟩
 cases hc:nZ e with
 | false=>exact plain (uV he hc _ _ _)
 | true =>
  cases e<;>simp only [nZ,Bool.false_eq_true] at hc
  rename_i elt gs sc p
  obtain ⟨b,hb⟩:=nK (elt:=elt) (gs:=gs) (sc:=sc) (p:=p) (px:=px) (x:=x) (l:=pos.line) (env:=X.env)
  cases b with
  | false=>exact plain hb
  | true =>
   have hev:ev G ir ρ=some d:=by
    rcases oM hd with h|⟨h,hs⟩
    ·exact h
    ·obtain ⟨_,_,_,_,_,_,_,outs,_,_,rfl,_⟩:=jZ xc he h (fun _=>False)
     cases hs
   obtain ⟨tg,iter,ifs,fr',tgs,tp,ds,outs,f,rfl,rfl,h1,h2,h3,h4,h5,h6,h7,h8⟩:=jZ xc he hev S
   exact zY xc h1 h2 h3 h4 h5 h6 (px:=px) (by simp only [fZ] at hx ⊢; exact hx) hb h7 h8 pins s σ H D I ⟨si.re,fun p xs H' sm hp hp' rl=>po S _ H' ((si.step sm).set (by unfold Rep; exact ⟨p,xs,rfl,si.re.nS hp,hp',rl.er⟩)) (aO.same sm)⟩
theorem NO (xc:XC CX X c G T lv) {n:Nat} {e:Expr} {ir:IE} {x:Str} {px px':Pos} {i:Nat} (hx:fZ c (.Name x px')=some i) (he:cE n c e=some ir) (hfr:gC c e=true):PS X (.Assign [.Name x px] e pos) (tSt X.K T S₀ H₀ fr EX G (.setm i ir)):=fun pins s σ H D I ⟨ρ,out,S,hex,si,po⟩=>by
 simp only [ex,Option.bind_eq_bind,Option.bind_eq_some_iff] at hex
 obtain ⟨d,hd,hex⟩:=hex
 cases d<;>first|(simp only [reduceCtorEq] at hex; done)|skip
 rename_i outs
 simp only [Option.some.injEq] at hex
 subst hex
 obtain ⟨hN,hk⟩:=gL hx
 obtain ⟨hl,hf⟩:=xc.loc hk
 have pn:=((eE n).1 X c S ρ e ir xc he _ hd).2 hfr outs rfl
 have plain:swapsWith e (some (.Name x px)) pos.line X.env=pure false→wpAny (model X.prog X.w) X.A (exec (.Assign [.Name x px] e pos) X.env) (SP X pins D) X.xe s:=fun hs =>
  nP (by rw [xc.N]; exact xc.nd) (by rw [xc.N]; exact hN) hl (aJk pn) hs hf pins s σ H D I ⟨si.re,fun p xs H' sm hp hkp hp' rl=>by
   obtain ⟨si',mv⟩:=si.setm (i:=i) (ds:=.lst outs) sm hp hkp hp' (.inl ⟨_,_,rfl,rfl,rl⟩)
   exact po _ _ H' si' mv⟩
 cases hc:nZ e with
 | false=>exact plain (uV he hc _ _ _)
 | true =>
  cases e<;>simp only [nZ,Bool.false_eq_true] at hc
  rename_i elt gs sc p
  obtain ⟨b,hb⟩:=nK (elt:=elt) (gs:=gs) (sc:=sc) (p:=p) (px:=px) (x:=x) (l:=pos.line) (env:=X.env)
  cases b with
  | false=>exact plain hb
  | true =>
   obtain ⟨tg,iter,ifs,fr',tgs,tp,ds,outs',f,rfl,e1,h1,h2,h3,h4,h5,h6,h7,h8⟩:=jZ xc he hd S
   cases e1
   refine wpAny_mono (zY xc h1 h2 h3 h4 h5 h6 (px:=px) (by simp only [fZ] at hx ⊢; exact hx) hb h7 h8 pins s σ H ⟨fun σ' H'=>∃ p xs,σ'=σ.set i (some (.ref p))∧aG H H'∧H p=none∧H' p=some (.lst xs)∧aD X.K T (er H' p) S outs xs,fun _ _=>False,fun _ _=>False,fun _ _=>False⟩ I ⟨si.re,fun p xs H' sm hp hp' rl=>⟨p,xs,rfl,sm,hp,hp',rl⟩⟩) (fun f s' q=>?_) fun _ _ z=>z
   cases f with
   | next =>
    obtain ⟨σ',H',I',p,xs,rfl,sm,hp,hp',rl⟩:=q
    obtain ⟨si',mv⟩:=si.setm (i:=i) (ds:=.lst outs) sm hp (IZ I' hp') hp' (.inl ⟨_,_,rfl,rfl,rl⟩)
    exact ⟨_,H',I',po _ _ H' si' mv⟩
   | brk=>obtain ⟨_,_,_,z⟩:=q; exact z.elim
   | cont=>obtain ⟨_,_,_,z⟩:=q; exact z.elim
   | ret u=>obtain ⟨_,_,_,_,_,z⟩:=q; exact z.elim
end Z
namespace Z
open PySem PySem.Spec PyProof.Rows L2
variable {CX:CXT}{G:GS}{T:Tx}{lv:Nat}{X:Cx}{c:CC}{S₀:Addr→Prop}{H₀:Hp}{fr:Bool}{EX:Str→Hp→Prop}{pos:Pos}
theorem XW (xc:XC CX X c G T lv) {n:Nat} {e:Expr} {ir:IE} {x:Str} {i:Nat} {p1 p2 p:Pos} (hx:bT c x=some i) (hl:(p2.endLine == p.line)=true) (he:cE n c e=some ir) :
  PS X (.Expr (.Call (.Attribute (.Name x p1) "append" p2) [e] [] p) pos) (tSt X.K T S₀ H₀ fr EX G (.app i ir)):=fun pins s σ H D I ⟨ρ,out,S,hex,si,po⟩=>by
 simp only [ex,Option.bind_eq_bind,Option.bind_eq_some_iff] at hex
 obtain ⟨d,hd,hex⟩:=hex
 split at hex
 ·rename_i ds hi
  split at hex
  ·rename_i hz
   cases hex
   obtain ⟨q,ob,e1,e2,e3,rm⟩:=si.re.at_ i _ hi
   obtain ⟨xs,rfl,rl⟩:=rm.lst
   have st:=(dJ he).star X.env []
   refine kJ (HL PySem.F.plainAttrs_list PySem.F.slot_list_append PySem.F.type_list_append pW (kM xc hx) (bB (nV (S:=S) xc he hd) eY st) rfl ?_ hl st rfl) rfl pins s σ H D I ⟨.ref q,e1,.inl ⟨rfl,xs,SqL.of e3⟩,si.re,fun v H' sm r=>⟨q,xs,v,rfl,rfl,sm _ _ e3,?_,?_⟩⟩
   ·rw [st]; rfl
   ·rw [← rl.len]; exact Nat.lt_of_lt_of_le hz iV
   ·obtain ⟨si',mv⟩:=(si.step sm).write (ds':=.lst (ds++[d])) hi e1 (.inl ⟨_,_,rfl,rfl,(rl.same sm).app (aD.cons r aD.nil)⟩)
    exact po S σ _ si' ((aO.same sm).trans mv)
  ·cases hex
 ·cases hex
theorem aAo (n:Nat) (i:Int):Z.ixN n i=L2.ixN n i:=by
 unfold Z.ixN L2.ixN
 rfl
theorem DT {n:Nat} {c:CC} {e:Expr} {ir:IE} (h:cE n c e=some ir) {o i:Expr} {p:Pos} {l:Nat} {env:Env}:swapsWith e (some (.Subscript o i p)) l env=pure false:=by
 cases e<;>first|rfl|(cases n<;>exact nomatch (show none=some ir from h))
theorem XQ (xc:XC CX X c G T lv) {n:Nat} {e k:Expr} {ir kr:IE} {x:Str} {i:Nat} {p1 p2:Pos} (hx:bT c x=some i) (hk:cE n c k=some kr) (he:cE n c e=some ir) :
  PS X (.Assign [.Subscript (.Name x p1) k p2] e pos) (tSt X.K T S₀ H₀ fr EX G (.put i kr ir)):=fun pins s σ H D I ⟨ρ,out,S,hex,si,po⟩=>by
 simp only [ex,Option.bind_eq_bind,Option.bind_eq_some_iff] at hex
 obtain ⟨d,hd,ki,hki,hex⟩:=hex
 split at hex
 ·rename_i o hi
  obtain ⟨o',ho,rfl⟩:=Option.map_eq_some_iff.mp hex
  obtain ⟨q,ob,e1,e2,e3,rm⟩:=si.re.at_ i _ hi
  cases o<;>first|exact nomatch (show none=some o' from ho)|skip
  ·rename_i ds
   obtain ⟨j,hj,rfl⟩:=Option.map_eq_some_iff.mp ho
   obtain ⟨xs,rfl,rl⟩:=rm.lst
   refine HD (nV (S:=S) xc he hd) (YS (kM xc hx) (nV (S:=S) xc hk (gZ hki)) set_list ?_) ?_ ?_ rfl pins s σ H D I ⟨si.re,fun v H' sm r=>⟨.ref q,e1,(si.step sm).re,fun w H2 sm2 r2=>?_⟩⟩
   ·intro v
    cases k<;>first|rfl|(cases n<;>exact nomatch (show none=some kr from hk))
   ·cases e<;>rfl
   ·cases e<;>rfl
   ·unfold Rep at r2
    subst r2
    refine ⟨q,xs,ki,j,rfl,rfl,sm2 _ _ (sm _ _ e3),by rw [← rl.len,← aAo]; exact hj,?_⟩
    obtain ⟨si',mv⟩:=(si.step (sm.trans sm2)).write (ds':=.lst (ds.set j d)) hi e1 (.inl ⟨_,_,rfl,rfl,aD.set j (rl.same (sm.trans sm2)) (r.same sm2)⟩)
    exact po S σ _ si' ((aO.same (sm.trans sm2)).trans mv)
  ·rename_i kvs
   have ho:(if kvs.length<big then some (Z.D.dct (lG kvs ki d)) else none)=some o':=ho
   split at ho
   ·rename_i hz
    cases ho
    obtain ⟨gs,rfl,rk⟩:=rm.dct
    refine OY (VL xc.room) (kM xc hx) (nV (S:=S) xc hk (gZ hki)) (nV (S:=S) xc he hd) (DT he) pins s σ H D I ⟨si.re,fun v H' sm r=>⟨.ref q,e1,(si.step sm).re,fun w H2 sm2 r2=>?_⟩⟩
    unfold Rep at r2
    subst r2
    refine ⟨q,_,rfl,NA.k (k:=Sum.inl ki) (sm2 _ _ (sm _ _ e3)) (by rw [← bA.len rk]; exact Nat.lt_of_lt_of_le hz iV),?_⟩
    obtain ⟨si',mv⟩:=(si.step (sm.trans sm2)).write (ds':=.dct (lG kvs ki d)) hi e1 (.inr ⟨_,_,rfl,rfl,bA.put (r.same sm2) (bA.gen (aO.same (S:=S) (sm.trans sm2)) _ _ rk)⟩)
    exact po S σ _ si' ((aO.same (sm.trans sm2)).trans mv)
   ·cases ho
 ·cases hex
theorem yW {bind:D→List Sl→Option (List Sl)} {body:List Sl→Option Out} {d:D} {r:List D} {ρ:List Sl} {out:Out} (h:eB bind body (d::r) ρ=some out):∃ ρ1 o,bind d ρ=some ρ1∧body ρ1=some o ∧
  ((∃ ρ2,o=.nx ρ2∧eB bind body r ρ2=some out)∨(∃ ρ2,o=.ct ρ2∧eB bind body r ρ2=some out)∨(∃ ρ2,o=.bk ρ2∧out=.nx ρ2)∨(∃ d,o=.rt d∧out=o)∨∃ x,o=.er x∧out=o):=by
 simp only [eB,Option.bind_eq_bind,Option.bind_eq_some_iff] at h
 obtain ⟨ρ1,h1,o,h2,h3⟩:=h
 refine ⟨ρ1,o,h1,h2,?_⟩
 cases o<;>simp only [Option.some.injEq] at h3
 ·exact .inl ⟨_,rfl,h3⟩
 ·exact .inr (.inr (.inr (.inl ⟨_,rfl,h3.symm⟩)))
 ·exact .inr (.inr (.inl ⟨_,rfl,h3.symm⟩))
 ·exact .inr (.inl ⟨_,rfl,h3⟩)
 ·exact .inr (.inr (.inr (.inr ⟨_,rfl,h3.symm⟩)))
def gEx (K:PySem.W.Frag) (T:Tx) (is:List Nat) (tp:Bool):TG:=fun v σ H Q=>∃ ρ S ρ1 d,bE is tp d ρ=some ρ1∧gD K T S is ρ ρ1 d v σ H Q
theorem XT (xc:XC CX X c G T lv) (xs:XS CX T X c EX) {n:Nat} {tg iter:Expr} {body:List Stmt} {tgs:List Nat} {tp:Bool} {k:Src} {src:IE} {ib:IS} (htg:cX c tg=some (tgs,tp)) (hi:cI n c iter=some (k,src)) (hb:PSs X body (tSt X.K T S₀ H₀ fr EX G ib)) :
  PS X (.For tg iter body [] pos) (tSt X.K T S₀ H₀ fr EX G (.loop tgs tp k src ib)):=fun pins s σ H D I ⟨ρ,out,S,hex,si,po⟩=>by
 simp only [ex,Option.bind_eq_bind,Option.bind_eq_some_iff] at hex
 obtain ⟨d,hd,ds,hds,hgo⟩:=hex
 obtain ⟨hit,hset⟩:=(eE n).2.2.2.2 X c S ρ iter k src xc hi d ds hd hds
 have hg:PG X tg (gEx X.K T tgs tp):=fun pins s σ H v u Q I r ⟨ρ,S,ρ1,d,hbn,h⟩=>YT xc htg hbn pins s σ H v u Q I r h
 refine YO xs.pass xc.calm (hit tg) hg hb hset pins s σ H D I ⟨si.re,fun J H1 sm itd hlen=>?_⟩
 refine ⟨fun i m σ H=>∃ ρi Si,m=ds.length-i∧i≤ds.length∧eB (bE tgs tp) (ex G ib) (ds.drop i) ρi=some out∧SInv X.K T S₀ H₀ Si ρi σ H∧aO X.K H1 H S Si,⟨ds.length,ρ,S,by simp,Nat.zero_le _,by simpa using hgo,si.step sm,aO.refl⟩,?_⟩
 rintro i m σ' H' ⟨ρi,Si,rfl,hile,hgi,sii,mv⟩
 obtain ⟨it1,it2⟩:=itd H' Si mv sii.re.dom
 have po':LI X.K T S₀ H₀ fr EX H' Si D out:=po.step ((aO.same sm).trans mv)
 by_cases hlt:i<ds.length
 ·refine .inr ?_
  have hdr:ds.drop i=ds[i]::ds.drop (i+1):=List.drop_eq_getElem_cons hlt
  rw [hdr] at hgi
  obtain ⟨ρ1,o,hbn,hbo,hcase⟩:=yW hgi
  obtain ⟨hgo',hy⟩:=it1 i ds[i] (by simp [hlt])
  refine ⟨hgo',fun σ2 H2=>∃ ρ2 S2,eB (bE tgs tp) (ex G ib) (ds.drop (i+1)) ρ2=some out∧SInv X.K T S₀ H₀ S2 ρ2 σ2 H2∧aO X.K H1 H2 S S2,fun σ2 H2 ⟨ρ2,S2,a,b,c⟩=>⟨ds.length-(i+1),by omega,ρ2,S2,rfl,hlt,a,b,c⟩,fun x H2 hyl=>?_⟩
  obtain ⟨s2,rx⟩:=hy x H2 hyl
  refine ⟨ρi,Si,ρ1,ds[i],hbn,(sii.step s2).re,rx,fun σ3 re3 ag=>⟨ρ1,o,Si,hbo,(sii.step s2).bind hbn re3 ag,?_⟩⟩
  have mv2:aO X.K H1 H2 S Si:=mv.trans (aO.same s2)
  rcases hcase with ⟨ρ2,rfl,hr⟩|⟨ρ2,rfl,hr⟩|⟨ρ2,rfl,rfl⟩|⟨d',rfl,rfl⟩|⟨x',rfl,rfl⟩
  ·exact fun S3 σ4 H4 si4 mv4=>⟨ρ2,S3,hr,si4,mv2.trans mv4⟩
  ·exact fun S3 σ4 H4 si4 mv4=>⟨ρ2,S3,hr,si4,mv2.trans mv4⟩
  ·exact fun S3 σ4 H4 si4 mv4=>po' S3 σ4 H4 si4 ((aO.same s2).trans mv4)
  ·exact po'
  ·exact po'
 ·have hn:i=ds.length:=by omega
  refine .inl ⟨it2 i (by omega),?_⟩
  rw [hn,List.drop_length] at hgi
  simp only [eB,Option.some.injEq] at hgi
  subst hgi
  exact po' Si σ' H' sii aO.refl
end Z
namespace Z
open PySem PySem.Spec PyProof.Rows L2
variable {CX:CXT}{G:GS}{T:Tx}{lv:Nat}{X:Cx}{c:CC}{S₀:Addr→Prop}{H₀:Hp}{fr:Bool}{EX:Str→Hp→Prop}{pos:Pos}
theorem QQ (h:XC CX X c G T lv) {S:Addr→Prop} {ρ:List Sl} {x:Str} {es:List Expr} {ds:List D} {p:Pos} {k:Str} {C:Addr} {E1:XK} (hg:aX c x=true) (hf:c.fns.contains x=true) (ha:PA X es (tAs X.K T S ρ ds)) (hs:starEach es X.env=es.map fun e=>(false,eval e X.env)) (hlen:ds.length=es.length)
  (hd:G.fn x ds=some (.er k)) (hT:T.xc k=some C) (hp:fT CX X E1):PE X (.Call (.Name x p) es [] pos) (fun σ H Q=>RE X.K T H S ρ σ∧∀ H',aG H H'→E1 (.ref C) none H'):=by
 obtain ⟨f,fd,ps,hm,hk,hb,hl,F⟩:=h.go.fn x hf
 have key:∀ σ H Q,(RE X.K T H S ρ σ∧∀ H',aG H H'→E1 (.ref C) none H')→uU (spD X.K T ps.length (G.fn x) (G.ff x)) [] E1 (tAs X.K T S ρ ds) σ H Q:=fun σ H Q ⟨re,q⟩ =>
  ⟨re,fun vs H1 s1 r1=>⟨by rw [List.append_nil,← r1.len]; exact hl ds _ hd,S,ds,(re.same s1).dom,by rw [List.append_nil]; exact r1,.inr ⟨k,C,hd,hT,fun H' s2=>q H' (s1.trans s2)⟩⟩⟩
 cases es with
 | nil =>
  refine PE.mono (vH F h.room (h.glob hg) hm hk hb .nil hp (h.gne hg)) fun σ H Q hq=>?_
  obtain ⟨re,q⟩:=hq
  have hds:ds=[]:=List.length_eq_zero_iff.mp hlen
  subst hds
  exact (key σ H Q ⟨re,q⟩).2 [] H (aG.refl H) aD.nil
 | cons e es =>
  obtain ⟨h1,h2⟩:=pR (pos:=pos) hs
  exact PE.mono (AC F h.room (h.glob hg) hm hk hb .nil hp ha (h.gne hg) h1 h2) key
theorem QO (h:XC CX X c G T lv) {S:Addr→Prop} {ρ:List Sl} {ea:Expr} {m cn:Str} {fs:List (Str × D)} {es:List Expr} {ds:List D} {apos:Pos} {k:Str} {C:Addr} {E1:XK} (ht:pA X ea m es apos pos) (ho:PE X ea (tD X.K T S ρ (.obj cn fs))) (hn:fs.lookup m=none)
  (ha:PA X es (tAs X.K T S ρ ds)) (hs:starEach es X.env=es.map fun e=>(false,eval e X.env)) (hlen:ds.length=es.length) (hd:G.me cn m (.obj cn fs::ds)=some (.er k)) (hT:T.xc k=some C) (hp:fT CX X E1) :
  PE X (.Call (.Attribute ea m apos) es [] pos) (fun σ H Q=>RE X.K T H S ρ σ∧∀ H',aG H H'→E1 (.ref C) none H'):=by
 obtain ⟨pl,ht⟩:=ht
 intro pins s σ H Q I ⟨re,q⟩
 refine PySem.W.methodCall_KW (pl:=pl) (thn (ho pins s σ H (fun v H'=>aG H H'∧Rep X.K T H' S (.obj cn fs) v) I ⟨re,fun v H' a b=>⟨a,b⟩⟩) fun u s1 ⟨x,H1,I1,rx,sm,ro⟩=>?_) ht
 have ro':=ro
 unfold Rep at ro
 obtain ⟨p,C',dx,gs,ex,_,ec,e,rf⟩:=ro
 subst ex
 obtain rfl:u=Value.ref p:=rx
 obtain ⟨f,fd,ps,hm,hb,hl,F⟩:=h.go.me cn C' m _ _ ec hd
 refine oE I1 e (h.go.cls cn C' ec) hm ((bX.look rf).2 hn) ?_
 have fin:∀ (us:List Value) (vs:List V) (s2:Shared) (H2:Hp),Inv X pins σ H2 s2→aS vs us→aG H1 H2→aD X.K T H2 S ds vs→wpAny (model X.prog X.w) X.A (call (.ref f) (.ref p::us)) (EP X pins σ Q) X.xe s2:=fun us vs s2 H2 I2 r2 s12 rl=>by
  refine rQ (us:=.ref p::us) (vs:=.ref p::vs) (dvs:=[]) (ds:=[]) (E:=E1) F h.room hb .nil hp I2 (.cons rfl r2) ?_
  refine ⟨?_,S,.obj cn fs::ds,((re.same sm).same s12).dom,?_,.inr ⟨k,C,hd,hT,fun H' s3=>q H' ((sm.trans s12).trans s3)⟩⟩
  ·have:=hl _ _ hd
   simp only [List.append_nil,List.length_cons] at this ⊢
   rw [← rl.len]; exact this
  ·rw [List.append_nil]
   exact aD.cons (ro'.same s12) rl
 cases es with
 | nil =>
  have hds:ds=[]:=List.length_eq_zero_iff.mp hlen
  subst hds
  exact PySem.W.callWith_K0 (first:=[.ref p]) I1.kIn hm.kp (fin [] [] s1 H1 I1 .nil (aG.refl _) aD.nil)
 | cons e es =>
  obtain ⟨h1,h2⟩:=pR (pos:=pos) hs
  refine PySem.W.callWith_K (first:=[.ref p]) (h₀:=X.base) I.ok.mod.kin hm.kp (thn (ha pos pins s1 σ H1 (fun vs H'=>aG H1 H'∧aD X.K T H' S ds vs) I1 ⟨re.same sm,fun vs H' a b=>⟨a,b⟩⟩) fun us s2 ⟨vs,H2,I2,r,s12,rl⟩=>⟨I2.kIn,?_⟩) h1 h2
  exact fin us vs s2 H2 I2 r s12 rl
theorem VG (xc:XC CX X c G T lv) {S:Addr→Prop} {ρ:List Sl} {n:Nat} {f:Expr} {args:List Expr} {kw:List Keyword} {p:Pos} {ir:IE} {k:Str} {C:Addr} {E1:XK} (he:cE n c (.Call f args kw p)=some ir) (hr:evR G ir ρ=some (.er k)) (hT:T.xc k=some C) (hp:fT CX X E1) :
  PE X (.Call f args kw p) (fun σ H Q=>RE X.K T H S ρ σ∧∀ H',aG H H'→E1 (.ref C) none H'):=by
 cases n with
 | zero=>exact nomatch (show none=some ir from he)
 | succ n =>
  obtain ⟨hE,hT',hB,hA,hI⟩:=eE (CX:=CX) (G:=G) (T:=T) (lv:=lv) n
  obtain ⟨hkw,he⟩:=bK he
  obtain rfl:=kU hkw
  cases f<;>first|exact nomatch (show none=some ir from he)|skip
  case Attribute o m ap _ =>
   obtain ⟨hc,he⟩:=bK he
   obtain ⟨hc,hc3⟩:=cU hc
   obtain ⟨hc1,hc2⟩:=cU hc
   obtain ⟨x,hx,he⟩:=aF he
   obtain ⟨y,hy,rfl⟩:=aQ he
   simp only [evR] at hr
   split at hr
   ·rename_i cn fs hw
    obtain ⟨hnone,hr⟩:=bK hr
    obtain ⟨ds,hds,hd⟩:=aF hr
    obtain ⟨ds',e1,hl,pa,hs⟩:=hA X _ S ρ args y xc hy _ (bZ hds)
    cases e1
    exact QO xc (vN hc1 hs (of_decide_eq_true hc2) hc3) (hE X _ S ρ o x xc hx _ hw).1 (Option.isNone_iff_eq_none.mp hnone) pa hs hl hd hT hp
   ·cases hr
  case Name x px _ =>
   obtain ⟨hg,he⟩:=bK he
   cases hf:c.fns.contains x with
   | true =>
    rw [hf] at he
    obtain ⟨y,hy,rfl⟩:=aQ (show (cA n c args).map (fun y=>IE.call x y)=some ir from he)
    obtain ⟨ds,hds,hd⟩:=aF (show (bH (ev G y ρ)).bind (G.fn x)=some (.er k) from hr)
    obtain ⟨ds',e1,hl,pa,hs⟩:=hA X _ S ρ args y xc hy _ (bZ hds)
    cases e1
    exact QQ xc hg hf pa hs hl hd hT hp
   | false =>
    exfalso
    rw [hf] at he
    have no:∀ {o:Option IE} {g:IE→IE},(∀ y,evR G (g y) ρ=none)→o.map g=some ir→False:=fun {o g} hn z=>by
     obtain ⟨y,_,rfl⟩:=aQ z
     rw [hn y] at hr; cases hr
    cases hcl:c.cls.contains x with
    | true=>rw [hcl] at he; exact no (g:=fun y=>IE.mk x y) (fun _=>rfl) he
    | false =>
     rw [hcl] at he
     cases hi:x == "isinstance" with
     | true =>
      rw [hi] at he
      have he:GR (cE n c) c args=some ir:=he
      match args,he with
      | [a,y],he =>
       obtain ⟨y',_,he⟩:=aF he
       obtain ⟨_,he⟩:=bK he
       exact no (g:=fun z=>IE.isi z y'.1) (fun _=>rfl) he
     | false =>
      rw [hi] at he
      obtain ⟨b,hb,he⟩:=aF (show (oX x).bind (fun b=>EA (cE n c) c b args (cA n c args))=some ir from he)
      unfold EA at he
      have nb:∀ b:BF,((cA n c args).map fun z=>IE.bcall b z)=some ir→False:=fun b he=>no (g:=fun z=>IE.bcall b z) (fun _=>rfl) he
      split at he
      ·rename_i i _
       cases b<;>first|exact nb _ he|(cases (show some _=some ir from he); cases hr)
      ·cases hra:xN c args with
       | none=>rw [hra] at he; exact nb b (by cases b<;>exact he)
       | some a=>rw [hra] at he; cases b<;>first|exact nb _ he|exact no (g:=fun z=>IE.walk .rev z) (fun _=>rfl) he
theorem NT (xc:XC CX X c G T lv) (xs:XS CX T X c EX) {n:Nat} {f:Expr} {args:List Expr} {kw:List Keyword} {p:Pos} {ir:IE} (he:cE n c (.Call f args kw p)=some ir):PS X (.Expr (.Call f args kw p) pos) (tSt X.K T S₀ H₀ fr EX G (.drop ir)):=fun pins s σ H D I ⟨ρ,out,S,hx,si,po⟩=>by
 simp only [ex] at hx
 split at hx
 ·rename_i d hd
  cases hx
  exact kJ ((eE n).1 X c (fun _=>False) (view ρ) _ ir xc he d hd).1 rfl pins s σ H D I ⟨si.re.view,fun v H' sm _=>po S σ H' (si.step sm) (aO.same sm)⟩
 ·split at hx
  ·rename_i k hk
   split at hx
   ·rename_i hn
    cases hx
    obtain ⟨C,hT⟩:=xc.go.xns k hn
    refine kJ (VG (S:=fun _=>False) (E1:=fun cls _ H'=>∃ k C,T.xc k=some C∧cls=.ref C∧EX k H') xc he hk hT (xs.pss _ fun cls H' z=>z)) rfl pins s σ H D I ⟨si.re.view,fun H' sm=>⟨k,C,hT,rfl,po H' (si.same.trans sm)⟩⟩
   ·cases hx
  ·cases hx
theorem XC.re {X':Cx} (xc:XC CX X c G T lv) (h1:X'.prog=X.prog) (h2:X'.w=X.w) (h3:X'.K=X.K) (h4:X'.mg=X.mg) (h5:X'.base=X.base) (h6:X'.N=X.N) (h7:X'.env=X.env) (h8:X'.fn=X.fn) (h9:X'.calm=X.calm) (h10:X'.A=X.A):XC CX X' c G T lv:=by
 obtain ⟨pr,w,K,mg,base,A,N,s0,H0,env,outer,stack,ex,fn,calm,pn,xe⟩:=X
 obtain ⟨pr',w',K',mg',base',A',N',s0',H0',env',outer',stack',ex',fn',calm',pn',xe'⟩:=X'
 dsimp only at h1 h2 h3 h4 h5 h6 h7 h8 h9 h10
 subst h1 h2 h3 h4 h5 h6 h7 h8 h9 h10
 exact ⟨xc.N,xc.nd,xc.kd,xc.own,xc.dbg,xc.gdb,xc.calm,xc.room,⟨xc.go.fn,xc.go.me,xc.go.cls,xc.go.fld,xc.go.mo,xc.go.cst,xc.go.bi,xc.go.xcl,xc.go.frs,xc.go.cx0,xc.go.cxf,xc.go.xns,xc.go.xk,xc.go.sub,xc.go.wd⟩⟩
abbrev PD (X:Cx) (pins:List (Addr × Obj)) (W:Value→Shared→Prop):Cx:={ X with pn:=X.pn++pins,xe:=W }
theorem aAr {pins:List (Addr × Obj)} {σ:L2.St} {H:Hp} {s:Shared} {W:Value→Shared→Prop} (I:Inv X pins σ H s):Inv (PD X pins W) [] σ H s:=
 ⟨⟨I.ok.mod,I.ok.kind,I.ok.glob,I.ok.blt,I.ok.above,I.ok.inj,I.ok.has,I.ok.cab,I.ok.hd,I.ok.frames,I.ok.stk,I.ok.exf,I.ok.bs,I.ok.bsz,I.ok.noex,I.ok.exfs,I.ok.funs,I.ok.frf⟩,I.os,I.bare,I.base,I.loc,I.cell,I.free,I.freeC,fun p hp=>I.pin p (by simpa using hp),I.hok,I.len⟩
theorem JL {pins pins':List (Addr × Obj)} {σ:L2.St} {H:Hp} {s:Shared} {W:Value→Shared→Prop} (ok:X.Ok) (I:Inv (PD X pins W) pins' σ H s):Inv X pins σ H s:=
 ⟨ok,I.os,I.bare,I.base,I.loc,I.cell,I.free,I.freeC,fun p hp=>I.pin p (List.mem_append_left _ hp),I.hok,I.len⟩
theorem aAL {ir:IE} {ρ:List Sl} {d:D} (h:evR G ir ρ=some (.ok d)):ev G ir ρ=some d:=by
 cases ir<;>simp only [evR,reduceCtorEq] at h
 ·simp only [ev,Option.bind_eq_bind]
  cases q:bH (ev G _ ρ) with
  | none=>rw [q] at h; cases h
  | some as=>rw [q] at h; show gX (G.fn _ as)=_; rw [show G.fn _ as=_ from h]; rfl
 ·simp only [ev,Option.bind_eq_bind]
  split at h
  ·rename_i c fs hw
   rw [hw]
   split at h
   ·rename_i hn
    show (if _ then _ else _)=_
    rw [if_pos hn]
    cases q:bH (ev G _ ρ) with
    | none=>rw [q] at h; cases h
    | some as=>rw [q] at h; show gX (G.me _ _ _)=_; rw [show G.me _ _ _=_ from h]; rfl
   ·cases h
  ·cases h
theorem CQ {c:CC} {nm:Option Str} {e:Expr} {f:Str} (h:cW c nm e=some f):∃ p1 y p2 p3,e=.Call (.Name f p1) [.Name y p2] [] p3∧nm=some y∧aX c f=true:=by
 obtain ⟨q,h1,h⟩:=aF h
 obtain ⟨g,h2,h⟩:=aF h
 obtain ⟨a,h3,h⟩:=aF h
 obtain ⟨y,h4,h⟩:=aF h
 obtain ⟨h5,h⟩:=bK h
 obtain ⟨h5,h7⟩:=cU h5
 obtain ⟨h5,h6⟩:=cU h5
 cases h
 exact ⟨g.2,y.1,y.2,q.2.2.2,by rw [eJ h1,cM h2,bQ h3,cM h4,kU h5],beq_iff_eq.mp h6,h7⟩
theorem aAP {c:CC} {nm:Option Str} {e:Expr} {r:HR} (h:cH c nm e=some r):(∃ b j q,e=.Constant (.bool b) j q∧r=.lit (.bl b))∨(∃ f p1 y p2 p3,e=.Call (.Name f p1) [.Name y p2] [] p3∧nm=some y∧aX c f=true∧r=.word f) ∨
  (∃ f p1 y p2 p3 x j p4 p5,e=.Compare (.Call (.Name f p1) [.Name y p2] [] p3) [.Eq] [.Constant (.str x) j p4] p5∧nm=some y∧aX c f=true∧r=.weq f x):=by
 have wd:(cW c nm e).map HR.word=some r→(∃ f p1 y p2 p3,e=.Call (.Name f p1) [.Name y p2] [] p3∧nm=some y∧aX c f=true∧r=.word f):=fun h=>by
  obtain ⟨f,h1,rfl⟩:=aQ h
  obtain ⟨p1,y,p2,p3,a,b,d⟩:=CQ h1
  exact ⟨f,p1,y,p2,p3,a,b,d,rfl⟩
 cases e<;>first|exact .inr (.inl (wd h))|skip
 case Compare e os bs p =>
  obtain ⟨f,h1,h⟩:=aF h
  obtain ⟨o,h2,h⟩:=aF h
  obtain ⟨b,h3,h⟩:=aF h
  obtain ⟨x,h4,h⟩:=aF h
  obtain ⟨h5,h⟩:=bK h
  cases h
  obtain ⟨p1,y,p2,p3,rfl,a,d⟩:=CQ h1
  obtain ⟨j,p4,rfl⟩:=pP h4
  have ho:o=.Eq:=by cases o<;>first|rfl|exact nomatch (show false=true from h5)
  subst ho
  exact .inr (.inr ⟨f,p1,y,p2,p3,x,j,p4,p,by rw [bQ h2,bQ h3],a,d,rfl⟩)
 case Constant v k p =>
  cases v<;>first|exact .inr (.inl (wd h))|skip
  cases (show some _=some r from h)
  exact .inl ⟨_,_,_,rfl,rfl⟩
theorem uW (xc:XC CX X c G T lv) {nm:Option Str} {e:Expr} {r:HR} {rp:Pos} {a C:Addr} {k:Str} {d:D} {σ0:L2.St} {H1:Hp} {rt:VK} {S:Addr→Prop} (hr:cH c nm e=some r) (hd:hrD G k r=some d) (hT:T.xc k=some C) (hsl:∀ n,nm=some n→∃ i:Nat,c.N[i]?=some n∧c.sc.names.lookup n=some .local∧(n == ("__debug__":Str))=false∧(n == ("__classdict__":Str))=false∧σ0[i]?=some (some (V.ref a)))
  (hx:H1 a=some (.ext (isExc a C))) (hq:∀ v H',aG H1 H'→Rep X.K T H' S d v→rt v H'):PSs (fR X a) [.Return (some e) rp] (fun D' σ' H''=>D'=lE rt∧σ'=σ0∧H''=H1):=by
 have word:∀ {f y:Str} {p1 p2 p3:Pos} {x:Str},nm=some y→aX c f=true→G.wd f k=some x→PE (fR X a) (.Call (.Name f p1) [.Name y p2] [] p3) (fun σ' H'' Q=>σ'=σ0∧H''=H1∧∀ H',aG H1 H'→Q (.str x) H'):=fun {f y p1 p2 p3 x} e1 hg hw=>by
  obtain ⟨i,h1,h2,h3,h4,h5⟩:=hsl y e1
  obtain ⟨fa,fd,ps,j,hj,hm,hk,hb,F⟩:=xc.go.wd f k x C hT hw
  have kd:X.env.kindOf y=some .local:=by
   have:=xc.kd y
   rw [h2] at this
   exact this
  have pv:PE (fR X a) (.Name y p2) (rL i):=lI (X:=fR X a) (by show X.N[i]?=_; rw [xc.N]; exact h1) (.inl kd) h3 h4
  have rm:RoomM j (fR X a).A:=⟨((SZ xc.room).mono hj).dp,((SZ xc.room).mono hj).un⟩
  refine PE.mono (HK (X:=fR X a) F rm (xc.glob hg) hm hk hb (bB pv eY) (xc.gne hg) rfl rfl) fun σ' H'' Q hh=>?_
  obtain ⟨rfl,rfl,q⟩:=hh
  exact ⟨.ref a,h5,a,rfl,hx,q⟩
 refine iZ ?_
 rcases aAP hr with ⟨b,j,q,rfl,rfl⟩|⟨f,p1,y,p2,p3,rfl,h1,h2,rfl⟩|⟨f,p1,y,p2,p3,x,j,p4,p5,rfl,h1,h2,rfl⟩
 ·simp only [hrD,Lit.d,Option.some.injEq] at hd
  subst hd
  intro pins s σ' H'' D' I hh
  obtain ⟨rfl,rfl,rfl⟩:=hh
  exact iI AE pins s _ _ _ I (hq _ _ (aG.refl _) bO)
 ·simp only [hrD,Option.map_eq_some_iff] at hd
  obtain ⟨x,hw,rfl⟩:=hd
  intro pins s σ' H'' D' I hh
  obtain ⟨rfl,rfl,rfl⟩:=hh
  exact iI (word h1 h2 hw) pins s _ _ _ I ⟨rfl,rfl,fun H' sm=>hq _ H' sm (by unfold Rep; rfl)⟩
 ·simp only [hrD,Option.map_eq_some_iff] at hd
  obtain ⟨z,hw,rfl⟩:=hd
  intro pins s σ' H'' D' I hh
  obtain ⟨rfl,rfl,rfl⟩:=hh
  refine iI (AB aDS (word h1 h2 hw) fO (IH _)) pins s _ _ _ I ⟨rfl,rfl,fun H' sm=>⟨rfl,?_⟩⟩
  rw [tY]
  exact hq _ H' sm bO
theorem aGf {k:Str} {r:HR} {d:D} (h:hrD G k r=some d):∀ ds,d≠.lst ds:=by
 intro ds z
 subst z
 cases r with
 | lit l=>cases l<;>simp only [hrD,Lit.d,Option.some.injEq,reduceCtorEq] at h
 | word f=>simp only [hrD,Option.map_eq_some_iff,reduceCtorEq,and_false,exists_false] at h
 | weq f x=>simp only [hrD,Option.map_eq_some_iff,reduceCtorEq,and_false,exists_false] at h
theorem XI (xc:XC CX X c G T lv) (xs:XS CX T X c EX) {n:Nat} {f:Expr} {args:List Expr} {kw:List Keyword} {p ep np rp hp:Pos} {ir:IE} {x:Str} {nm:Option Str} {e:Expr} {i:Option Nat} {r:HR} (hg:aX c x=true) (hn:cN c nm=some i) (hr:cH c nm e=some r) (he:cE n c (.Call f args kw p)=some ir) :
  PS X (.Try [.Expr (.Call f args kw p) ep] [.ExceptHandler (some (.Name x np)) nm [.Return (some e) rp] hp] [] [] pos) (tSt X.K T S₀ H₀ fr EX G (.tryx ir x i r)):=fun pins s σ H D I ⟨ρ,out,S,hx,si,po⟩=>by
 refine wpAny_Try_except ?_
 simp only [ex] at hx
 split at hx
 ·rename_i d hd
  cases hx
  have hev:ev G ir (view ρ)=some d:=aAL hd
  have pn:PSs X.nox [.Expr (.Call f args kw p) ep] (SX (tD X.K T (fun _=>False) (view ρ) d)):=iZ (kJ ((eE n).1 X.nox c (fun _=>False) (view ρ) _ ir (xc.re rfl rfl rfl rfl rfl rfl rfl rfl rfl rfl) he d hev).1 rfl)
  refine wpAny_mono (pn pins s σ H { nx:=fun σ' H'=>D.nx σ' H',rt:=fun _ _=>False } (I.wish _) ⟨si.re.view,fun v H' sm _=>po S σ H' (si.step sm) (aO.same sm)⟩) (fun fl s1 h1=>?_) fun _ _ z=>z.elim
  cases fl with
  | next =>
   obtain ⟨σ',H',I',q⟩:=h1
   exact wpAny_execs_nil ⟨σ',H',I'.unwish,q⟩
  | brk=>obtain ⟨_,_,_,z⟩:=h1; exact z.elim
  | cont=>obtain ⟨_,_,_,z⟩:=h1; exact z.elim
  | ret u=>obtain ⟨_,_,_,_,_,z⟩:=h1; exact z.elim
 ·rename_i k hk
  split at hx
  ·rename_i hb
   rw [Bool.and_eq_true,Bool.and_eq_true] at hb
   simp only [Option.map_eq_some_iff] at hx
   obtain ⟨d,hd,rfl⟩:=hx
   obtain ⟨C,hT⟩:=xc.go.xns k hb.1.1
   obtain ⟨L,hL⟩:=xc.go.xns x hb.1.2
   have mP:=xc.go.sub k x C L hT hL hb.2
   have hsc:∀ ds,d≠.lst ds:=aGf hd
   have fin:∀ v H',aG H H'→Rep X.K T H' S₀ d v→D.rt v H':=fun v H' sm rp=>po v H' (si.same.trans sm) rp fun _ ds z=>absurd z (hsc ds)
   have hCx:=xc.go.xk k C hT
   have hLx:=xc.go.xk x L hL
   have hmL:=xc.go.xcl x L hL
   have sm2:∀ {H':Hp} {a:Addr},aG H H'→H' a=none→aG H (upd H' a (.ext (isExc a C))):=fun {H' a} sm ha=>sm.trans (aG.upd ha)
   have hp1:fT CX (PD X pins fun v s1=>wpAny (model X.prog X.w) X.A (noteFrame v X.env) (fun _ s₂=>wpAny (model X.prog X.w) X.A (setFlight v none) (fun _ s₃=>wpAny (model X.prog X.w) X.A (handleBy v X.env [.ExceptHandler (some (.Name x np)) nm [.Return (some e) rp] hp]) (SP X pins D) X.xe s₃) X.xe s₂) X.xe s1) (fun cls _ H'=>cls=.ref C∧aG H H'):=by
    intro pins' σ1 H1 s1 v s2 I1 hcx
    obtain ⟨a,cls,a0,B,H',rfl,F,rfl,sm⟩:=xc.go.cxf _ _ _ _ _ _ hcx
    have I2:=JL I.ok I1
    cases nm with
    | none =>
     refine aAO (rt:=D.rt) I2 F xs.stk xs.frm hCx hLx mP (xc.glob hg) (xc.gne hg) hmL rfl (uW (S:=S₀) xc hr hd hT (fun n z=>by cases z) aJ fun v H2 sm' rp=>fin v H2 ((sm2 sm F.new).trans sm') rp)
    | some nn =>
     simp only [cN] at hn
     split at hn
     ·rename_i hc
      simp only [Bool.and_eq_true,beq_iff_eq,Bool.not_eq_true'] at hc
      simp only [Option.map_eq_some_iff] at hn
      obtain ⟨ii,hii,rfl⟩:=hn
      have hNi:=hG hii
      have kd:X.env.kindOf nn=some .local:=by
       have:=xc.kd nn
       rw [hc.1.1] at this
       exact this
      have hlt:ii<σ1.length:=by rw [I2.len,xc.N]; exact (List.getElem?_eq_some_iff.mp hNi).1
      refine KY (rt:=D.rt) (i:=ii) I2 F xs.stk xs.frm hCx hLx mP (xc.glob hg) (xc.gne hg) hmL rfl (by rw [xc.N]; exact xc.nd) (by rw [xc.N]; exact hNi) kd (uW (S:=S₀) xc hr hd hT (fun n z=>?_) aJ fun v H2 sm' rp=>fin v H2 ((sm2 sm F.new).trans sm') rp)
      cases z
      exact ⟨ii,hNi,hc.1.1,hc.1.2,hc.2,by rw [List.getElem?_set_self hlt]⟩
     ·cases hn
   have xc1:XC CX (PD X pins fun v s1=>wpAny (model X.prog X.w) X.A (noteFrame v X.env) (fun _ s₂=>wpAny (model X.prog X.w) X.A (setFlight v none) (fun _ s₃=>wpAny (model X.prog X.w) X.A (handleBy v X.env [.ExceptHandler (some (.Name x np)) nm [.Return (some e) rp] hp]) (SP X pins D) X.xe s₃) X.xe s₂) X.xe s1) c G T lv:=xc.re rfl rfl rfl rfl rfl rfl rfl rfl rfl rfl
   have pn:=iZ (kJ (pos:=ep) (VG (S:=fun _=>False) xc1 he hk hT hp1) rfl)
   refine wpAny_mono (pn [] s σ H { nx:=fun _ _=>False,rt:=fun _ _=>False } (aAr I) ⟨si.re.view,fun H' sm=>⟨rfl,sm⟩⟩) (fun fl s1 h1=>?_) fun _ _ z=>z
   cases fl with
   | next=>obtain ⟨_,_,_,z⟩:=h1; exact z.elim
   | brk=>obtain ⟨_,_,_,z⟩:=h1; exact z.elim
   | cont=>obtain ⟨_,_,_,z⟩:=h1; exact z.elim
   | ret u=>obtain ⟨_,_,_,_,_,z⟩:=h1; exact z.elim
  ·cases hx
 ·cases hx
end Z
namespace Z
open PySem PySem.Spec PyProof.Rows L2
variable {CX:CXT}{G:GS}{T:Tx}{lv:Nat}{X:Cx}{c:CC}{S₀:Addr→Prop}{H₀:Hp}{fr:Bool}{EX:Str→Hp→Prop}{pos:Pos}
def aBi (CX:CXT) (G:GS) (T:Tx) (lv:Nat) (S₀:Addr→Prop) (H₀:Hp) (fr:Bool) (EX:Str→Hp→Prop) (n:Nat):Prop:=∀ (X:Cx) (c:CC) (st:Stmt) (is:IS),XC CX X c G T lv→XS CX T X c EX→cS n c st=some is→(fr=true→iD is=true)→PS X st (tSt X.K T S₀ H₀ fr EX G is)
def SN (CX:CXT) (G:GS) (T:Tx) (lv:Nat) (S₀:Addr→Prop) (H₀:Hp) (fr:Bool) (EX:Str→Hp→Prop) (n:Nat):Prop:=∀ (X:Cx) (c:CC) (st:List Stmt) (is:IS),XC CX X c G T lv→XS CX T X c EX→cSs n c st=some is→(fr=true→iD is=true)→PSs X st (tSt X.K T S₀ H₀ fr EX G is)
theorem DZ {s:Stmt} {x:Option Expr × Pos} (h:aCT s=some x):s=.Return x.1 x.2:=by
 cases s<;>first|exact nomatch (show none=some x from h)|(cases (show some _=some x from h); rfl)
theorem KB {s:Stmt} {x:Expr × Pos} (h:exP s=some x):s=.Expr x.1 x.2:=by
 cases s<;>first|exact nomatch (show none=some x from h)|(cases (show some _=some x from h); rfl)
theorem FY {c:CC} {e:Expr} {q:Nat × Expr} (h:SK c e=some q):∃ x p1 p2 p,e=.Call (.Attribute (.Name x p1) "append" p2) [q.2] [] p∧bT c x=some q.1∧(p2.endLine == p.line)=true:=by
 obtain ⟨r,h1,h⟩:=aF h
 obtain ⟨g,h2,h⟩:=aF h
 obtain ⟨j,h3,h⟩:=aF h
 obtain ⟨a,h4,h⟩:=aF h
 obtain ⟨h5,h⟩:=bK h
 obtain ⟨h5,h7⟩:=cU h5
 obtain ⟨h5,h6⟩:=cU h5
 cases h
 obtain ⟨x,p1,e3,hs⟩:=fL h3
 refine ⟨x,p1,g.2.2,r.2.2.2,?_,hs,h7⟩
 rw [eJ h1,oY h2,bQ h4,kU h5,e3,beq_iff_eq.mp h6]
theorem XU {n:Nat} (xc:XC CX X c G T lv) (xs:XS CX T X c EX) {t e:Expr} {is:IS} (h:TF (cE n c) c e t=some is):PS X (.Assign [t] e pos) (tSt X.K T S₀ H₀ fr EX G is):=by
 cases t<;>first|exact nomatch (show none=some is from h)|skip
 case Name x p =>
  obtain ⟨i,hx,h⟩:=aF h
  unfold GV at h
  split at h
  ·split at h
   ·rename_i hz
    cases h
    unfold AM at hz
    split at hz
    ·exact NP xc hx
    ·cases hz
   ·obtain ⟨hf,h⟩:=bK h
    obtain ⟨y,hy,rfl⟩:=aQ h
    exact NO xc hx hy hf
  ·obtain ⟨y,hy,rfl⟩:=aQ h
   exact XJ xc hx hy
 case Subscript a i p =>
  obtain ⟨j,hj,h⟩:=aF h
  obtain ⟨k,hk,h⟩:=aF h
  obtain ⟨y,hy,rfl⟩:=aQ h
  obtain ⟨x,p1,rfl,hs⟩:=fL hj
  exact XQ xc hs hk hy
 case Tuple ts k p =>
  have h:xO (cE n c) c ts e=some is:=h
  unfold xO at h
  cases ht:tupP e with
  | some q =>
   rw [ht] at h
   exact nomatch (show none=some is from h)
  | none =>
   rw [ht] at h
   obtain ⟨is',his,h⟩:=aF h
   obtain ⟨u,hu,rfl⟩:=aQ h
   refine NN xc his hu fun vs k p z=>?_
   subst z
   exact nomatch (show some _=none from ht)
theorem EG {n:Nat} (hS:SN CX G T lv S₀ H₀ fr EX n):aBi CX G T lv S₀ H₀ fr EX (n+1):=by
 intro X c st is xc xs h hfr
 cases st<;>first|exact nomatch (show none=some is from h)|skip
 case Pass q=>cases (show some IS.nop=some is from h); exact NS
 case Return v q =>
  cases v with
  | none=>cases (show some IS.retn=some is from h); exact NQ
  | some e =>
   have h:(match fP c e with|some i=>some (IS.retm i)|none=>(cE n c e).map fun x=>IS.ret (gC c e) x)=some is:=h
   cases hm:fP c e with
   | some i =>
    rw [hm] at h
    cases h
    obtain ⟨x,p,rfl,hs⟩:=fL hm
    exact NR xc hs
   | none =>
    rw [hm] at h
    obtain ⟨y,hy,rfl⟩:=aQ h
    exact XO xc hy (fun z=>z) fun z=>hfr z
 case Assign ts e q =>
  obtain ⟨t,ht,h⟩:=aF h
  obtain rfl:=bQ ht
  exact XU xc xs h
 case If t a b q =>
  obtain ⟨u,hu,h⟩:=aF h
  obtain ⟨v,hv,h⟩:=aF h
  obtain ⟨w,hw,rfl⟩:=aQ h
  have hf2:fr=true→iD v=true∧iD w=true:=fun z=>cU (hfr z)
  exact aCo xc hu (hS X _ a v xc xs hv fun z=>(hf2 z).1) (hS X _ b w xc xs hw fun z=>(hf2 z).2)
 case For tg iter body els q =>
  obtain ⟨he,h⟩:=bK h
  obtain rfl:=kU he
  obtain ⟨⟨tgs,tp⟩,htg,h⟩:=aF h
  obtain ⟨⟨k,src⟩,hk,h⟩:=aF h
  obtain ⟨v,hv,rfl⟩:=aQ h
  exact XT xc xs htg hk (hS X _ body v xc xs hv fun z=>hfr z)
 case Expr e q =>
  have h:(match SK c e with|some q=>(cE n c q.2).map fun x=>IS.app q.1 x|none=>(mJ e).bind fun _=>(cE n c e).map .drop)=some is:=h
  cases ha:SK c e with
  | some r =>
   rw [ha] at h
   obtain ⟨u,hu,rfl⟩:=aQ h
   obtain ⟨x,p1,p2,p,rfl,hs,hp⟩:=FY ha
   exact XW xc hs hp hu
  | none =>
   rw [ha] at h
   obtain ⟨r,hr,h⟩:=aF h
   obtain ⟨u,hu,rfl⟩:=aQ h
   obtain rfl:=eJ hr
   exact NT xc xs hu
 case Raise e f q =>
  obtain ⟨e',he,h⟩:=aF h
  obtain ⟨r,h1,h⟩:=aF h
  obtain ⟨x,h2,h⟩:=aF h
  obtain ⟨a,h3,h⟩:=aF h
  obtain ⟨m,h4,h⟩:=aF h
  obtain ⟨h5,h⟩:=bK h
  obtain ⟨h5,h8⟩:=cU h5
  obtain ⟨h5,h7⟩:=cU h5
  obtain ⟨h5,h6⟩:=cU h5
  cases h
  obtain ⟨j,p',ea⟩:=pP h4
  rw [he,Option.isNone_iff_eq_none.mp h5,eJ h1,cM h2,bQ h3,kU h6,ea]
  exact XN xs h7 h8
 case Try b hs els fin q =>
  obtain ⟨h0,h⟩:=bK h
  obtain ⟨h1,h2⟩:=cU h0
  obtain rfl:=kU h1
  obtain rfl:=kU h2
  match hs,h with
  | [.ExceptHandler ty nm body hp],h =>
   obtain ⟨s,a1,h⟩:=aF h
   obtain ⟨e,a2,h⟩:=aF h
   obtain ⟨r,a3,h⟩:=aF h
   obtain ⟨ty',a4,h⟩:=aF h
   obtain ⟨x,a5,h⟩:=aF h
   obtain ⟨s',a6,h⟩:=aF h
   obtain ⟨re,a7,h⟩:=aF h
   obtain ⟨re',a8,h⟩:=aF h
   obtain ⟨hg,h⟩:=bK h
   obtain ⟨i,hi,h⟩:=aF h
   obtain ⟨rr,hr,h⟩:=aF h
   obtain ⟨u,hu,rfl⟩:=aQ h
   have e3:=eJ a3
   rw [e3] at hu
   rw [bQ a1,KB a2,a4,cM a5,bQ a6,DZ a7,a8,e3]
   exact XI xc xs hg hi hr hu
theorem EH {n:Nat} (hS:aBi CX G T lv S₀ H₀ fr EX n) (hR:SN CX G T lv S₀ H₀ fr EX n):SN CX G T lv S₀ H₀ fr EX (n+1):=by
 intro X c st is xc xs h hfr
 rcases st with _|⟨s,_|⟨s2,r⟩⟩
 ·cases (show some IS.nop=some is from h)
  exact XR
 ·exact iZ (hS X c s is xc xs h hfr)
 ·obtain ⟨u,hu,h⟩:=aF h
  obtain ⟨v,hv,rfl⟩:=aQ h
  have hf2:fr=true→iD u=true∧iD v=true:=fun z=>cU (hfr z)
  exact XM (hS X c s u xc xs hu fun z=>(hf2 z).1) (hR X c (s2::r) v xc xs hv fun z=>(hf2 z).2)
theorem mU:∀ n,aBi CX G T lv S₀ H₀ fr EX n∧SN CX G T lv S₀ H₀ fr EX n
 | 0=>⟨fun X c st is xc xs h=>(nomatch (show none=some is from h)),fun X c st is xc xs h=>(nomatch (show none=some is from h))⟩
 | n+1=>⟨EG (mU n).2,EH (mU n).1 (mU n).2⟩
end Z
namespace Z
open PySem PySem.Spec PyProof.Rows L2
variable {CX:CXT}{G:GS}{T:Tx}{lv:Nat}
noncomputable def lB (n:Nat) (ds:List D):List Sl:=ds.map .im++List.replicate (n-ds.length) .un
theorem nM {K:PySem.W.Frag} {H:Hp} {S:Addr→Prop} {N:List Str} {ds:List D} {vs:List V} (dom:∀ a,S a→∃ o,H a=some o) (rl:aD K T H S ds vs):SInv K T S H S (lB N.length ds) (L2.start N vs) H:=by
 have hl:=rl.len
 have nomu:∀ (i:Nat) xs,(lB N.length ds)[i]?≠some (.mu xs):=fun i xs e=>by
  unfold lB at e
  by_cases h:i<(ds.map Sl.im).length
  ·rw [List.getElem?_append_left h,List.getElem?_map] at e
   cases h2:ds[i]? with
   | none=>rw [h2] at e; cases e
   | some d=>rw [h2] at e; cases e
  ·rw [List.getElem?_append_right (by omega),List.getElem?_replicate] at e
   split at e<;>cases e
 refine ⟨⟨dom,by simp [lB,L2.start,hl],fun i s e=>?_⟩,dom,fun _ z=>z,aG.refl H,fun i j xs ys p h=>absurd h (nomu i xs),fun i xs p h=>absurd h (nomu i xs)⟩
 unfold lB at e
 unfold L2.start
 by_cases h:i<(ds.map Sl.im).length
 ·rw [List.getElem?_append_left h,List.getElem?_map] at e
  cases h2:ds[i]? with
  | none=>rw [h2] at e; cases e
  | some d =>
   rw [h2] at e
   cases e
   obtain ⟨v,h3,r⟩:=rl.get h2
   exact ⟨v,by rw [List.getElem?_append_left (by rw [List.length_map] at h ⊢; omega),List.getElem?_map,h3]; rfl,r⟩
 ·rw [List.getElem?_append_right (by omega),List.getElem?_replicate] at e
  split at e
  ·cases e; trivial
  ·cases e
theorem vR (k:Option NameKind):uI k k:=by
 cases k with
 | none=>trivial
 | some k=>cases k<;>first|rfl|trivial|exact .inl rfl
def mH (c:CC) (sc:Scope):Bool:=c.N.all (fun x=>!(x == ("__debug__":Str))&&!(x == ("__classdict__":Str)))&&!(aX c "__debug__")
theorem GA {P:Program} {w:World} {K:PySem.W.Frag} {mg:Str→Option Value} {base:Heap} {N ps:List Str} {qual:Str} {sc:Scope} {f:Addr} {cd:Value} {A:Around} {outer:List Env} {s:Shared} {H:Hp} {E:XK} {c:CC} (hN:c.N=N) (hsc:c.sc=sc) (fs:FnScope N ps sc) (hk:mH c sc=true)
  (hr:Room lv (A.deeper (envOfC qual sc s.heap.objs.size f cd))) (go:GOK CX (kW CX P w K mg base N qual sc f cd A outer s H E).nox c G T lv):XC CX (kW CX P w K mg base N qual sc f cd A outer s H E).nox c G T lv:=by
 unfold mH at hk
 rw [Bool.and_eq_true,List.all_eq_true] at hk
 refine ⟨hN.symm,by rw [hN]; exact fs.nd,fun x=>?_,fun _ _=>rfl,fun x hx=>?_,?_,rfl,hr,go⟩
 ·rw [hsc]; exact vR _
 ·have:=hk.1 x hx
  simpa using this
 ·simpa using hk.2
theorem aAw {P:Program} {w:World} {K:PySem.W.Frag} {mg:Str→Option Value} {base:Heap} {x qual:Str} {st:Stmt} {f:Addr} {fd:FuncData} {N ps:List Str} {c:CC} {n:Nat} {ir:IS} {fr:Bool} (F:Fun K x qual st f fd) (fs:FnScope N ps (aC st)) (hN:c.N=N) (hsc:c.sc=aC st) (hk:mH c (aC st)=true)
  (hir:cSs n c (bN st)=some ir) (hfr:fr=true→iD ir=true)
  (go:∀ (X:Cx),X.prog=P→X.w=w→X.K=K→X.mg=mg→X.base=base→GOK (gG P w) X c G T lv):FnOk P w K mg base (gG P w) (lv+1) f fd ps (spD K T ps.length (fun ds=>aN G N.length ir ds) fr):=by
 obtain ⟨oc,od,kV,doc,pm,an,cdv,ct,osl,rfl,lk,hcd⟩:=F.ex
 refine VM lk hcd fs (fun vs H Q E h=>h.1) fun A outer s H vs Q E hr hsp=>?_
 obtain ⟨hlen,S,ds,dom,rl,hcase⟩:=hsp
 have xc:XC (gG P w) (kW (gG P w) P w K mg base N qual (aC st) f cdv A outer s H E) c G T lv:=(GA (CX:=gG P w) (E:=E) (P:=P) (w:=w) (mg:=mg) (base:=base) (outer:=outer) (s:=s) (H:=H) (f:=f) (cd:=cdv) (qual:=qual) hN hsc fs hk hr (go _ rfl rfl rfl rfl rfl)).re rfl rfl rfl rfl rfl rfl rfl rfl rfl rfl
 have xs:XS (gG P w) T (kW (gG P w) P w K mg base N qual (aC st) f cdv A outer s H E) c (fun k H'=>∃ C,T.xc k=some C∧E (.ref C) none H'):=by
  refine ⟨fs.kind,PassesOwn.leaving,fun y m j p p' q pos hg hc=>?_,fun E1 h1=>PP fun cls H' z=>?_,rfl,rfl⟩
  ·rintro pins s1 σ H1 D I ⟨C,hT,hE⟩
   exact HC (W:=fun H'=>E (.ref C) none H') rfl (xc.glob hg) (xc.gne hg) (xc.go.xcl y C hT) (xc.go.xk y C hT) (fun pins σ H s h' e vs I hm hE=>yM I hm hE) pins s1 σ H1 D I hE
  ·obtain ⟨k,C,hT,rfl,C',hT',hE⟩:=h1 cls H' z
   rw [hT] at hT'
   cases hT'
   exact hE
 refine ⟨_,(mU (S₀:=S) (H₀:=H) (fr:=fr) n).2 _ c _ ir xc xs hir hfr,?_⟩
 have hs:lB N.length ds=ds.map .im++List.replicate (N.length-ds.length) .un:=rfl
 rcases hcase with ⟨d,hd,q⟩|⟨e,C,he,hT,q⟩
 ·dsimp only at hd
  unfold aN at hd
  rw [← hs] at hd
  split at hd
  ·rename_i d' ho
   cases hd
   exact ⟨_,_,S,ho,nM dom rl,fun v H' sm r fr'=>q v H' sm r fr'⟩
  ·rename_i ρ' ho
   cases hd
   exact ⟨_,_,S,ho,nM dom rl,fun S' σ' H' si mv=>q .non H' si.same (by unfold Rep; rfl) fun _ ds' z=>by cases z⟩
  ·cases hd
  ·cases hd
 ·dsimp only at he
  unfold aN at he
  rw [← hs] at he
  split at he
  ·cases he
  ·cases he
  ·rename_i k ho
   cases he
   exact ⟨_,_,S,ho,nM dom rl,fun H' sm=>⟨C,hT,q H' sm⟩⟩
  ·cases he
end Z
namespace Z
open PySem PySem.Spec PyProof.Rows L2
structure Nm where
 fns:List Str
 cls:List Str
 csts:List Str
 fresh:List Str
noncomputable def Nm.cc (m:Nm) (N:List Str) (sc:Scope) (mus:List Str):CC:=⟨N,sc,m.fns,m.cls,m.csts,mus,m.fresh⟩
def MOk (P:Program) (w:World) (K:PySem.W.Frag) (mg:Str→Option Value) (base:Heap) (CX:CXT) (m:Nm) (G:GS) (T:Tx) (lv:Nat):Prop:=
 ∀ (X:Cx) (c:CC),X.prog=P→X.w=w→X.K=K→X.mg=mg→X.base=base→c.fns=m.fns→c.cls=m.cls→c.csts=m.csts→c.fresh=m.fresh→GOK CX X c G T lv
noncomputable def Nm.addF (m:Nm) (x:Str) (fr:Bool):Nm:={ m with fns:=x::m.fns,fresh:=if fr then x::m.fresh else m.fresh }
noncomputable def GS.addF (G:GS) (x:Str) (g:List D→Option Rs) (fr:Bool):GS:={ G with fn:=fun y=>if y=x then g else G.fn y,ff:=fun y=>if y=x then fr else G.ff y,mf:=fun cn y=>if y=x then fr else G.mf cn y }
section
variable {P:Program}{w:World}{K:PySem.W.Frag}{mg:Str→Option Value}{base:Heap}{CX:CXT}{m:Nm}{G:GS}{T:Tx}{lv:Nat}
theorem contains_cons {x y:Str} {l:List Str}:(x::l).contains y=true→y=x∨l.contains y=true:=fun h=>by
 rw [List.contains_cons,Bool.or_eq_true,beq_iff_eq] at h
 exact h
theorem MOk.addF (h:MOk P w K mg base CX m G T lv) {x:Str} {f:Addr} {fd:FuncData} {ps:List Str} {g:List D→Option Rs} {fr:Bool} (hn:m.fns.contains x=false) (hme:∀ cn ds,G.me cn x ds=none) (hnf:m.fresh.contains x=false)
  (hm:mg x=some (.ref f)) (hk:PySem.W.keepIn K (.ref f)=true) (hb:Binds K fd ps []) (hl:∀ ds r,g ds=some r→ds.length=ps.length) (F:FnOk P w K mg base CX (lv+1) f fd ps (spD K T ps.length g fr)) :
  MOk P w K mg base CX (m.addF x fr) (G.addF x g fr) T (lv+1):=by
 intro X c e1 e2 e3 e4 e5 e6 e7 e8 e9
 subst e1 e2 e3 e4 e5
 have o:=h X { c with fns:=m.fns,fresh:=m.fresh } rfl rfl rfl rfl rfl rfl e7 e8 rfl
 refine ⟨fun y hy=>?_,fun cn C mm ds r hT hr=>?_,o.cls,o.fld,fun y hy ds d hd=>?_,fun y d hd hc=>o.cst y d hd hc,fun y hy h1 h2=>?_,o.xcl,fun y hy=>?_,o.cx0,o.cxf,o.xns,o.xk,o.sub,fun f k x C h1 h2=>let ⟨a,b,c,j,d,e⟩:=o.wd f k x C h1 h2; ⟨a,b,c,j,Nat.le_succ_of_le d,e⟩⟩
 ·rw [e6] at hy
  by_cases e:y=x
  ·subst e
   refine ⟨f,fd,ps,hm,hk,hb,?_,?_⟩
   ·intro ds r hr
    simp only [GS.addF,if_true] at hr
    exact hl ds r hr
   ·simp only [GS.addF,if_true]
    exact F
  ·rcases contains_cons hy with z|z
   ·exact absurd z e
   ·obtain ⟨f',fd',ps',a1,a2,a3,a4,a5⟩:=o.fn y z
    refine ⟨f',fd',ps',a1,a2,a3,?_,?_⟩
    ·intro ds r hr
     simp only [GS.addF,if_neg e] at hr
     exact a4 ds r hr
    ·simp only [GS.addF,if_neg e]
     exact a5.mono (Nat.le_succ _)
 ·have hne:mm≠x:=by
   rintro rfl
   have:G.me cn mm ds=some r:=hr
   rw [hme] at this; cases this
  obtain ⟨f',fd',ps',a1,a2,a3,a4⟩:=o.me cn C mm ds r hT hr
  refine ⟨f',fd',ps',a1,a2,a3,?_⟩
  simp only [GS.addF,if_neg hne]
  exact a4.mono (Nat.le_succ _)
 ·obtain ⟨C,f',fd',ps',j,a1,a2⟩:=o.mo y hy ds d hd
  exact ⟨C,f',fd',ps',j,Nat.le_succ_of_le a1,a2⟩
 ·refine o.bi y hy ?_ h2
  rw [e6] at h1
  rw [Nm.addF,List.contains_cons,Bool.or_eq_false_iff] at h1
  exact h1.2
 ·rw [e9] at hy
  by_cases e:y=x
  ·subst e
   cases hfr:fr with
   | true=>exact ⟨by simp [GS.addF],fun cn=>by simp [GS.addF]⟩
   | false =>
    exfalso
    rw [hfr] at hy
    have:m.fresh.contains y=true:=hy
    rw [hnf] at this; cases this
  ·have:m.fresh.contains y=true:=by
    unfold Nm.addF at hy
    simp only at hy
    split at hy
    ·rcases contains_cons hy with z|z
     ·exact absurd z e
     ·exact z
    ·exact hy
   obtain ⟨b1,b2⟩:=o.frs y this
   exact ⟨by simp only [GS.addF,if_neg e]; exact b1,fun cn=>by simp only [GS.addF,if_neg e]; exact b2 cn⟩
noncomputable def Nm.addM (m:Nm) (x:Str) (fr:Bool):Nm:={ m with fresh:=if fr then x::m.fresh else m.fresh }
noncomputable def GS.addM (G:GS) (cn x:Str) (g:List D→Option Rs) (fr:Bool):GS:={ G with me:=fun c y=>if c=cn∧y=x then g else G.me c y,ff:=fun y=>if y=x then fr else G.ff y,mf:=fun c y=>if y=x then fr else G.mf c y }
theorem MOk.addM (h:MOk P w K mg base CX m G T lv) {cn x:Str} {C:Addr} {f:Addr} {fd:FuncData} {ps:List Str} {g:List D→Option Rs} {fr:Bool} (hn:m.fns.contains x=false) (hme:∀ cn ds,G.me cn x ds=none) (hnf:m.fresh.contains x=false)
  (hT:T.cl cn=some C) (hm:Meth K C x f) (hb:Binds K fd ps []) (hl:∀ ds r,g ds=some r→ds.length=ps.length) (F:FnOk P w K mg base CX (lv+1) f fd ps (spD K T ps.length g fr)) :
  MOk P w K mg base CX (m.addM x fr) (G.addM cn x g fr) T (lv+1):=by
 intro X c e1 e2 e3 e4 e5 e6 e7 e8 e9
 subst e1 e2 e3 e4 e5
 have o:=h X { c with fresh:=m.fresh } rfl rfl rfl rfl rfl e6 e7 e8 rfl
 have nfn:∀ y,c.fns.contains y=true→y≠x:=fun y hy z=>by
  subst z
  rw [e6] at hy
  have hy':m.fns.contains y=true:=hy
  rw [hn] at hy'; cases hy'
 refine ⟨fun y hy=>?_,fun cn' C' mm ds r hT' hr=>?_,o.cls,o.fld,fun y hy ds d hd=>?_,fun y d hd hc=>o.cst y d hd hc,fun y hy h1 h2=>o.bi y hy h1 h2,o.xcl,fun y hy=>?_,o.cx0,o.cxf,o.xns,o.xk,o.sub,fun f k x C h1 h2=>let ⟨a,b,c,j,d,e⟩:=o.wd f k x C h1 h2; ⟨a,b,c,j,Nat.le_succ_of_le d,e⟩⟩
 ·have e:=nfn y hy
  obtain ⟨f',fd',ps',a1,a2,a3,a4,a5⟩:=o.fn y hy
  refine ⟨f',fd',ps',a1,a2,a3,a4,?_⟩
  simp only [GS.addM,if_neg e]
  exact a5.mono (Nat.le_succ _)
 ·by_cases e:mm=x
  ·subst e
   have ec:cn'=cn:=by
    by_cases e:cn'=cn
    ·exact e
    ·simp only [GS.addM,e,false_and,if_false] at hr
     rw [hme] at hr; cases hr
   subst ec
   rw [hT] at hT'
   cases hT'
   refine ⟨f,fd,ps,hm,hb,?_,?_⟩
   ·intro ds r hr
    simp only [GS.addM,and_self,if_true] at hr
    exact hl ds r hr
   ·simp only [GS.addM,and_self,if_true]
    exact F
  ·simp only [GS.addM,e,and_false,if_false] at hr
   obtain ⟨f',fd',ps',a1,a2,a3,a4⟩:=o.me cn' C' mm ds r hT' hr
   refine ⟨f',fd',ps',a1,a2,?_,?_⟩
   ·intro ds r hr
    simp only [GS.addM,e,and_false,if_false] at hr
    exact a3 ds r hr
   ·simp only [GS.addM,e,and_false,if_false]
    exact a4.mono (Nat.le_succ _)
 ·obtain ⟨C,f',fd',ps',j,a1,a2⟩:=o.mo y hy ds d hd
  exact ⟨C,f',fd',ps',j,Nat.le_succ_of_le a1,a2⟩
 ·rw [e9] at hy
  by_cases e:y=x
  ·subst e
   cases hfr:fr with
   | true=>exact ⟨by simp [GS.addM],fun cn=>by simp [GS.addM]⟩
   | false =>
    exfalso
    rw [hfr] at hy
    have:m.fresh.contains y=true:=hy
    rw [hnf] at this; cases this
  ·have:m.fresh.contains y=true:=by
    unfold Nm.addM at hy
    simp only at hy
    split at hy
    ·rcases contains_cons hy with z|z
     ·exact absurd z e
     ·exact z
    ·exact hy
   obtain ⟨b1,b2⟩:=o.frs y this
   exact ⟨by simp only [GS.addM,if_neg e]; exact b1,fun cn=>by simp only [GS.addM,if_neg e]; exact b2 cn⟩
theorem IV {n:Nat} {o:Option Rs} {r:Rs} {ds:List D} (h:(if ds.length=n then o else none)=some r):ds.length=n:=by
 by_cases e:ds.length=n
 ·exact e
 ·rw [if_neg e] at h; cases h
theorem MOk.defF (h:MOk P w K mg base (gG P w) m G T lv) {x:Str} {st:Stmt} {f:Addr} {fd:FuncData} {N ps mus:List Str} {n:Nat} {ir:IS} {fr:Bool} (hn:m.fns.contains x=false) (hme:∀ cn ds,G.me cn x ds=none) (hnf:m.fresh.contains x=false) (hm:mg x=some (.ref f)) (hb:Binds K fd ps [])
  (F:Fun K x x st f fd) (fs:FnScope N ps (aC st)) (hk:mH (m.cc N (aC st) mus) (aC st)=true) (hir:cSs n (m.cc N (aC st) mus) (bN st)=some ir) (hfr:fr=true→iD ir=true) :
  MOk P w K mg base (gG P w) (m.addF x fr) (G.addF x (fun ds=>if ds.length=ps.length then aN G N.length ir ds else none) fr) T (lv+1):=by
 refine h.addF hn hme hnf hm F.kp hb (fun ds r hr=>IV hr) ?_
 have G1:=aAw (P:=P) (w:=w) (mg:=mg) (base:=base) (T:=T) (lv:=lv) F fs (c:=m.cc N (aC st) mus) rfl rfl hk hir hfr (fun X a1 a2 a3 a4 a5=>h X _ a1 a2 a3 a4 a5 rfl rfl rfl rfl)
 refine ⟨fun vs H Q E h=>h.1,fun A outer s H args us vs Q E hr e0 hbt hv hsp=>G1.run A outer s H args us vs Q E hr e0 hbt hv ?_⟩
 obtain ⟨h1,S,ds,dom,rl,hc⟩:=hsp
 refine ⟨h1,S,ds,dom,rl,?_⟩
 have el:ds.length=ps.length:=by rw [rl.len]; exact h1
 dsimp only at hc
 rw [if_pos el] at hc
 exact hc
theorem MOk.defM (h:MOk P w K mg base (gG P w) m G T lv) {cn x qual:Str} {C:Addr} {st:Stmt} {f:Addr} {fd:FuncData} {N ps mus:List Str} {n:Nat} {ir:IS} {fr:Bool} (hn:m.fns.contains x=false) (hme:∀ cn ds,G.me cn x ds=none) (hnf:m.fresh.contains x=false) (hT:T.cl cn=some C) (hm:Meth K C x f) (hb:Binds K fd ps [])
  (F:Fun K x qual st f fd) (fs:FnScope N ps (aC st)) (hk:mH (m.cc N (aC st) mus) (aC st)=true) (hir:cSs n (m.cc N (aC st) mus) (bN st)=some ir) (hfr:fr=true→iD ir=true) :
  MOk P w K mg base (gG P w) (m.addM x fr) (G.addM cn x (fun ds=>if ds.length=ps.length then aN G N.length ir ds else none) fr) T (lv+1):=by
 refine h.addM hn hme hnf hT hm hb (fun ds r hr=>IV hr) ?_
 have G1:=aAw (P:=P) (w:=w) (mg:=mg) (base:=base) (T:=T) (lv:=lv) F fs (c:=m.cc N (aC st) mus) rfl rfl hk hir hfr (fun X a1 a2 a3 a4 a5=>h X _ a1 a2 a3 a4 a5 rfl rfl rfl rfl)
 refine ⟨fun vs H Q E h=>h.1,fun A outer s H args us vs Q E hr e0 hbt hv hsp=>G1.run A outer s H args us vs Q E hr e0 hbt hv ?_⟩
 obtain ⟨h1,S,ds,dom,rl,hc⟩:=hsp
 refine ⟨h1,S,ds,dom,rl,?_⟩
 have el:ds.length=ps.length:=by rw [rl.len]; exact h1
 dsimp only at hc
 rw [if_pos el] at hc
 exact hc
end
end Z
namespace Z
open PySem PySem.Spec PyProof.Rows L2
variable {CX:CXT}{G:GS}{T:Tx}{lv:Nat}{X:Cx}{c:CC}
noncomputable def aHb:Stmt→Option (List Expr × Expr × Pos)
 | .Assign ts e p=>some (ts,e,p)
 | _=>none
theorem FW {s:Stmt} {x:List Expr × Expr × Pos} (h:aHb s=some x):s=.Assign x.1 x.2.1 x.2.2:=by
 cases s<;>first|exact nomatch (show none=some x from h)|(cases (show some _=some x from h); rfl)
noncomputable def qN (n:Nat) (c:CC):List Stmt→Option (List (Str × IE))
 | []=>some []
 | st::r=>(aHb st).bind fun q=>(one? q.1).bind fun t=>(LG t).bind fun a=>(nameP a.1).bind fun s=>if bT c s.1 == some 0 then (cE n c q.2.1).bind fun y=>(qN n c r).map fun z=>(a.2.1,y)::z else none
noncomputable def evI (G:GS) (ρ:List Sl):List (Str × IE)→Option (List (Str × D))
 | []=>some []
 | (f,e)::r=>do some ((f,← ev G e ρ)::(← evI G ρ r))
noncomputable def DY (G:GS) (cn:Str) (n:Nat) (fs:List (Str × IE)) (ds:List D):Option Rs:=
 (evI G (.un::(ds.map .im++List.replicate (n-1-ds.length) .un)) fs).map fun gs=>.ok (.obj cn gs)
theorem vD {f:Str} {v:V}:∀ {gs:List (Str × V)},f ∉ gs.map (·.1)→iB f v gs=gs++[(f,v)]
 | [],_=>rfl
 | (g,x)::r,h=>by
  simp only [List.map_cons,List.mem_cons,not_or] at h
  unfold iB
  rw [if_neg (Ne.symm h.1),vD h.2]
  rfl
theorem bX.names {K:PySem.W.Frag} {H:Hp} {S:Addr→Prop}:∀ {fs:List (Str × D)} {gs:List (Str × V)},bX K T H S fs gs→gs.map (·.1)=fs.map (·.1)
 | [],gs,h=>by unfold bX at h; subst h; rfl
 | (f,d)::fs,gs,h=>by
  unfold bX at h
  obtain ⟨x,r,rfl,_,q⟩:=h
  simp [bX.names q]
theorem bX.app1 {K:PySem.W.Frag} {H:Hp} {S:Addr→Prop} {f:Str} {d:D} {v:V} (rv:Rep K T H S d v):∀ {fs:List (Str × D)} {gs:List (Str × V)},bX K T H S fs gs→bX K T H S (fs++[(f,d)]) (gs++[(f,v)])
 | [],gs,h=>by
  unfold bX at h; subst h
  show bX K T H S [(f,d)] [(f,v)]
  unfold bX
  exact ⟨v,[],rfl,rv,by unfold bX; rfl⟩
 | (g,e)::fs,gs,h=>by
  unfold bX at h
  obtain ⟨x,r,rfl,p,q⟩:=h
  show bX K T H S ((g,e)::(fs++[(f,d)])) _
  unfold bX
  exact ⟨x,r++[(f,v)],rfl,p,bX.app1 rv q⟩
structure IInv (K:PySem.W.Frag) (T:Tx) (S:Addr→Prop) (H₀:Hp) (C p dx:Addr) (ρ:List Sl) (fs:List (Str × D)) (σ:L2.St) (H:Hp):Prop where
 re:RE K T H S ρ σ
 sp:S p
 self:σ[0]?=some (some (.ref p))
 at_:∃ gs,H p=some (.ins C dx gs)∧bX K T H S fs gs
 keep:∀ b o,b≠p→H₀ b=some o→H b=some o
theorem qD (xc:XC CX X c G T lv) {S:Addr→Prop} {H₀:Hp} {C p dx:Addr} {ρ:List Sl} {n:Nat} (hc:Cls X.K C):∀ {body:List Stmt} {is:List (Str × IE)} {gs fs:List (Str × D)},qN n c body=some is→evI G ρ is=some gs→(∀ x ∈ is,dZ X.K C x.1)→((fs++gs).map (·.1)).Nodup→(fs++gs).length<1000 →
  PSs X body (fun D σ H=>IInv X.K T S H₀ C p dx ρ fs σ H∧∀ σ' H',IInv X.K T S H₀ C p dx ρ (fs++gs) σ' H'→D.nx σ' H')
 | [],is,gs,fs,h1,h2,_,_,_=>by
  simp only [qN,Option.some.injEq] at h1
  subst h1
  simp only [evI,Option.some.injEq] at h2
  subst h2
  exact fun pins s σ H D I ⟨iv,q⟩=>rV pins s σ H D I (q σ H (by rw [List.append_nil]; exact iv))
 | st::body,is,gs,fs,h1,h2,hna,hnd,hlen=>by
  obtain ⟨q0,a1,h1⟩:=aF h1
  obtain ⟨t0,a2,h1⟩:=aF h1
  obtain ⟨a0,a3,h1⟩:=aF h1
  obtain ⟨s0,a4,h1⟩:=aF h1
  obtain ⟨hs,h1⟩:=bK h1
  obtain ⟨ir,hir,h1⟩:=aF h1
  obtain ⟨is',his,rfl⟩:=aQ h1
  have e0:st=.Assign [.Attribute (.Name s0.1 s0.2) a0.2.1 a0.2.2] q0.2.1 q0.2.2:=by rw [FW a1,bQ a2,oY a3,cM a4]
  subst e0
  obtain ⟨_,e,pe⟩:=q0
  obtain ⟨_,f,pf⟩:=a0
  obtain ⟨s,ps⟩:=s0
  clear a1 a2 a3 a4
  simp only [evI,Option.bind_eq_bind,Option.bind_eq_some_iff,Option.some.injEq] at h2
  obtain ⟨d,hd,gs',hgs,rfl⟩:=h2
  have hs':bT c s=some 0:=beq_iff_eq.mp hs
  have ih:=qD xc (S:=S) (H₀:=H₀) (p:=p) (dx:=dx) hc (fs:=fs++[(f,d)]) his hgs (fun x hx=>hna x (List.mem_cons_of_mem _ hx)) (by simpa using hnd) (by simpa using hlen)
  intro pins s1 σ H DD I ⟨iv,q⟩
  refine iH (YQ (kM xc hs') ((eE n).1 X c S ρ e ir xc hir d hd).1 ?_) ih pins s1 σ H DD I ⟨iv.re,fun v H' sm r=>⟨.ref p,iv.self,?_⟩⟩
  ·cases e<;>rfl
  ·obtain ⟨ys,hy,rf⟩:=iv.at_
   have hfn:f ∉ ys.map (·.1):=by
    rw [rf.names]
    have:=hnd
    simp only [List.map_append,List.map_cons] at this
    rw [List.nodup_append] at this
    intro z
    exact this.2.2 f z f (by simp) rfl
   have hl:ys.length<1000:=by
    have e1:=congrArg List.length rf.names
    simp only [List.length_map] at e1
    rw [e1]
    simp only [List.length_append,List.length_cons] at hlen
    omega
   refine ⟨p,C,dx,ys,rfl,sm _ _ hy,hc,hna (f,ir) (by simp),hl,?_⟩
   rw [vD hfn]
   have mv:aO X.K H' (upd H' p (.ins C dx (ys++[(f,v)]))) S S:=fun a na _=>⟨na,fun o e=>by rw [aM (fun z=>na (by rw [z]; exact iv.sp))]; exact e⟩
   have rf':bX X.K T H' S fs ys:=bX.gen (aO.same sm) _ _ rf
   refine ⟨⟨?_,iv.sp,iv.self,⟨_,aJ,bX.gen mv _ _ (bX.app1 r rf')⟩,fun b o hb e=>by rw [aM hb]; exact sm _ _ (iv.keep b o hb e)⟩,fun σ' H2 iv2=>q σ' H2 (by simpa using iv2)⟩
   refine (iv.re.same sm).gen mv (fun a xs z e hm=>⟨z,?_⟩) fun a z=>?_
   ·rw [aM]
    ·exact e
    ·rintro rfl
     rw [sm _ _ hy] at e; cases e
     obtain ⟨d',hm⟩:=hm
     rcases hm with ⟨_,_,_,z,_⟩|⟨_,_,_,z,_⟩<;>cases z
   ·by_cases e:a=p
    ·exact ⟨.ins C dx (ys++[(f,v)]),by rw [e]; exact aJ⟩
    ·obtain ⟨o,e2⟩:=(iv.re.same sm).dom a z
     exact ⟨o,by rw [aM e]; exact e2⟩
end Z
namespace Z
open PySem PySem.Spec PyProof.Rows L2
variable {CX:CXT}{G:GS}{T:Tx}{lv:Nat}
theorem qJ {ρ:List Sl}:∀ {is:List (Str × IE)} {gs:List (Str × D)},evI G ρ is=some gs→gs.map (·.1)=is.map (·.1)
 | [],gs,h=>by simp only [evI,Option.some.injEq] at h; subst h; rfl
 | (f,e)::r,gs,h=>by
  simp only [evI,Option.bind_eq_bind,Option.bind_eq_some_iff,Option.some.injEq] at h
  obtain ⟨d,_,gs',h2,rfl⟩:=h
  simp [qJ h2]
theorem xJ {K:PySem.W.Frag} {H:Hp} {S:Addr→Prop} {N:List Str} {ds:List D} {p:Addr} {ws:List V} (dom:∀ a,S a→∃ o,H a=some o) (rl:aD K T H S ds ws) (hN:ws.length+1≤N.length):RE K T H S (.un::(ds.map .im++List.replicate (N.length-1-ds.length) .un)) (L2.start N (.ref p::ws)):=by
 have hl:=rl.len
 refine ⟨dom,by simp [L2.start,hl]; omega,fun i s e=>?_⟩
 cases i with
 | zero=>cases e; trivial
 | succ i =>
  rw [List.getElem?_cons_succ] at e
  unfold L2.start
  rw [List.map_cons,List.cons_append,List.getElem?_cons_succ]
  by_cases h:i<(ds.map Sl.im).length
  ·rw [List.getElem?_append_left h,List.getElem?_map] at e
   cases h2:ds[i]? with
   | none=>rw [h2] at e; cases e
   | some d =>
    rw [h2] at e
    cases e
    obtain ⟨v,h3,r⟩:=rl.get h2
    exact ⟨v,by rw [List.getElem?_append_left (by rw [List.length_map] at h ⊢; omega),List.getElem?_map,h3]; rfl,r⟩
  ·rw [List.getElem?_append_right (by omega),List.getElem?_replicate] at e
   split at e
   ·cases e; trivial
   ·cases e
theorem RG {P:Program} {w:World} {K:PySem.W.Frag} {mg:Str→Option Value} {base:Heap} {x qual cn:Str} {C:Addr} {st:Stmt} {f:Addr} {fd:FuncData} {N ps:List Str} {c:CC} {n:Nat} {is:List (Str × IE)} (F:Fun K x qual st f fd) (fs:FnScope N ps (aC st)) (hN:c.N=N) (hsc:c.sc=aC st) (hk:mH c (aC st)=true)
  (hir:qN n c (bN st)=some is) (hT:T.cl cn=some C) (hcl:Cls K C) (hna:∀ x ∈ is,dZ K C x.1) (hnd:(is.map (·.1)).Nodup) (hlen:is.length<1000)
  (go:∀ (X:Cx),X.prog=P→X.w=w→X.K=K→X.mg=mg→X.base=base→GOK CX X c G T lv):FnOk P w K mg base CX (lv+1) f fd ps (XX K T C ps.length (DY G cn N.length is)):=by
 obtain ⟨oc,od,kV,doc,pm,an,cdv,ct,osl,rfl,lk,hcd⟩:=F.ex
 refine VM lk hcd fs (fun vs H Q E h=>h.1) fun A outer s H vs Q E hr hsp=>?_
 obtain ⟨hl,p,dx,ws,S,ds,d,rfl,hp,sp,dom,rl,hg,q⟩:=hsp
 have xc:=GA (E:=E) (P:=P) (w:=w) (mg:=mg) (base:=base) (outer:=outer) (s:=s) (H:=H) (f:=f) (cd:=cdv) (qual:=qual) hN hsc fs hk hr (go _ rfl rfl rfl rfl rfl)
 unfold DY at hg
 simp only [Option.map_eq_some_iff] at hg
 obtain ⟨gs,hgs,hg⟩:=hg
 cases hg
 have hnm:=qJ hgs
 have hpl:ps.length≤N.length:=by have:=congrArg List.length fs.pre; rw [List.length_take] at this; omega
 refine ⟨_,PSs.nox (qD xc (S:=S) (H₀:=H) (C:=C) (p:=p) (dx:=dx) (fs:=[]) hcl hir hgs hna (by rw [List.nil_append,hnm]; exact hnd) (by rw [List.nil_append]; have:=congrArg List.length hnm; simp only [List.length_map] at this; omega)),?_,?_⟩
 ·exact ⟨xJ dom rl (by simp only [List.length_cons] at hl; omega),sp,rfl,⟨[],hp,by unfold bX; rfl⟩,fun b o _ e=>e⟩
 ·intro σ' H' iv
  obtain ⟨ys,hy,rf⟩:=iv.at_
  refine q H' iv.keep fun S' hS'=>?_
  unfold Rep
  exact ⟨p,C,dx,ys,rfl,fun z=>(hS' p z).2 rfl,hT,hy,bX.gen (aO.mk (fun a z=>(hS' a z).1) fun b o _ e=>e) _ _ rf⟩
def xD (K:PySem.W.Frag) (T:Tx) (mg:Str→Option Value) (x:Str) (d:D):Prop:=∃ u v,mg x=some u∧RelV v u∧∀ (H:Hp) (S:Addr→Prop),(∀ a o,K.lookup a=some o→H a=none)→(∀ a,S a→∃ o,H a=some o)→Rep K T H S d v
theorem SD {K:PySem.W.Frag} {mg:Str→Option Value} {x:Str} {i:Int} {t:Tok} (h:mg x=some (.int i t)):xD K T mg x (.int i):=⟨_,.int i,h,⟨t,rfl⟩,fun H S _ _=>by unfold Rep; rfl⟩
theorem tZ {K:PySem.W.Frag} {mg:Str→Option Value} {x:Str} {a:Addr} {ds:List D} {xs:List V} (h:mg x=some (.ref a)) (hs:∀ H,SqT K H a xs) (hk:∃ o,K.lookup a=some o) (hd:∀ H S,aD K T H S ds xs):xD K T mg x (.tup ds):=⟨_,.ref a,h,rfl,fun H S h1 h2=>by
 unfold Rep
 refine ⟨a,xs,rfl,fun z=>?_,hs H,hd H S⟩
 obtain ⟨o,e⟩:=h2 a z
 obtain ⟨u,e2⟩:=hk
 rw [h1 a u e2] at e; cases e⟩
noncomputable def G0 (csts:List (Str × D)) (fl:Str→List Str) (sub:Str→Str→Bool) (xn:Str→Bool) (wd:Str→Str→Option Str):GS:={ fn:=fun _ _=>none,ff:=fun _=>false,me:=fun _ _ _=>none,mf:=fun _ _=>false,mo:=fun _ _=>none,cst:=fun x=>csts.lookup x,sub:=sub,fl:=fl,xn:=xn,wd:=wd }
theorem aJn {P:Program} {w:World} {K:PySem.W.Frag} {mg:Str→Option Value} {base:Heap} {cls:List Str} {csts:List (Str × D)} {fl:Str→List Str} {sub:Str→Str→Bool} {xn:Str→Bool} {wd:Str→Str→Option Str} (hc:∀ x d,csts.lookup x=some d→xD K T mg x d) (hcl:∀ cn C,T.cl cn=some C→Cls K C) (hfl:∀ cn C f,T.cl cn=some C→(fl cn).contains f=true→dZ K C f)
  (hbi:∀ x,fK.contains x=true→mg x=none) (hx:∀ x C,T.xc x=some C→mg x=some (.ref C)) (hxn:∀ k,xn k=true→∃ C,T.xc k=some C) (hxk:∀ k C,T.xc k=some C→PySem.W.excIn K C bmV "ValueError.__new__" = true)
  (mP:∀ k k' C C',T.xc k=some C→T.xc k'=some C'→sub k k'=true→eF K C (.ref C')=true)
  (hwd:∀ f k x C,T.xc k=some C→wd f k=some x→∃ fa fd ps j,j≤lv∧mg f=some (.ref fa)∧PySem.W.keepIn K (.ref fa)=true∧Binds K fd ps []∧FnM P w K mg base j fa fd ps (spW C x)):MOk P w K mg base (gG P w) ⟨[],cls,csts.map (·.1),[]⟩ (G0 csts fl sub xn wd) T lv:=by
 intro X c e1 e2 e3 e4 e5 e6 e7 e8 e9
 subst e1 e2 e3 e4 e5
 refine ⟨fun x hx=>?_,fun cn C m ds r _ hr=>(by cases hr),hcl,hfl,fun x _ ds d hd=>(by cases hd),fun x d hd _=>hc x d hd,fun x hx _ _=>hbi x hx,hx,fun x hx=>?_,VN,fun _ _ _ _ _ _ z=>z,hxn,hxk,mP,hwd⟩
 ·rw [e6] at hx; simp at hx
 ·rw [e9] at hx; simp at hx
noncomputable def GS.addC (G:GS) (x:Str) (g:List D→Option Rs):GS:={ G with mo:=fun y=>if y=x then g else G.mo y }
theorem MOk.addC {P:Program} {w:World} {K:PySem.W.Frag} {mg:Str→Option Value} {base:Heap} {m:Nm} (h:MOk P w K mg base CX m G T lv) {x:Str} {C f:Addr} {fd:FuncData} {ps:List Str} {g:List D→Option Rs} (hm:mg x=some (.ref C)) (M:Mk K C f) (hb:Binds K fd ps []) (hl:∀ ds d,g ds=some (.ok d)→ds.length+1=ps.length)
  (F:FnOk P w K mg base CX lv f fd ps (XX K T C ps.length g)):MOk P w K mg base CX m (G.addC x g) T (lv+1):=by
 intro X c e1 e2 e3 e4 e5 e6 e7 e8 e9
 subst e1 e2 e3 e4 e5
 have o:=h X c rfl rfl rfl rfl rfl e6 e7 e8 e9
 refine ⟨fun y hy=>?_,fun cn C mm ds r hT hr=>?_,o.cls,o.fld,fun y hy ds d hd=>?_,fun y d hd hc=>o.cst y d hd hc,fun y hy h1 h2=>o.bi y hy h1 h2,o.xcl,o.frs,o.cx0,o.cxf,o.xns,o.xk,o.sub,fun f k x C h1 h2=>let ⟨a,b,c,j,d,e⟩:=o.wd f k x C h1 h2; ⟨a,b,c,j,Nat.le_succ_of_le d,e⟩⟩
 ·obtain ⟨f',fd',ps',a1,a2,a3,a4,a5⟩:=o.fn y hy
  exact ⟨f',fd',ps',a1,a2,a3,a4,a5.mono (Nat.le_succ _)⟩
 ·obtain ⟨f',fd',ps',a1,a2,a3,a4⟩:=o.me cn C mm ds r hT hr
  exact ⟨f',fd',ps',a1,a2,a3,a4.mono (Nat.le_succ _)⟩
 ·by_cases e:y=x
  ·subst e
   simp only [GS.addC,if_true] at hd ⊢
   exact ⟨C,f,fd,ps,lv,Nat.le_refl _,hm,M,hb,hl ds d hd,F⟩
  ·simp only [GS.addC,if_neg e] at hd ⊢
   obtain ⟨C',f',fd',ps',j,a1,a2⟩:=o.mo y hy ds d hd
   exact ⟨C',f',fd',ps',j,Nat.le_succ_of_le a1,a2⟩
theorem MOk.defC {P:Program} {w:World} {K:PySem.W.Frag} {mg:Str→Option Value} {base:Heap} {m:Nm} (h:MOk P w K mg base CX m G T lv) {x qual:Str} {C f:Addr} {st:Stmt} {fd:FuncData} {N ps mus:List Str} {n:Nat} {is:List (Str × IE)} (hm:mg x=some (.ref C)) (M:Mk K C f) (hb:Binds K fd ps [])
  (F:Fun K "__init__" qual st f fd) (fs:FnScope N ps (aC st)) (hk:mH (m.cc N (aC st) mus) (aC st)=true) (hir:qN n (m.cc N (aC st) mus) (bN st)=some is) (hT:T.cl x=some C) (hcl:Cls K C) (hna:∀ x ∈ is,dZ K C x.1) (hnd:(is.map (·.1)).Nodup) (hlen:is.length<1000) :
  MOk P w K mg base CX m (G.addC x fun ds=>if ds.length+1=ps.length then DY G x N.length is ds else none) T (lv+2):=by
 have G1:=RG (CX:=CX) (P:=P) (w:=w) (mg:=mg) (base:=base) (T:=T) (lv:=lv) F fs (c:=m.cc N (aC st) mus) rfl rfl hk hir hT hcl hna hnd hlen (fun X a1 a2 a3 a4 a5=>h X _ a1 a2 a3 a4 a5 rfl rfl rfl rfl)
 have h':MOk P w K mg base CX m G T (lv+1):=by
  intro X c e1 e2 e3 e4 e5 e6 e7 e8 e9
  subst e1 e2 e3 e4 e5
  have o:=h X c rfl rfl rfl rfl rfl e6 e7 e8 e9
  refine ⟨fun y hy=>?_,fun cn C mm ds r hT hr=>?_,o.cls,o.fld,fun y hy ds d hd=>?_,fun y d hd hc=>o.cst y d hd hc,fun y hy h1 h2=>o.bi y hy h1 h2,o.xcl,o.frs,o.cx0,o.cxf,o.xns,o.xk,o.sub,fun f k x C h1 h2=>let ⟨a,b,c,j,d,e⟩:=o.wd f k x C h1 h2; ⟨a,b,c,j,Nat.le_succ_of_le d,e⟩⟩
  ·obtain ⟨f',fd',ps',a1,a2,a3,a4,a5⟩:=o.fn y hy
   exact ⟨f',fd',ps',a1,a2,a3,a4,a5.mono (Nat.le_succ _)⟩
  ·obtain ⟨f',fd',ps',a1,a2,a3,a4⟩:=o.me cn C mm ds r hT hr
   exact ⟨f',fd',ps',a1,a2,a3,a4.mono (Nat.le_succ _)⟩
  ·obtain ⟨C',f',fd',ps',j,a1,a2⟩:=o.mo y hy ds d hd
   exact ⟨C',f',fd',ps',j,Nat.le_succ_of_le a1,a2⟩
 refine h'.addC hm M hb (fun ds d hd=>?_) ?_
 ·by_cases e:ds.length+1=ps.length
  ·exact e
  ·rw [if_neg e] at hd; cases hd
 ·refine ⟨fun vs H Q E h=>h.1,fun A outer s H args us vs Q E hr e0 hbt hv hsp=>G1.run A outer s H args us vs Q E hr e0 hbt hv ?_⟩
  obtain ⟨h1,p,dx,ws,S,ds,d,e1,h2,h3,h4,h5,h6,h7⟩:=hsp
  refine ⟨h1,p,dx,ws,S,ds,d,e1,h2,h3,h4,h5,?_,h7⟩
  have el:ds.length+1=ps.length:=by
   by_cases e:ds.length+1=ps.length
   ·exact e
   ·dsimp only at h6
    rw [if_neg e] at h6; cases h6
  dsimp only at h6
  rw [if_pos el] at h6
  exact h6
end Z
namespace Z
open PySem PySem.Spec PyProof.Rows L2
section
variable {X:Cx}
theorem rF:∀ {bs:List Bool} {its:List Value},aS (bs.map V.bl) its→its=bs.map Value.bool
 | [],its,h=>by cases h; rfl
 | b::bs,its,h=>by
  cases h with
  | cons h1 h2 =>
   obtain rfl:=h1
   rw [rF h2]
   rfl
noncomputable def eqT:Value→Bool
 | .bool a=>a == true
 | _=>false
theorem aGq:∀ bs:List Bool,(bs.map Value.bool).countP eqT=bs.count true
 | []=>rfl
 | b::bs=>by
  rw [List.map_cons,List.countP_cons,List.count_cons,aGq bs]
  cases b<;>rfl
noncomputable def aDG:V→List V→Hp→VK→Prop:=fun x vs H Q=>∃ (l:Addr) (bs:List Bool),x=.ref l∧vs=[.bl true]∧H l=some (.lst (bs.map V.bl))∧Q (.int (bs.count true)) H
theorem aAc:MtM X "list.count" aDG:=by
 intro pins s σ H x vs v us Q I rx rv h
 obtain ⟨l,bs,rfl,rfl,hH,q⟩:=h
 cases rx
 obtain ⟨u,rfl,ru⟩:=rv.one
 obtain rfl:u=.bool true:=ru
 obtain ⟨z,its,n,r,hl,e⟩:=I.lstM hH
 have hi:=rF r
 subst hi
 refine call_meets PySem.F.slot_list_count ⟨_,e,rfl⟩ PySem.F.entry_list_count (PySem.F.args_list_count_2 _ _) (SeqAt.list_countAt l (bs.map Value.bool).toArray n none #[] (.bool true) eqT) ⟨e,fun y hy=>?_,?_⟩
 ·have hy':y ∈ bs.map Value.bool:=by simpa using hy
  obtain ⟨b,_,rfl⟩:=List.mem_map.mp hy'
  exact SeqAt.EqAt.bool_bool b true
 ·refine ⟨.int (bs.count true),H,I.tok _,⟨s.toks,?_⟩,q⟩
  rw [← aGq bs]
noncomputable def aDF:V→List V→Hp→VK→Prop:=fun x vs H Q=>∃ (l:Addr) (bs:List Bool) (j:Nat),x=.ref l∧vs=[.bl true]∧H l=some (.lst (bs.map V.bl))∧bs[j]?=some true∧(∀ m,m<j→bs[m]?=some false)∧j<1000∧Q (.int (j:Nat)) H
theorem aAb:MtM X "list.index" aDF:=by
 intro pins s σ H x vs v us Q I rx rv h
 obtain ⟨l,bs,j,rfl,rfl,hH,hj,hno,hs,q⟩:=h
 cases rx
 obtain ⟨u,rfl,ru⟩:=rv.one
 obtain rfl:u=.bool true:=ru
 obtain ⟨z,its,n,r,hl,e⟩:=I.lstM hH
 have hi:=rF r
 subst hi
 have hjl:=(List.getElem?_eq_some_iff.mp hj).1
 have hsz:(bs.map Value.bool).toArray.size=bs.length:=by simp
 have at_:∀ (m:Nat) (hm:m<(bs.map Value.bool).toArray.size) (b:Bool),bs[m]?=some b→(bs.map Value.bool).toArray[m]=.bool b:=fun m hm b e=>by
  have hm':m<bs.length:=by rw [hsz] at hm; exact hm
  have e':bs[m]=b:=by rw [List.getElem?_eq_getElem hm'] at e; exact Option.some.inj e
  simp [e']
 refine call_meets PySem.F.slot_list_index ⟨_,e,rfl⟩ PySem.F.entry_list_index (PySem.F.args_list_index_2 _ _) (SeqAt.list_indexAt l (bs.map Value.bool).toArray n none #[] (.bool true) eqT j (by rw [hsz]; exact hjl) (by omega) ?_ fun m hm hmj=>?_) ⟨e,fun y hy=>?_,?_⟩
 ·rw [at_ j _ true hj]; rfl
 ·rw [at_ m hm false (hno m hmj)]; rfl
 ·have hy':y ∈ bs.map Value.bool:=by simpa using hy
  obtain ⟨b,_,rfl⟩:=List.mem_map.mp hy'
  exact SeqAt.EqAt.bool_bool b true
 ·exact ⟨.int (j:Nat),H,I.tok _,⟨_,rfl⟩,q⟩
end
noncomputable def fC (p:Nat→Pos) (k:Nat) (y:Str):Expr:=.Call (.Name "isinstance" (p k)) [.Name "e" (p (k+1)),.Name y (p (k+2))] [] (p (k+3))
noncomputable def nE (p:Nat→Pos):List Stmt:=[
 .Assign [.Name "kinds" (p 0)] (.List [fC p 1 "NoSheet",fC p 5 "NoFold",fC p 9 "NoPlace",fC p 13 "Ajar"] (p 17)) (p 18),
 .Assign [.Name "kinds" (p 19)] (.BinOp (.Name "kinds" (p 20)) .Add (.List [fC p 21 "Severed",fC p 25 "Bolted",fC p 29 "Loose",fC p 33 "NoWord"] (p 37)) (p 38)) (p 39),
 .If (.BoolOp .Or [.Compare (.Call (.Attribute (.Name "kinds" (p 40)) "count" (p 41)) [.Constant (.bool true) 0 (p 42)] [] (p 43)) [.NotEq] [.Constant (.int 1) 0 (p 44)] (p 45),.UnaryOp .Not (fC p 46 "ValueError") (p 50)] (p 51)) [.Return (some (.Constant (.str "other") 0 (p 52))) (p 53)] [] (p 54),
 .Return (some (.Subscript (.List [.Constant (.str "sheet") 0 (p 55),.Constant (.str "fold") 0 (p 56),.Constant (.str "place") 0 (p 57),.Constant (.str "ajar") 0 (p 58),.Constant (.str "severed") 0 (p 59),.Constant (.str "bolted") 0 (p 60),.Constant (.str "loose") 0 (p 61),.Constant (.str "word") 0 (p 62)] (p 63)) (.Call (.Attribute (.Name "kinds" (p 64)) "index" (p 65)) [.Constant (.bool true) 0 (p 66)] [] (p 67)) (p 68))) (p 69)]
def bF:List Str:=["NoSheet","NoFold","NoPlace","Ajar","Severed","Bolted","Loose","NoWord"]
def rC:List Str:=["sheet","fold","place","ajar","severed","bolted","loose","word"]
section
variable {X:Cx}{p:Nat→Pos}
def XE (K:PySem.W.Frag) (c:Value):TE:=fun σ H Q=>∃ a C b,σ[0]?=some (some (.ref a))∧H a=some (.ext (isExc a C))∧XcK K C∧PySem.W.kitOne K (.ref C) c=some b∧Q (.bl b) H
theorem wX {c:Value} {v:V} (rc:∀ u,RelV v u→u=c):eC X (.builtin "isinstance") (fun xs H Q=>∃ a C b,xs=[.ref a,v]∧H a=some (.ext (isExc a C))∧XcK X.K C∧PySem.W.kitOne X.K (.ref C) c=some b∧Q (.bl b) H):=by
 rintro pins s σ H xs us Q I r ⟨a,C,b,rfl,hx,F,hk,q⟩
 cases r with
 | cons r1 r2 =>
  cases r2 with
  | cons r2 r3 =>
   cases r3
   obtain rfl:=r1
   have ec:=rc _ r2
   subst ec
   obtain ⟨h1,_,_⟩:=I.hok a _ hx
   exact PySem.W.kia_one (JA F) I.kIn h1 hk (fun z=>by cases z) fun tk=>⟨.bl b,H,I.tok tk,rfl,q⟩
theorem qP:bootBuiltins "isinstance" = some (.builtin "isinstance"):=by decide +kernel
theorem aGr:bootBuiltins "ValueError" = some (.type "ValueError"):=by decide +kernel
structure WX (X:Cx) (cs:Str→Addr):Prop where
 N:X.N=(["e","kinds"]:List Str)
 le:X.env.kindOf "e" = some .local
 lk:X.env.kindOf "kinds" = some .local
 gi:Gl X "isinstance"
 gv:Gl X "ValueError"
 gx:∀ y ∈ bF,Gl X y
 mi:X.mg "isinstance" = none
 mv:X.mg "ValueError" = none
 mx:∀ y ∈ bF,X.mg y=some (.ref (cs y))
variable {cs:Str→Addr}
theorem aDM (W:WX X cs) {q:Pos}:PE X (.Name "e" q) (rL 0):=lI (by rw [W.N]; rfl) (.inl W.le) (by decide +kernel) (by decide +kernel)
theorem YX (W:WX X cs) {q:Pos}:PE X (.Name "kinds" q) (rL 1):=lI (by rw [W.N]; rfl) (.inl W.lk) (by decide +kernel) (by decide +kernel)
theorem rW (W:WX X cs) {k:Nat} {y:Str} (hy:y ∈ bF):PE X (fC p k y) (XE X.K (.ref (cs y))):=by
 have hd:(y == ("__debug__":Str))=false:=by
  have:bF.all (fun y=>!(y == ("__debug__":Str)))=true:=by decide +kernel
  have:=List.all_eq_true.mp this y hy
  simpa using this
 refine PE.mono (dM (wX (v:=.ref (cs y)) fun u h=>h) W.gi W.mi qP (bB (aDM W) (bB (PL (v:=.ref (cs y)) (W.gx y hy) (W.mx y hy) rfl hd) eY)) (by decide +kernel) (by decide +kernel) rfl rfl) fun σ H Q hh=>?_
 obtain ⟨a,C,b,h1,h2,h3,h4,q⟩:=hh
 exact ⟨.ref a,h1,a,C,b,rfl,h2,h3,h4,q⟩
theorem YY (W:WX X cs) {k:Nat}:PE X (fC p k "ValueError") (XE X.K (.type "ValueError")):=by
 refine PE.mono (dM (wX (v:=.ty "ValueError") fun u h=>h) W.gi W.mi qP (bB (aDM W) (bB (AD (v:=.ty "ValueError") W.gv W.mv aGr rfl (by decide +kernel) (by decide +kernel)) eY)) (by decide +kernel) (by decide +kernel) rfl rfl) fun σ H Q hh=>?_
 obtain ⟨a,C,b,h1,h2,h3,h4,q⟩:=hh
 exact ⟨.ref a,h1,a,C,b,rfl,h2,h3,h4,q⟩
def GK (K:PySem.W.Frag) (c1 c2 c3 c4:Value):TE:=fun σ H Q=>∃ a C b1 b2 b3 b4,σ[0]?=some (some (.ref a))∧H a=some (.ext (isExc a C))∧XcK K C∧PySem.W.kitOne K (.ref C) c1=some b1∧PySem.W.kitOne K (.ref C) c2=some b2∧PySem.W.kitOne K (.ref C) c3=some b3∧PySem.W.kitOne K (.ref C) c4=some b4∧∀ l,H l=none→Q (.ref l) (upd H l (.lst ([b1,b2,b3,b4].map V.bl)))
theorem AA (W:WX X cs) {k1 k2 k3 k4:Nat} {q:Pos} {y1 y2 y3 y4:Str} (h1:y1 ∈ bF) (h2:y2 ∈ bF) (h3:y3 ∈ bF) (h4:y4 ∈ bF):PE X (.List [fC p k1 y1,fC p k2 y2,fC p k3 y3,fC p k4 y4] q) (GK X.K (.ref (cs y1)) (.ref (cs y2)) (.ref (cs y3)) (.ref (cs y4))):=
 PE.mono (xX (bB (rW W h1) (bB (rW W h2) (bB (rW W h3) (bB (rW W h4) eY))))) fun σ H Q hh=>by
  obtain ⟨a,C,b1,b2,b3,b4,e1,e2,e3,f1,f2,f3,f4,q⟩:=hh
  exact ⟨a,C,b1,e1,e2,e3,f1,a,C,b2,e1,e2,e3,f2,a,C,b3,e1,e2,e3,f3,a,C,b4,e1,e2,e3,f4,by show 4≤sizeLine; rw [sizeLine_eq]; decide,q⟩
theorem lX {i:Nat} {y:Str} (h:bF[i]?=some y):y ∈ bF:=List.mem_of_getElem? h
def aCg (K:PySem.W.Frag) (cs:Str→Addr):TS:=fun D σ H=>∃ a C j w,σ[0]?=some (some (.ref a))∧σ.length=2∧H a=some (.ext (isExc a C))∧XcK K C∧j<8∧(∀ i y,bF[i]?=some y→PySem.W.kitOne K (.ref C) (.ref (cs y))=some (decide (i=j)))∧PySem.W.kitOne K (.ref C) (.type "ValueError")=some true∧rC[j]?=some w∧∀ H',aG H H'→D.rt (.str w) H'
section
variable (p)
abbrev wS1:Stmt:=.Assign [.Name "kinds" (p 0)] (.List [fC p 1 "NoSheet",fC p 5 "NoFold",fC p 9 "NoPlace",fC p 13 "Ajar"] (p 17)) (p 18)
abbrev wS2:Stmt:=.Assign [.Name "kinds" (p 19)] (.BinOp (.Name "kinds" (p 20)) .Add (.List [fC p 21 "Severed",fC p 25 "Bolted",fC p 29 "Loose",fC p 33 "NoWord"] (p 37)) (p 38)) (p 39)
abbrev wC1:Expr:=.Call (.Attribute (.Name "kinds" (p 40)) "count" (p 41)) [.Constant (.bool true) 0 (p 42)] [] (p 43)
abbrev wC2:Expr:=.Call (.Attribute (.Name "kinds" (p 64)) "index" (p 65)) [.Constant (.bool true) 0 (p 66)] [] (p 67)
abbrev wT3:Expr:=.BoolOp .Or [.Compare (wC1 p) [.NotEq] [.Constant (.int 1) 0 (p 44)] (p 45),.UnaryOp .Not (fC p 46 "ValueError") (p 50)] (p 51)
abbrev wL:Expr:=.List [.Constant (.str "sheet") 0 (p 55),.Constant (.str "fold") 0 (p 56),.Constant (.str "place") 0 (p 57),.Constant (.str "ajar") 0 (p 58),.Constant (.str "severed") 0 (p 59),.Constant (.str "bolted") 0 (p 60),.Constant (.str "loose") 0 (p 61),.Constant (.str "word") 0 (p 62)] (p 63)
end
theorem w1 (W:WX X cs):PS X (wS1 p) (NL (GK X.K (.ref (cs "NoSheet")) (.ref (cs "NoFold")) (.ref (cs "NoPlace")) (.ref (cs "Ajar"))) (qE 1)):=
 nP (i:=1) (by rw [W.N]; decide +kernel) (by rw [W.N]; rfl) (.inl W.lk) (AA W (lX (i:=0) rfl) (lX (i:=1) rfl) (lX (i:=2) rfl) (lX (i:=3) rfl)) rfl (.inr W.lk)
theorem w2 (W:WX X cs):PS X (wS2 p) (NL (tOp aDI (rL 1) (GK X.K (.ref (cs "Severed")) (.ref (cs "Bolted")) (.ref (cs "Loose")) (.ref (cs "NoWord")))) (qE 1)):=
 nP (i:=1) (by rw [W.N]; decide +kernel) (by rw [W.N]; rfl) (.inl W.lk) (TK HS (YX W) (AA W (lX (i:=4) rfl) (lX (i:=5) rfl) (lX (i:=6) rfl) (lX (i:=7) rfl))) rfl (.inr W.lk)
theorem w3 (W:WX X cs) (hl1:((p 41).endLine == (p 43).line)=true):PT X (wT3 p) (tOr (GI (tOp rNe (tBM X.K "list" aDG (rL 1) (iE (tC (.bl true)) GJ)) (tC (.int 1)))) (aCk (tB (XE X.K (.type "ValueError"))))):=
 PW.pt (GX (zX aDN (HL PySem.F.plainAttrs_list PySem.F.slot_list_count PySem.F.type_list_count aAc (YX W) (bB AE eY) rfl rfl hl1) HI (IH _)) (GW (HB (YN (YY W)))))
def tWd:TE:=aCl (iE (tC (.str "sheet")) (iE (tC (.str "fold")) (iE (tC (.str "place")) (iE (tC (.str "ajar")) (iE (tC (.str "severed")) (iE (tC (.str "bolted")) (iE (tC (.str "loose")) (iE (tC (.str "word")) GJ))))))))
theorem w4 (W:WX X cs) (hl2:((p 65).endLine == (p 67).line)=true):PS X (.Return (some (.Subscript (wL p) (wC2 p) (p 68))) (p 69)) (aCi (tOp (YD X.K) tWd (tBM X.K "list" aDF (rL 1) (iE (tC (.bl true)) GJ)))):=
 iI (HG AJ (xX (bB fO (bB fO (bB fO (bB fO (bB fO (bB fO (bB fO (bB fO eY))))))))) (HL PySem.F.plainAttrs_list PySem.F.slot_list_index PySem.F.type_list_index aAb (YX W) (bB AE eY) rfl rfl hl2) (fun _ _=>rfl))
end
end Z
namespace Z
open PySem PySem.Spec PyProof.Rows L2
section
variable {X:Cx}{p:Nat→Pos}{cs:Str→Addr}
theorem aJu:∀ j,j<8→[decide (0=j),decide (1=j),decide (2=j),decide (3=j),decide (4=j),decide (5=j),decide (6=j),decide (7=j)].count true=1:=by decide
theorem at8:∀ j,j<8→[decide (0=j),decide (1=j),decide (2=j),decide (3=j),decide (4=j),decide (5=j),decide (6=j),decide (7=j)][j]?=some true:=by decide
theorem no8:∀ j,j<8→∀ m,m<j→[decide (0=j),decide (1=j),decide (2=j),decide (3=j),decide (4=j),decide (5=j),decide (6=j),decide (7=j)][m]?=some false:=by decide
theorem wd8:∀ j:Nat,j<8→∀ w,rC[j]?=some w→L2.atI ([.str "sheet",.str "fold",.str "place",.str "ajar",.str "severed",.str "bolted",.str "loose",.str "word"]:List V) (j:Int)=some (.str w):=by
 intro j hj w hw
 refine SI ?_
 have:j=0∨j=1∨j=2∨j=3∨j=4∨j=5∨j=6∨j=7:=by omega
 rcases this with rfl|rfl|rfl|rfl|rfl|rfl|rfl|rfl<;>(have hw':=Option.some.inj hw; subst hw'; rfl)
theorem NG (W:WX X cs) (hl1:((p 41).endLine == (p 43).line)=true) (hl2:((p 65).endLine == (p 67).line)=true):PSs X (nE p) (aCg X.K cs):=by
 intro pins s σ H D I hw
 refine iH (w1 W) (iH (w2 W) (iH (TH (w3 W hl1) (iZ (iI fO)) rV) (iZ (w4 W hl2)))) pins s σ H D I ?_
 obtain ⟨a,C,j,w,e0,elen,e1,e2,hj,hk,hv,hwj,q⟩:=hw
 refine ⟨a,C,_,_,_,_,e0,e1,e2,hk 0 _ rfl,hk 1 _ rfl,hk 2 _ rfl,hk 3 _ rfl,fun l hl=>?_⟩
 have ne1:a≠l:=fun z=>by rw [z,hl] at e1; cases e1
 refine ⟨.ref l,by rw [List.getElem?_set_self (by omega)],?_⟩
 have a0:(σ.set 1 (some (V.ref l)))[0]?=some (some (.ref a)):=by rw [List.getElem?_set_ne (by decide)]; exact e0
 refine ⟨a,C,_,_,_,_,a0,by rw [aM ne1]; exact e1,e2,hk 4 _ rfl,hk 5 _ rfl,hk 6 _ rfl,hk 7 _ rfl,fun l2 hn2=>?_⟩
 have ne2:l≠l2:=fun z=>by rw [← z,aJ] at hn2; cases hn2
 have s1:aG H (upd H l (.lst ([decide (0=j),decide (1=j),decide (2=j),decide (3=j)].map V.bl))):=aG.upd hl
 have s2:=s1.trans (aG.upd (o:=.lst ([decide (4=j),decide (5=j),decide (6=j),decide (7=j)].map V.bl)) hn2)
 refine ⟨l,l2,_,_,rfl,rfl,by rw [aM ne2]; exact aJ,aJ,?_,fun l3 hl3=>?_⟩
 ·show 4+4≤sizeLine; rw [sizeLine_eq]; decide
 have n2:(((σ.set 1 (some (V.ref l))).set 1 (some (V.ref l3))))[1]?=some (some (.ref l3)):=by rw [List.getElem?_set_self (by rw [List.length_set]; omega)]
 have n0:(((σ.set 1 (some (V.ref l))).set 1 (some (V.ref l3))))[0]?=some (some (.ref a)):=by rw [List.getElem?_set_ne (by decide)]; exact a0
 have s3:=s2.trans (aG.upd (o:=.lst ([decide (0=j),decide (1=j),decide (2=j),decide (3=j),decide (4=j),decide (5=j),decide (6=j),decide (7=j)].map V.bl)) hl3)
 have ha3:=s3 _ _ e1
 refine ⟨.ref l3,n2,.inl ⟨rfl,_,SqL.of aJ⟩,l3,[decide (0=j),decide (1=j),decide (2=j),decide (3=j),decide (4=j),decide (5=j),decide (6=j),decide (7=j)],rfl,rfl,aJ,rfl,⟨_,rfl,?_⟩⟩
 refine aFZ (by rw [aJu j hj]; rfl) ?_
 refine ⟨a,C,true,n0,ha3,e2,hv,true,rfl,?_⟩
 show if false=true then _ else _
 refine pG ?_
 refine ⟨by show 8≤sizeLine; rw [sizeLine_eq]; decide,fun l4 hl4=>?_⟩
 have ne4:l3≠l4:=fun z=>by
  rw [← z] at hl4
  have:(some (HO.lst ([decide (0=j),decide (1=j),decide (2=j),decide (3=j),decide (4=j),decide (5=j),decide (6=j),decide (7=j)].map V.bl)))=none:=aJ.symm.trans hl4
  cases this
 refine ⟨.ref l3,n2,.inl ⟨rfl,_,SqL.of (by rw [aM ne4]; exact aJ)⟩,l3,[decide (0=j),decide (1=j),decide (2=j),decide (3=j),decide (4=j),decide (5=j),decide (6=j),decide (7=j)],j,rfl,rfl,by rw [aM ne4]; exact aJ,at8 j hj,no8 j hj,by omega,l4,_,_,_,rfl,rfl,SqL.of aJ,wd8 j hj w hwj,q _ (s3.trans (aG.upd hl4))⟩
end
end Z
namespace Z
open PySem PySem.Spec PyProof.Rows L2
theorem RF {P:Program} {w:World} {K:PySem.W.Frag} {mg:Str→Option Value} {base:Heap} {x qual:Str} {st:Stmt} {f C:Addr} {fd:FuncData} {p:Nat→Pos} {cs:Str→Addr} {j k:Nat} {wd:Str} (F:Fun K x qual st f fd) (fs:FnScope ["e","kinds"] ["e"] (aC st)) (hb:bN st=nE p)
  (hl1:((p 41).endLine == (p 43).line)=true) (hl2:((p 65).endLine == (p 67).line)=true) (h1:(aC st).names.lookup ("e":Str)=some .local) (h2:(aC st).names.lookup ("kinds":Str)=some .local)
  (h3:∀ y ∈ ("isinstance":Str) :: "ValueError" :: bF,(aC st).names.lookup y=some .globalImplicit) (mi:mg "isinstance" = none) (mv:mg "ValueError" = none) (mx:∀ y ∈ bF,mg y=some (.ref (cs y)))
  (X:XcK K C) (hj:j<8) (hk:∀ (i:Nat) (y:Str),bF[i]?=some y→PySem.W.kitOne K (.ref C) (.ref (cs y))=some (decide (i=j))) (hv:PySem.W.kitOne K (.ref C) (.type "ValueError")=some true) (hw:rC[j]?=some wd):FnM P w K mg base (k+1) f fd ["e"] (spW C wd):=by
 refine aAx F fs (fun vs H Q hsp=>?_) fun cd A outer s H vs Q hr hsp=>⟨_,by rw [hb]; exact NG (cs:=cs) ⟨rfl,h1,h2,h3 _ (by simp),h3 _ (by simp),fun y hy=>h3 y (by simp [hy]),mi,mv,mx⟩ hl1 hl2,?_⟩
 ·obtain ⟨a,rfl,_⟩:=hsp
  rfl
 ·obtain ⟨a,rfl,hx,q⟩:=hsp
  exact ⟨a,C,j,wd,rfl,rfl,hx,X,hj,hk,hv,hw,q⟩
end Z
namespace Toy
open PySem PySem.Spec PyProof.Rows L2 Z
noncomputable def vW:Str→List Str:=fun c=>if c = "Pile" then ["columns","rows","wide","high","table","folds","severed"] else []
noncomputable def csts:List (Str × D):=[("MOST_CELLS",.int 64),("UPRIGHT_SIDES",.tup [.str "west",.str "east"]),("LEVEL_SIDES",.tup [.str "north",.str "south"]),("NEAR_SIDES",.tup [.str "west",.str "north"])]
def xcs:List Str:=(["LeafError","NoFold","Severed"]:List Str)
noncomputable def XG:Str→Str→Bool:=fun k k'=>xcs.contains k&&(k' == "LeafError" || k == k')
noncomputable def wdX:Str→Str→Option Str:=fun f k=>if f = "_law_word_of"∧xcs.contains k=true then (bF.idxOf? k).bind (rC[·]?) else none
noncomputable def m0:Nm:=⟨[],(["Pile","LeafError","NoSheet","NoFold","NoPlace","Ajar","Severed","Bolted","Loose","NoWord"]:List Str),csts.map (·.1),[]⟩
noncomputable def g0:GS:=G0 csts vW XG (fun k=>xcs.contains k) wdX
abbrev Rd (U:List Str) (m:Nm) (N:List Str) (st:Stmt) (i:IS):Prop:=cSs 60 (m.cc N (aC st) U) (bN st)=some i
abbrev Ok (U:List Str) (m:Nm) (N:List Str) (st:Stmt):Prop:=mH (m.cc N (aC st) U) (aC st)=true
theorem sK {N P:List Str} {sc:Scope} (a:sc.kind=.function:=by rfl) (b:sc.isCoroutine=false:=by rfl) (c:sc.isGenerator=false:=by rfl) (d:N.Nodup:=by decide +kernel) (e:N.take P.length=P:=by rfl) (f:∀ x ∈ P,sc.names.lookup x=some .local∨sc.names.lookup x=some .cell:=by decide +kernel) (h:∀ y ∈ sc.names,y.2≠.free:=by decide +kernel):FnScope N P sc:=⟨a,b,c,d,e,f,h⟩
noncomputable def fD (k:Nat) (g:GS) (n:Nat) (i:IS) (ds:List D):Option Rs:=if ds.length=k then aN g n i ds else none
theorem cL {k:Nat} {g:GS} {n:Nat} {i:IS} {ds:List D} (h:ds.length=k):fD k g n i ds=aN g n i ds:=if_pos h
noncomputable def vV:List (Str × IE):=[("columns",.var 1),("rows",.var 2),("wide",.bcall .len (.cons (.ix (.var 3) (.lit (.int 0))) .nil)),("high",.bcall .len (.cons (.var 3) .nil)),("table",.var 3),("folds",.var 4),("severed",.var 5)]
theorem aDE:qN 60 (m0.cc (["self","columns","rows","table","folds","severed"]:List Str) (aC (L2.inClass (top 15) 0)) []) (bN (L2.inClass (top 15) 0))=some vV:=by kernel_rfl
noncomputable def JX (ds:List D):Option Rs:=if ds.length+1=6 then DY g0 "Pile" 6 vV ds else none
noncomputable def g1:GS:=g0.addC "Pile" JX
noncomputable def m1:Nm:=m0
def CW:List Str:=(["self","x","y"]:List Str)
abbrev LK:List Str:=CW
theorem aDc:Rd ([]:List Str) m1 CW (L2.inClass (top 15) 1) Pg.sH:=by kernel_rfl
theorem aCs:FnScope CW LK (aC (L2.inClass (top 15) 1)):=sK
theorem aEd:Ok ([]:List Str) m1 CW (L2.inClass (top 15) 1):=by decide +kernel
noncomputable def oJ:=fD 3 g1 3 Pg.sH
theorem aBH {ds:List D}:ds.length=3→oJ ds=aN g1 3 Pg.sH ds:=cL
noncomputable def g2:GS:=g1.addM "Pile" "heap" oJ true
noncomputable def m2:Nm:=m1.addM "heap" true
def CY:List Str:=(["self"]:List Str)
abbrev LM:List Str:=CY
theorem aDe:Rd ([]:List Str) m2 CY (L2.inClass (top 15) 2) Pg.sI:=by kernel_rfl
theorem aCu:FnScope CY LM (aC (L2.inClass (top 15) 2)):=sK
theorem aEi:Ok ([]:List Str) m2 CY (L2.inClass (top 15) 2):=by decide +kernel
noncomputable def vZ:=fD 1 g2 1 Pg.sI
theorem aBJ {ds:List D}:ds.length=1→vZ ds=aN g2 1 Pg.sI ds:=cL
noncomputable def g3:GS:=g2.addM "Pile" "done" vZ true
noncomputable def m3:Nm:=m2.addM "done" true
def DB:List Str:=(["columns","y"]:List Str)
abbrev LR:List Str:=DB
theorem aDj:Rd ([]:List Str) m3 DB (top 17) Pg.hJ:=by kernel_rfl
theorem aCz:FnScope DB LR (aC (top 17)):=sK
theorem aEw:Ok ([]:List Str) m3 DB (top 17):=by decide +kernel
noncomputable def BK:=fD 2 g3 2 Pg.hJ
theorem aBN {ds:List D}:ds.length=2→BK ds=aN g3 2 Pg.hJ ds:=cL
noncomputable def g4:GS:=g3.addF "laid_row" BK false
noncomputable def m4:Nm:=m3.addF "laid_row" false
def ML:List Str:=(["columns","rows","table"]:List Str)
def LL:List Str:=(["columns","rows"]:List Str)
theorem aDd:Rd ([]:List Str) m4 ML (top 16) Pg.sG:=by kernel_rfl
theorem aCt:FnScope ML LL (aC (top 16)):=sK
theorem aEf:Ok ([]:List Str) m4 ML (top 16):=by decide +kernel
noncomputable def vY:=fD 2 g4 3 Pg.sG
theorem aBI {ds:List D}:ds.length=2→vY ds=aN g4 3 Pg.sG ds:=cL
noncomputable def g5:GS:=g4.addF "laid" vY false
noncomputable def m5:Nm:=m4.addF "laid" false
def DA:List Str:=(["part","k"]:List Str)
abbrev LQ:List Str:=DA
theorem aDi:Rd ([]:List Str) m5 DA (top 29) Pg.jG:=by kernel_rfl
theorem aCy:FnScope DA LQ (aC (top 29)):=sK
theorem aEt:Ok ([]:List Str) m5 DA (top 29):=by decide +kernel
noncomputable def BJ:=fD 2 g5 2 Pg.jG
theorem aBM {ds:List D}:ds.length=2→BJ ds=aN g5 2 Pg.jG ds:=cL
noncomputable def g6:GS:=g5.addF "heap_at" BJ false
noncomputable def m6:Nm:=m5.addF "heap_at" false
def aBm:List Str:=(["moving","staying","over","upper","lower","longer"]:List Str)
def aBb:List Str:=(["moving","staying","over"]:List Str)
theorem aIx:Rd ([]:List Str) m6 aBm (top 28) Pg.cY:=by kernel_rfl
theorem aIl:FnScope aBm aBb (aC (top 28)):=sK
theorem aIY:Ok ([]:List Str) m6 aBm (top 28):=by decide +kernel
noncomputable def RK:=fD 3 g6 6 Pg.cY
theorem aHX {ds:List D}:ds.length=3→RK ds=aN g6 6 Pg.cY ds:=cL
noncomputable def g7:GS:=g6.addF "laid_together" RK false
noncomputable def m7:Nm:=m6.addF "laid_together" false
def DJ:List Str:=(["heap","side"]:List Str)
abbrev MG:List Str:=DJ
theorem aDx:Rd ([]:List Str) m7 DJ (top 27) Pg.eS:=by kernel_rfl
theorem aCN:FnScope DJ MG (aC (top 27)):=sK
theorem aFj:Ok ([]:List Str) m7 DJ (top 27):=by decide +kernel
noncomputable def BY:=fD 2 g7 2 Pg.eS
theorem aCa {ds:List D}:ds.length=2→BY ds=aN g7 2 Pg.eS ds:=cL
noncomputable def g8:GS:=g7.addF "turned_heap" BY false
noncomputable def m8:Nm:=m7.addF "turned_heap" false
def DI:List Str:=(["part","side"]:List Str)
abbrev MD:List Str:=DI
theorem aDu:Rd ([]:List Str) m8 DI (top 26) Pg.eR:=by kernel_rfl
theorem aCK:FnScope DI MD (aC (top 26)):=sK
theorem aFb:Ok ([]:List Str) m8 DI (top 26):=by decide +kernel
noncomputable def BV:=fD 2 g8 2 Pg.eR
theorem aBX {ds:List D}:ds.length=2→BV ds=aN g8 2 Pg.eR ds:=cL
noncomputable def g9:GS:=g8.addF "turned_part" BV false
noncomputable def m9:Nm:=m8.addF "turned_part" false
def aBj:List Str:=(["strip","side","over","crease","before","behind","outward"]:List Str)
def aAY:List Str:=(["strip","side","over","crease"]:List Str)
theorem aIu:Rd ([]:List Str) m9 aBj (top 25) Pg.dW:=by kernel_rfl
theorem aIi:FnScope aBj aAY (aC (top 25)):=sK
theorem aIP:Ok ([]:List Str) m9 aBj (top 25):=by decide +kernel
noncomputable def RJ:=fD 4 g9 7 Pg.dW
theorem aHU {ds:List D}:ds.length=4→RJ ds=aN g9 7 Pg.dW ds:=cL
noncomputable def g10:GS:=g9.addF "folded_strip" RJ false
noncomputable def m10:Nm:=m9.addF "folded_strip" false
def DC:List Str:=(["table","x"]:List Str)
abbrev LS:List Str:=DC
theorem aDk:Rd ([]:List Str) m10 DC (top 24) Pg.gA:=by kernel_rfl
theorem aCA:FnScope DC LS (aC (top 24)):=sK
theorem aEA:Ok ([]:List Str) m10 DC (top 24):=by decide +kernel
noncomputable def BL:=fD 2 g10 2 Pg.gA
theorem aBO {ds:List D}:ds.length=2→BL ds=aN g10 2 Pg.gA ds:=cL
noncomputable def g11:GS:=g10.addF "column_of" BL false
noncomputable def m11:Nm:=m10.addF "column_of" false
def DG:List Str:=(["table"]:List Str)
abbrev LY:List Str:=DG
theorem aDp:Rd ([]:List Str) m11 DG (top 23) Pg.fE:=by kernel_rfl
theorem aCF:FnScope DG LY (aC (top 23)):=sK
theorem aEO:Ok ([]:List Str) m11 DG (top 23):=by decide +kernel
noncomputable def BP:=fD 1 g11 1 Pg.fE
theorem aBT {ds:List D}:ds.length=1→BP ds=aN g11 1 Pg.fE ds:=cL
noncomputable def g12:GS:=g11.addF "transposed" BP false
noncomputable def m12:Nm:=m11.addF "transposed" false
def MX:List Str:=(["table","side","over","crease","strips"]:List Str)
def MJ:List Str:=(["table","side","over","crease"]:List Str)
theorem aDA:Rd ([]:List Str) m12 MX (top 22) Pg.dU:=by kernel_rfl
theorem aCQ:FnScope MX MJ (aC (top 22)):=sK
theorem aFs:Ok ([]:List Str) m12 MX (top 22):=by decide +kernel
noncomputable def CB:=fD 4 g12 5 Pg.dU
theorem aCd {ds:List D}:ds.length=4→CB ds=aN g12 5 Pg.dU ds:=cL
noncomputable def g13:GS:=g12.addF "folded_table" CB false
noncomputable def m13:Nm:=m12.addF "folded_table" false
def DH:List Str:=(["pile","side","crease"]:List Str)
abbrev LZ:List Str:=DH
theorem aDq:Rd ([]:List Str) m13 DH (top 21) Pg.dS:=by kernel_rfl
theorem aCG:FnScope DH LZ (aC (top 21)):=sK
theorem aEQ:Ok ([]:List Str) m13 DH (top 21):=by decide +kernel
noncomputable def BQ:=fD 3 g13 3 Pg.dS
theorem SU {ds:List D}:ds.length=3→BQ ds=aN g13 3 Pg.dS ds:=cL
noncomputable def g14:GS:=g13.addF "has_crease" BQ false
noncomputable def m14:Nm:=m13.addF "has_crease" false
def SO:List Str:=(["pile"]:List Str)
abbrev aBe:List Str:=SO
theorem aIA:Rd ([]:List Str) m14 SO (top 20) Pg.bV:=by kernel_rfl
theorem aIo:FnScope SO aBe (aC (top 20)):=sK
theorem aJf:Ok ([]:List Str) m14 SO (top 20):=by decide +kernel
noncomputable def FJ:=fD 1 g14 1 Pg.bV
theorem aBL {ds:List D}:ds.length=1→FJ ds=aN g14 1 Pg.bV ds:=cL
noncomputable def g15:GS:=g14.addF "refuse_severed" FJ false
noncomputable def m15:Nm:=m14.addF "refuse_severed" false
def MM:List Str:=(["pile","side","over","crease","table","folds"]:List Str)
def LN:List Str:=(["pile","side","over","crease"]:List Str)
theorem aDf:Rd ([]:List Str) m15 MM (top 18) Pg.gQ:=by kernel_rfl
theorem aCv:FnScope MM LN (aC (top 18)):=sK
theorem aEm:Ok ([]:List Str) m15 MM (top 18):=by decide +kernel
noncomputable def mE:=fD 4 g15 6 Pg.gQ
theorem GD {ds:List D}:ds.length=4→mE ds=aN g15 6 Pg.gQ ds:=cL
noncomputable def g16:GS:=g15.addF "folded" mE false
noncomputable def m16:Nm:=m15.addF "folded" false
def MN:List Str:=(["pile","earlier","side","over","crease"]:List Str)
def LP:List Str:=(["pile"]:List Str)
theorem aDh:Rd ([]:List Str) m16 MN (top 19) Pg.dR:=by kernel_rfl
theorem aCx:FnScope MN LP (aC (top 19)):=sK
theorem aEr:Ok ([]:List Str) m16 MN (top 19):=by decide +kernel
noncomputable def qH:=fD 1 g16 5 Pg.dR
theorem GE {ds:List D}:ds.length=1→qH ds=aN g16 5 Pg.dR ds:=cL
noncomputable def g17:GS:=g16.addF "undone" qH false
noncomputable def m17:Nm:=m16.addF "undone" false
def MT:List Str:=(["pile","lines","y","x","cell","east","north"]:List Str)
def MC:List Str:=(["pile"]:List Str)
theorem aDt:Rd (["lines"]:List Str) m17 MT (top 34) Pg.fG:=by kernel_rfl
theorem aCJ:FnScope MT MC (aC (top 34)):=sK
theorem aEY:Ok (["lines"]:List Str) m17 MT (top 34):=by decide +kernel
noncomputable def BU:=fD 1 g17 7 Pg.fG
theorem aBW {ds:List D}:ds.length=1→BU ds=aN g17 7 Pg.fG ds:=cL
noncomputable def g18:GS:=g17.addF "edge_lines" BU false
noncomputable def m18:Nm:=m17.addF "edge_lines" false
def MS:List Str:=(["columns","rows","cells","found","cell"]:List Str)
def MB:List Str:=(["columns","rows"]:List Str)
theorem aDs:Rd (["found"]:List Str) m18 MS (top 33) Pg.fF:=by kernel_rfl
theorem aCI:FnScope MS MB (aC (top 33)):=sK
theorem aEW:Ok (["found"]:List Str) m18 MS (top 33):=by decide +kernel
noncomputable def BS:=fD 2 g18 5 Pg.fF
theorem aBV {ds:List D}:ds.length=2→BS ds=aN g18 5 Pg.fF ds:=cL
noncomputable def g19:GS:=g18.addF "neighbours" BS false
noncomputable def m19:Nm:=m18.addF "neighbours" false
def MR:List Str:=(["pile","lines","found","first","second","level"]:List Str)
def MA:List Str:=(["pile"]:List Str)
theorem aDr:Rd (["found"]:List Str) m19 MR (top 32) Pg.fH:=by kernel_rfl
theorem aCH:FnScope MR MA (aC (top 32)):=sK
theorem aET:Ok (["found"]:List Str) m19 MR (top 32):=by decide +kernel
noncomputable def BR:=fD 1 g19 6 Pg.fH
theorem aBU {ds:List D}:ds.length=1→BR ds=aN g19 6 Pg.fH ds:=cL
noncomputable def g20:GS:=g19.addF "all_joints" BR false
noncomputable def m20:Nm:=m19.addF "all_joints" false
def CZ:List Str:=(["pile"]:List Str)
abbrev LO:List Str:=CZ
theorem aDg:Rd ([]:List Str) m20 CZ (top 31) Pg.kQ:=by kernel_rfl
theorem aCw:FnScope CZ LO (aC (top 31)):=sK
theorem aEo:Ok ([]:List Str) m20 CZ (top 31):=by decide +kernel
noncomputable def BI:=fD 1 g20 1 Pg.kQ
theorem aBK {ds:List D}:ds.length=1→BI ds=aN g20 1 Pg.kQ ds:=cL
noncomputable def g21:GS:=g20.addF "joints" BI false
noncomputable def m21:Nm:=m20.addF "joints" false
def MK:List Str:=(["pile","level","number","last","parted"]:List Str)
def LJ:List Str:=(["pile","level","number"]:List Str)
theorem aDa:Rd ([]:List Str) m21 MK (top 35) Pg.AR:=by kernel_rfl
theorem aCq:FnScope MK LJ (aC (top 35)):=sK
theorem aDY:Ok ([]:List Str) m21 MK (top 35):=by decide +kernel
noncomputable def BH:=fD 3 g21 5 Pg.AR
theorem aBG {ds:List D}:ds.length=3→BH ds=aN g21 5 Pg.AR ds:=cL
noncomputable def g22:GS:=g21.addF "cut" BH false
noncomputable def m22:Nm:=m21.addF "cut" false
def DK:List Str:=(["script","k"]:List Str)
abbrev MH:List Str:=DK
theorem aDy:Rd ([]:List Str) m22 DK (top 37) Pg.jH:=by kernel_rfl
theorem aCO:FnScope DK MH (aC (top 37)):=sK
theorem aFl:Ok ([]:List Str) m22 DK (top 37):=by decide +kernel
noncomputable def BZ:=fD 2 g22 2 Pg.jH
theorem aCb {ds:List D}:ds.length=2→BZ ds=aN g22 2 Pg.jH ds:=cL
noncomputable def g23:GS:=g22.addF "_law_cell_at" BZ false
noncomputable def m23:Nm:=m22.addF "_law_cell_at" false
def DF:List Str:=(["found"]:List Str)
abbrev LX:List Str:=DF
theorem aDo:Rd ([]:List Str) m23 DF (top 38) Pg.mX:=by kernel_rfl
theorem aCE:FnScope DF LX (aC (top 38)):=sK
theorem aEL:Ok ([]:List Str) m23 DF (top 38):=by decide +kernel
noncomputable def wA:=fD 1 g23 1 Pg.mX
theorem aBS {ds:List D}:ds.length=1→wA ds=aN g23 1 Pg.mX ds:=cL
noncomputable def g24:GS:=g23.addF "_law_whole" wA false
noncomputable def m24:Nm:=m23.addF "_law_whole" false
def aBl:List Str:=(["cell","way","more"]:List Str)
def aBa:List Str:=(["cell"]:List Str)
theorem aIw:Rd ([]:List Str) m24 aBl (top 39) Pg.fQ:=by kernel_rfl
theorem aIk:FnScope aBl aBa (aC (top 39)):=sK
theorem aIV:Ok ([]:List Str) m24 aBl (top 39):=by decide +kernel
noncomputable def aAC:=fD 1 g24 3 Pg.fQ
theorem aHW {ds:List D}:ds.length=1→aAC ds=aN g24 3 Pg.fQ ds:=cL
noncomputable def g25:GS:=g24.addF "_law_sheet_by" aAC false
noncomputable def m25:Nm:=m24.addF "_law_sheet_by" false
def DE:List Str:=(["columns","rows"]:List Str)
abbrev LU:List Str:=DE
theorem aDl:Rd ([]:List Str) m25 DE (top 40) Pg.mY:=by kernel_rfl
theorem aCB:FnScope DE LU (aC (top 40)):=sK
theorem aED:Ok ([]:List Str) m25 DE (top 40):=by decide +kernel
noncomputable def BM:=fD 2 g25 2 Pg.mY
theorem aBP {ds:List D}:ds.length=2→BM ds=aN g25 2 Pg.mY ds:=cL
noncomputable def g26:GS:=g25.addF "_law_flat" BM false
noncomputable def m26:Nm:=m25.addF "_law_flat" false
def MQ:List Str:=(["one","fold","grown","top","low","side","over","crease","along","far","gap","place","spot"]:List Str)
def LW:List Str:=(["one","fold","grown","top","low"]:List Str)
theorem aDn:Rd (["spot"]:List Str) m26 MQ (top 41) Pg.kO:=by kernel_rfl
theorem aCD:FnScope MQ LW (aC (top 41)):=sK
theorem aEI:Ok (["spot"]:List Str) m26 MQ (top 41):=by decide +kernel
noncomputable def BO:=fD 5 g26 13 Pg.kO
theorem aBR {ds:List D}:ds.length=5→BO ds=aN g26 13 Pg.kO ds:=cL
noncomputable def g27:GS:=g26.addF "_law_spot" BO false
noncomputable def m27:Nm:=m26.addF "_law_spot" false
def MV:List Str:=(["spots","fold","along","extent","grown","top","low"]:List Str)
def MF:List Str:=(["spots","fold"]:List Str)
theorem aDw:Rd ([]:List Str) m27 MV (top 42) Pg.gP:=by kernel_rfl
theorem aCM:FnScope MV MF (aC (top 42)):=sK
theorem aFh:Ok ([]:List Str) m27 MV (top 42):=by decide +kernel
noncomputable def BX:=fD 2 g27 7 Pg.gP
theorem aBZ {ds:List D}:ds.length=2→BX ds=aN g27 7 Pg.gP ds:=cL
noncomputable def g28:GS:=g27.addF "_law_folded" BX false
noncomputable def m28:Nm:=m27.addF "_law_folded" false
def MW:List Str:=(["cell","wide","high","level","extent","sides"]:List Str)
def MI:List Str:=(["cell","wide","high"]:List Str)
theorem aDz:Rd ([]:List Str) m28 MW (top 43) Pg.gR:=by kernel_rfl
theorem aCP:FnScope MW MI (aC (top 43)):=sK
theorem aFr:Ok ([]:List Str) m28 MW (top 43):=by decide +kernel
noncomputable def CA:=fD 3 g28 6 Pg.gR
theorem aCc {ds:List D}:ds.length=3→CA ds=aN g28 6 Pg.gR ds:=cL
noncomputable def g29:GS:=g28.addF "_law_fold_by" CA false
noncomputable def m29:Nm:=m28.addF "_law_fold_by" false
def MP:List Str:=(["spots","x","y","layers","k"]:List Str)
def LV:List Str:=(["spots","x","y"]:List Str)
theorem aDm:Rd (["layers"]:List Str) m29 MP (top 44) Pg.kP:=by kernel_rfl
theorem aCC:FnScope MP LV (aC (top 44)):=sK
theorem aEF:Ok (["layers"]:List Str) m29 MP (top 44):=by decide +kernel
noncomputable def BN:=fD 3 g29 5 Pg.kP
theorem aBQ {ds:List D}:ds.length=3→BN ds=aN g29 5 Pg.kP ds:=cL
noncomputable def g30:GS:=g29.addF "_law_heap" BN false
noncomputable def m30:Nm:=m29.addF "_law_heap" false
def aBn:List Str:=(["found","due","k","one"]:List Str)
def aBc:List Str:=(["found","due"]:List Str)
theorem aIy:Rd ([]:List Str) m30 aBn (top 45) Pg.eV:=by kernel_rfl
theorem aIm:FnScope aBn aBc (aC (top 45)):=sK
theorem aIZ:Ok ([]:List Str) m30 aBn (top 45):=by decide +kernel
noncomputable def RL:=fD 2 g30 4 Pg.eV
theorem aHY {ds:List D}:ds.length=2→RL ds=aN g30 4 Pg.eV ds:=cL
noncomputable def g31:GS:=g30.addF "_law_same_heap" RL false
noncomputable def m31:Nm:=m30.addF "_law_same_heap" false
def aBo:List Str:=(["pile","spots","columns","rows","wide","high","sizes","size","y","x"]:List Str)
def aBd:List Str:=(["pile","spots","columns","rows"]:List Str)
theorem aIz:Rd ([]:List Str) m31 aBo (top 46) Pg.eU:=by kernel_rfl
theorem aIn:FnScope aBo aBd (aC (top 46)):=sK
theorem aJc:Ok ([]:List Str) m31 aBo (top 46):=by decide +kernel
noncomputable def RM:=fD 4 g31 10 Pg.eU
theorem aHZ {ds:List D}:ds.length=4→RM ds=aN g31 10 Pg.eU ds:=cL
noncomputable def g32:GS:=g31.addF "_law_same_pile" RM false
noncomputable def m32:Nm:=m31.addF "_law_same_pile" false
def aBp:List Str:=(["pile","side","over","crease","e"]:List Str)
def aBf:List Str:=(["pile","side","over","crease"]:List Str)
theorem aIB:Rd ([]:List Str) m32 aBp (top 48) K03.dX:=by kernel_rfl
theorem aIp:FnScope aBp aBf (aC (top 48)):=sK
theorem aJi:Ok ([]:List Str) m32 aBp (top 48):=by decide +kernel
noncomputable def aAD:=fD 4 g32 5 K03.dX
theorem WY {ds:List D}:ds.length=4→aAD ds=aN g32 5 K03.dX ds:=cL
noncomputable def g33:GS:=g32.addF "_law_fold_tried" aAD false
noncomputable def m33:Nm:=m32.addF "_law_fold_tried" false
def aBq:List Str:=(["pile","e"]:List Str)
def aBg:List Str:=(["pile"]:List Str)
theorem aIC:Rd ([]:List Str) m33 aBq (top 49) K03.gO:=by kernel_rfl
theorem aIq:FnScope aBq aBg (aC (top 49)):=sK
theorem aJj:Ok ([]:List Str) m33 aBq (top 49):=by decide +kernel
noncomputable def aAE:=fD 1 g33 2 K03.gO
theorem WZ {ds:List D}:ds.length=1→aAE ds=aN g33 2 K03.gO ds:=cL
noncomputable def g34:GS:=g33.addF "_law_undoing_tried" aAE false
noncomputable def m34:Nm:=m33.addF "_law_undoing_tried" false
def MU:List Str:=(["spots","columns","rows","out","k","one"]:List Str)
def ME:List Str:=(["spots","columns","rows"]:List Str)
theorem aDv:Rd (["out"]:List Str) m34 MU (top 50) Pg.jF:=by kernel_rfl
theorem aCL:FnScope MU ME (aC (top 50)):=sK
theorem aFd:Ok (["out"]:List Str) m34 MU (top 50):=by decide +kernel
noncomputable def BW:=fD 3 g34 6 Pg.jF
theorem aBY {ds:List D}:ds.length=3→BW ds=aN g34 6 Pg.jF ds:=cL
noncomputable def g35:GS:=g34.addF "_law_joints" BW false
noncomputable def m35:Nm:=m34.addF "_law_joints" false
def aBk:List Str:=(["cell","wide","high","side","extent","far","crease"]:List Str)
def aAZ:List Str:=(["cell","wide","high"]:List Str)
theorem aIv:Rd ([]:List Str) m35 aBk (top 51) K03.cO:=by kernel_rfl
theorem aIj:FnScope aBk aAZ (aC (top 51)):=sK
theorem aIS:Ok ([]:List Str) m35 aBk (top 51):=by decide +kernel
noncomputable def aAB:=fD 3 g35 7 K03.cO
theorem aHV {ds:List D}:ds.length=3→aAB ds=aN g35 7 K03.cO ds:=cL
noncomputable def g36:GS:=g35.addF "_law_bad_fold" aAB false
noncomputable def m36:Nm:=m35.addF "_law_bad_fold" false
def CV:List Str:=(["script","columns","rows","pile","spots","cell","fold","bad","level","line","torn","hit","due"]:List Str)
def qU:List Str:=(["script"]:List Str)
theorem aDb:Rd ([]:List Str) m36 CV (top 52) K03.AQ:=by kernel_rfl
theorem aCr:FnScope CV qU (aC (top 52)):=sK
theorem aEb:Ok ([]:List Str) m36 CV (top 52):=by decide +kernel
noncomputable def vX:=fD 1 g36 13 K03.AQ
theorem SS {ds:List D}:ds.length=1→vX ds=aN g36 13 K03.AQ ds:=cL
noncomputable def tx (C:Addr) (cs:Str→Addr):Tx:=⟨fun x=>if x = "Pile" then some C else none,fun x=>if xcs.contains x=true then some (cs x) else none⟩
theorem zR (C:Addr) (cs:Str→Addr):(tx C cs).cl "Pile" = some C:=by
 unfold tx
 simp only [if_true]
theorem SV {C:Addr} {cs:Str→Addr} {cn:Str} {C':Addr} (h:(tx C cs).cl cn=some C'):cn = "Pile"∧C'=C:=by
 unfold tx at h
 dsimp only at h
 split at h
 ·rename_i e; cases h; exact ⟨e,rfl⟩
 ·cases h
theorem uQ {C:Addr} {cs:Str→Addr} {k:Str} {C':Addr} (h:(tx C cs).xc k=some C'):xcs.contains k=true∧C'=cs k:=by
 unfold tx at h
 dsimp only at h
 split at h
 ·rename_i e; cases h; exact ⟨e,rfl⟩
 ·cases h
structure Df (K:PySem.W.Frag) (mg:Str→Option Value) (x:Str) (st:Stmt) (ps:List Str) (f:Addr) (fd:FuncData):Prop where
 fn:Fun K x x st f fd
 at_:mg x=some (.ref f)
 bd:Binds K fd ps []
structure Mt (K:PySem.W.Frag) (C:Addr) (x qual:Str) (st:Stmt) (ps:List Str) (f:Addr) (fd:FuncData):Prop where
 fn:Fun K x qual st f fd
 at_:Meth K C x f
 bd:Binds K fd ps []
section
variable {P:Program}{w:World}{K:PySem.W.Frag}{mg:Str→Option Value}{base:Heap}{C:Addr}{cs:Str→Addr}
abbrev MO (P:Program) (w:World) (K:PySem.W.Frag) (mg:Str→Option Value) (base:Heap) (C:Addr) (cs:Str→Addr) (m:Nm) (g:GS) (k:Nat):Prop:=MOk P w K mg base (gG P w) m g (tx C cs) k
noncomputable def aHT:Nat→Pos:=fun i=>([⟨210,4,210,9⟩,⟨210,13,210,23⟩,⟨210,24,210,25⟩,⟨210,27,210,34⟩,⟨210,13,210,35⟩,⟨210,37,210,47⟩,⟨210,48,210,49⟩,⟨210,51,210,57⟩,⟨210,37,210,58⟩,⟨210,60,210,70⟩,⟨210,71,210,72⟩,⟨210,74,210,81⟩,⟨210,60,210,82⟩,⟨210,84,210,94⟩,⟨210,95,210,96⟩,⟨210,98,210,102⟩,⟨210,84,210,103⟩,⟨210,12,210,104⟩,⟨210,4,210,104⟩,⟨211,4,211,9⟩,⟨211,12,211,17⟩,⟨211,21,211,31⟩,⟨211,32,211,33⟩,⟨211,35,211,42⟩,⟨211,21,211,43⟩,⟨211,45,211,55⟩,⟨211,56,211,57⟩,⟨211,59,211,65⟩,⟨211,45,211,66⟩,⟨211,68,211,78⟩,⟨211,79,211,80⟩,⟨211,82,211,87⟩,⟨211,68,211,88⟩,⟨211,90,211,100⟩,⟨211,101,211,102⟩,⟨211,104,211,110⟩,⟨211,90,211,111⟩,⟨211,20,211,112⟩,⟨211,12,211,112⟩,⟨211,4,211,112⟩,⟨212,7,212,12⟩,⟨212,7,212,18⟩,⟨212,19,212,23⟩,⟨212,7,212,24⟩,⟨212,28,212,29⟩,⟨212,7,212,29⟩,⟨212,37,212,47⟩,⟨212,48,212,49⟩,⟨212,51,212,61⟩,⟨212,37,212,62⟩,⟨212,33,212,62⟩,⟨212,7,212,62⟩,⟨213,15,213,22⟩,⟨213,8,213,22⟩,⟨212,4,213,22⟩,⟨214,12,214,19⟩,⟨214,21,214,27⟩,⟨214,29,214,36⟩,⟨214,38,214,44⟩,⟨214,46,214,55⟩,⟨214,57,214,65⟩,⟨214,67,214,74⟩,⟨214,76,214,82⟩,⟨214,11,214,83⟩,⟨214,84,214,89⟩,⟨214,84,214,95⟩,⟨214,96,214,100⟩,⟨214,84,214,101⟩,⟨214,11,214,102⟩,⟨214,4,214,102⟩]:List Pos).getD i ⟨0,0,0,0⟩
theorem WW:bN (top 47)=nE aHT:=by rfl
theorem NI:FnScope ["e","kinds"] ["e"] (aC (top 47)):=sK
theorem WV:∀ y ∈ ("isinstance":Str) :: "ValueError" :: bF,(aC (top 47)).names.lookup y=some .globalImplicit:=by
 have:(("isinstance":Str) :: "ValueError" :: bF).all (fun y=>(aC (top 47)).names.lookup y == some .globalImplicit)=true:=by decide +kernel
 intro y hy
 exact beq_iff_eq.mp (List.all_eq_true.mp this y hy)
theorem aHS {f:Addr} {fd:FuncData} (F:Df K mg "_law_word_of" (top 47) ["e"] f fd) (mi:mg "isinstance" = none) (mv:mg "ValueError" = none) (mx:∀ y ∈ bF,mg y=some (.ref (cs y))) (hX:∀ k,xcs.contains k=true→∀ (j:Nat),bF.idxOf? k=some j→XcK K (cs k))
  (hk:∀ k,xcs.contains k=true→∀ (j:Nat),bF.idxOf? k=some j→∀ (i:Nat) (y:Str),bF[i]?=some y→PySem.W.kitOne K (.ref (cs k)) (.ref (cs y))=some (decide (i=j))) (hv:∀ k,xcs.contains k=true→∀ (j:Nat),bF.idxOf? k=some j→PySem.W.kitOne K (.ref (cs k)) (.type "ValueError")=some true) :
  ∀ g k x C',(tx C cs).xc k=some C'→wdX g k=some x→∃ fa fd ps j,j≤1∧mg g=some (.ref fa)∧PySem.W.keepIn K (.ref fa)=true∧Binds K fd ps []∧FnM P w K mg base j fa fd ps (spW C' x):=by
 intro g k x C' h1 h2
 obtain ⟨hk1,rfl⟩:=uQ h1
 unfold wdX at h2
 split at h2
 ·rename_i hc
  obtain ⟨rfl,_⟩:=hc
  obtain ⟨j,hj,hw⟩:=Option.bind_eq_some_iff.mp h2
  refine ⟨f,fd,["e"],1,Nat.le_refl 1,F.at_,F.fn.kp,F.bd,RF (cs:=cs) (j:=j) F.fn NI WW (by decide) (by decide) (by decide +kernel) (by decide +kernel) WV mi mv mx (hX k hk1 j hj) ?_ (hk k hk1 j hj) (hv k hk1 j hj) hw⟩
  have:=(List.getElem?_eq_some_iff.mp hw).1
  exact this
 ·cases h2
theorem mk0 (hc:∀ x d,csts.lookup x=some d→xD K (tx C cs) mg x d) (hcl:Cls K C) (hfl:∀ f,(vW "Pile").contains f=true→dZ K C f) (hbi:∀ x,fK.contains x=true→mg x=none) (hx:∀ k,xcs.contains k=true→mg k=some (.ref (cs k))) (hxk:∀ k,xcs.contains k=true→PySem.W.excIn K (cs k) bmV "ValueError.__new__" = true)
  (mP:∀ k k',xcs.contains k=true→xcs.contains k'=true→XG k k'=true→eF K (cs k) (.ref (cs k'))=true) (hwd:∀ g k x C',(tx C cs).xc k=some C'→wdX g k=some x→∃ fa fd ps j,j≤1∧mg g=some (.ref fa)∧PySem.W.keepIn K (.ref fa)=true∧Binds K fd ps []∧FnM P w K mg base j fa fd ps (spW C' x)):MO P w K mg base C cs m0 g0 1:=
 aJn hc (fun cn C' h=>by obtain ⟨_,rfl⟩:=SV h; exact hcl) (fun cn C' f h hf=>by obtain ⟨rfl,rfl⟩:=SV h; exact hfl f hf) hbi (fun k C' h=>by obtain ⟨h1,rfl⟩:=uQ h; exact hx k h1) (fun k h=>⟨cs k,if_pos h⟩) (fun k C' h=>by obtain ⟨h1,rfl⟩:=uQ h; exact hxk k h1)
  (fun k k' C1 C2 a b h=>by obtain ⟨h1,rfl⟩:=uQ a; obtain ⟨h2,rfl⟩:=uQ b; exact mP k k' h1 h2 h) hwd
theorem aCR:FnScope (["self","columns","rows","table","folds","severed"]:List Str) (["self","columns","rows","table","folds","severed"]:List Str) (aC (L2.inClass (top 15) 0)):=sK
theorem mk1 {f:Addr} {fd:FuncData} (h:MO P w K mg base C cs m0 g0 1) (hm:mg "Pile" = some (.ref C)) (M:Mk K C f) (hb:Binds K fd (["self","columns","rows","table","folds","severed"]:List Str) []) (F:Fun K "__init__" "Pile.__init__" (L2.inClass (top 15) 0) f fd) (hcl:Cls K C) (hfl:∀ f,(vW "Pile").contains f=true→dZ K C f):MO P w K mg base C cs m1 g1 3:=
 h.defC hm M hb F aCR (by decide +kernel) aDE (zR C cs) hcl (fun x hx=>hfl x.1 (by
  have:vV.all (fun x=>(vW "Pile").contains x.1)=true:=by decide +kernel
  exact List.all_eq_true.mp this x hx)) (by decide +kernel) (by decide)
theorem mkM {m:Nm} {g:GS} {k:Nat} {x q:Str} {st:Stmt} {N ps U:List Str} {i:IS} {f:Addr} {fd:FuncData} (e:∀ cn ds,g.me cn x ds=none) (s:FnScope N ps (aC st)) (o:Ok U m N st) (r:Rd U m N st i) (h:MO P w K mg base C cs m g k) (M:Mt K C x q st ps f fd) (a1:m.fns.contains x=false:=by decide +kernel) (a3:m.fresh.contains x=false:=by decide +kernel) (a4:true=true→iD i=true:=by decide +kernel):MO P w K mg base C cs (m.addM x true) (g.addM "Pile" x (fD ps.length g N.length i) true) (k+1):=h.defM a1 e a3 (zR C cs) M.at_ M.bd M.fn s o r a4
theorem aGl:∀ cn ds,g1.me cn "heap" ds=none:=fun cn ds=>by
 rfl
theorem aGm:∀ cn ds,g2.me cn "done" ds=none:=fun cn ds=>by
 show (if cn = "Pile"∧("done":Str) = "heap" then oJ else fun _=>none) ds=none
 rw [if_neg (fun z=>absurd z.2 (by decide +kernel))]
theorem aFR {x:Str} (h_heap:¬ x = "heap") (h_done:¬ x = "done"):∀ cn ds,g3.me cn x ds=none:=fun cn ds=>by
 show (if cn = "Pile"∧x = "done" then vZ else if cn = "Pile"∧x = "heap" then oJ else fun _=>none) ds=none
 rw [if_neg fun z=>h_done z.2,if_neg fun z=>h_heap z.2]
theorem mkF {m:Nm} {g:GS} {k:Nat} {x:Str} {st:Stmt} {N ps U:List Str} {i:IS} {f:Addr} {fd:FuncData} (s:FnScope N ps (aC st)) (o:Ok U m N st) (r:Rd U m N st i) (h:MO P w K mg base C cs m g k) (M:Df K mg x st ps f fd) (a1:m.fns.contains x=false:=by decide +kernel) (a2:∀ cn ds,g.me cn x ds=none:=by exact aFR (by decide +kernel) (by decide +kernel)) (a3:m.fresh.contains x=false:=by decide +kernel) (a4:false=true→iD i=true:=by first|(intro z; cases z; done)|decide +kernel):MO P w K mg base C cs (m.addF x false) (g.addF x (fD ps.length g N.length i) false) (k+1):=h.defF a1 a2 a3 M.at_ M.bd M.fn s o r a4
theorem aAd {f:Addr} {fd:FuncData} (h:MO P w K mg base C cs m36 g36 38) (M:Df K mg "law" (top 52) qU f fd):FnOk P w K mg base (gG P w) 39 f fd qU (spD K (tx C cs) 1 vX false):=
 ((aAw (fr:=false) (n:=60) (c:=m36.cc CV (aC (top 52)) ([]:List Str)) M.fn aCr rfl rfl aEb aDb (fun z=>by cases z) (fun X a1 a2 a3 a4 a5=>h X _ a1 a2 a3 a4 a5 rfl rfl rfl rfl)).imp fun vs H Q E ⟨h1,S,ds,dom,rl,hc⟩=>⟨h1,S,ds,dom,rl,by rw [SS (by rw [rl.len]; exact h1)] at hc; exact hc⟩)
end
theorem YH:g4.fn "laid_row" = BK:=by kernel_rfl
theorem YG:g6.fn "heap_at" = BJ:=by kernel_rfl
theorem YF:g8.fn "turned_heap" = BY:=by kernel_rfl
theorem aDJ:g9.fn "laid_together" = RK:=by kernel_rfl
theorem YE:g9.fn "turned_part" = BV:=by kernel_rfl
theorem OU:g11.fn "column_of" = BL:=by kernel_rfl
theorem YM:g12.fn "folded_strip" = RJ:=by kernel_rfl
theorem OT:g12.fn "transposed" = BP:=by kernel_rfl
theorem OS:g15.fn "folded_table" = CB:=by kernel_rfl
theorem zW:g15.fn "has_crease" = BQ:=by kernel_rfl
theorem xT:g15.fn "refuse_severed" = FJ:=by kernel_rfl
theorem OR:g16.fn "folded" = mE:=by kernel_rfl
theorem OQ:g16.fn "laid" = vY:=by kernel_rfl
theorem xS:g16.fn "refuse_severed" = FJ:=by kernel_rfl
theorem PU:g17.me "Pile" "heap" = oJ:=by kernel_rfl
theorem OP:g19.fn "edge_lines" = BU:=by kernel_rfl
theorem OO:g19.fn "neighbours" = BS:=by kernel_rfl
theorem ON:g20.fn "all_joints" = BR:=by kernel_rfl
theorem OM:g21.fn "joints" = BI:=by kernel_rfl
theorem OL:g27.fn "_law_spot" = BO:=by kernel_rfl
theorem OK:g30.fn "_law_whole" = wA:=by kernel_rfl
theorem OI:g31.fn "_law_heap" = BN:=by kernel_rfl
theorem YL:g31.fn "_law_same_heap" = RL:=by kernel_rfl
theorem OJ:g31.fn "_law_whole" = wA:=by kernel_rfl
theorem PR:g31.me "Pile" "heap" = oJ:=by kernel_rfl
theorem rT:g32.fn "folded" = mE:=by kernel_rfl
theorem rS:g33.fn "undone" = qH:=by kernel_rfl
theorem YI:g36.fn "_law_bad_fold" = aAB:=by kernel_rfl
theorem OG:g36.fn "_law_cell_at" = BZ:=by kernel_rfl
theorem OD:g36.fn "_law_flat" = BM:=by kernel_rfl
theorem OH:g36.fn "_law_fold_by" = CA:=by kernel_rfl
theorem xQ:g36.fn "_law_fold_tried" = aAD:=by kernel_rfl
theorem OF:g36.fn "_law_folded" = BX:=by kernel_rfl
theorem OE:g36.fn "_law_joints" = BW:=by kernel_rfl
theorem YK:g36.fn "_law_same_pile" = RM:=by kernel_rfl
theorem YJ:g36.fn "_law_sheet_by" = aAC:=by kernel_rfl
theorem xR:g36.fn "_law_undoing_tried" = aAE:=by kernel_rfl
theorem OA:g36.fn "cut" = BH:=by kernel_rfl
theorem OC:g36.fn "folded" = mE:=by kernel_rfl
theorem OB:g36.fn "laid" = vY:=by kernel_rfl
theorem PQ:g36.me "Pile" "done" = vZ:=by kernel_rfl
end Toy
namespace Toy
open PySem Z Z.Pg
theorem fl_ (G:GS) (h:G.fl=vW):G.fl "Pile" = pFl:=by rw [h]; rfl
theorem mo_ (c r:Int) (T row:List D) (F S:List D) (h:T[0]?=some (.lst row)):JX [.int c,.int r,.lst T,.tup F,.tup S]=some (.ok (bJ c r row.length T.length T F S)):=by
 show DY g0 "Pile" 6 vV _=_
 unfold DY vV
 have e:atI T 0=some (.lst row):=dY (k:=0) h
 show Option.map _ (evI g0 [.un,.im (.int c),.im (.int r),.im (.lst T),.im (.tup F),.im (.tup S)] _)=_
 simp only [evI,Option.bind_eq_bind]
 simp only [zz,yy,aA,aB,e]
 rfl
theorem SQ {c r w h:Nat} {T:Table} {F S:List D} {x y:Nat} (R:Rect T w h) (hx:x<w) (hy:y<h):oJ [aL c r w h T F S,.int x,.int y]=some (.ok (hE ((T.getD y []).getD x []))):=by
 rw [aBH rfl]
 have hy':y<T.length:=by rw [R.len]; exact hy
 have hr:(T.getD y []).length=w:=R.row _ (by rw [List.getD_eq_getElem?_getD,List.getElem?_eq_getElem hy']; exact List.getElem_mem hy')
 refine RB (fl_ _ rfl) (row:=(T.getD y []).map hE) (by omega) (by omega) ?_ ?_
 ·rw [List.getElem?_map,List.getD_eq_getElem?_getD,List.getElem?_eq_getElem hy']; rfl
 ·rw [List.getElem?_map,List.getD_eq_getElem?_getD (l:=T.getD y []),List.getElem?_eq_getElem (by omega)]; rfl
theorem aBt {c r w h:Nat} {T:Table} {F S:List D}:vZ [aL c r w h T F S]=some (.ok (.lst F)):=by
 rw [aBJ rfl]
 exact RY (fl_ _ rfl)
theorem mc_:g4.cst "MOST_CELLS" = some (.int 64):=by rfl
theorem aBw {c y:Nat} (h1:c≤64) (h2:y≤64):BK [.int c,.int y]=some (.ok (.lst (mL c y))):=(aBN rfl).trans (vQ h1 h2)
theorem SR {c r:Nat} (h1:1≤c) (h2:1≤r) (h3:c*r≤64):vY [.int c,.int r]=some (.ok (aL c r c r (eW c r) [] [])):=by
 rw [aBI rfl]
 unfold aL
 rw [← uT]
 exact QT mc_ (fun c y a b=>by rw [YH]; exact aBw a b) (fun c r T row h=>mo_ c r T row [] [] h) h1 h2 h3
theorem aBv (p:aW) (k:Nat):BJ [sE p,.int k]=some (.ok (hE (p.getD k []))):=(aBM rfl).trans yT
theorem aHR (mv st:aW) (over:Bool) (l1:mv.length≤1000) (l2:st.length≤1000) (f1:Few 400000 mv) (f2:Few 400000 st):RK [sE mv,sE st,.bl over]=some (.ok (sE (bM mv st over))):=
 (aHX rfl).trans (lM (fun p k=>by rw [YG]; exact aBv p k) l1 l2 f1 f2)
theorem aBE (h:cV) (sd:Side):BY [hE h,.str sd.str]=some (.ok (hE (eA sd.up h))):=(aCa rfl).trans (nJ rfl)
theorem aBD (p:aW) (sd:Side):BV [sE p,.str sd.str]=some (.ok (sE (dE sd.up p))):=(aBX rfl).trans (nI fun h sd=>by rw [YF]; exact aBE h sd)
theorem aHQ (s:aW) (sd:Side) (over:Bool) (c:Nat) (ls:s.length≤1000) (hf:Few 400000 s):RJ [sE s,.str sd.str,.bl over,.int c]=some (.ok (sE (bW sd over c s))):=
 (aHU rfl).trans (mR rfl (fun p sd=>by rw [YE]; exact aBD p sd) (fun mv st over a b c d=>by rw [aDJ]; exact aHR mv st over a b c d) ls hf)
theorem aBx (T:Table) (x:Nat) (h:∀ s ∈ T,x<s.length):BL [tE T,.int x]=some (.ok (sE (T.map fun s=>s.getD x []))):=(aBO rfl).trans (uC h)
theorem aBy (T:Table) (w h:Nat) (R:Rect T w h) (hw:w≤1000):BP [tE T]=some (.ok (tE (transp T))):=(aBT rfl).trans (pC (fun T x h=>by rw [OU]; exact aBx T x h) R hw)
theorem aBF (T:Table) (w h:Nat) (sd:Side) (over:Bool) (k:Nat) (R:Rect T w h) (hw:w≤1000) (hh:h≤1000) (hf:fU 400000 T) (h1:1≤k) (h2:k<if sd.up then w else h):CB [tE T,.str sd.str,.bl over,.int k]=some (.ok (tE (foldT sd over k T))):=
 (aCd rfl).trans (mQ rfl (fun T w h R hw=>by rw [OT]; exact aBy T w h R hw) (fun s sd over c a b=>by rw [YM]; exact aHQ s sd over c a b) R hw hh hf h1 h2)
theorem aBz (c r w h:Nat) (T:Table) (F S:List D) (sd:Side) (i:Int):BQ [aL c r w h T F S,.str sd.str,.int i]=some (.ok (.bl (decide (1≤i)&&decide (i<((if sd.up then w else h:Nat):Int))))):=(SU rfl).trans (jP (fl_ _ rfl) rfl rfl)
theorem NF (c r w h:Nat) (T:Table) (F:List D):FJ [aL c r w h T F []]=some (.ok .non):=(aBL rfl).trans (kH (fl_ _ rfl))
theorem GB (c r w h:Nat) (T:Table) (F:List D) (sd:Side) (over:Bool) (k:Nat) (R:Rect T w h) (hw:w≤1000) (hh:h≤1000) (hf:fU 400000 T) (h1:1≤k) (h2:k<if sd.up then w else h) (hF:F.length≤1000):mE [aL c r w h T F [],.str sd.str,.bl over,.int k]=some (.ok (aL c r (if sd.up then max k (w-k) else w) (if sd.up then h else max k (h-k)) (foldT sd over k T) (F++[bI sd over k]) [])):=
 (GD rfl).trans (FD (fl_ _ rfl) (fun c r w h T F=>by rw [xT]; exact NF c r w h T F) (fun c r w h T F S sd i=>by rw [zW]; exact aBz c r w h T F S sd i) (fun T w h sd over k a b c d e f=>by rw [OS]; exact aBF T w h sd over k a b c d e f) (fun c r T row F S h=>mo_ c r T row F S h) R hw hh hf h1 h2 hF)
theorem DP (ns:List Int) (k:Nat):BZ [.frz (ns.map .int),.int k]=some (.ok (.int (at0 ns k))):=(aCb rfl).trans zK
theorem zP (i:Int):wA [.int i]=some (.ok (.bl true)):=(aBS rfl).trans GC
theorem DN (w h:Nat) (cell:Int) (hw:1≤w) (hh:1≤h) (hwh:1<w*h):∃ (sd:Side) (over:Bool) (k:Nat),1≤k∧(k<if sd.up then w else h)∧CA [.int cell,.int w,.int h]=some (.ok (bI sd over k)):=by
 obtain ⟨sd,over,k,a,b,e⟩:=yZ (G:=g28) (cell:=cell) hw hh hwh
 exact ⟨sd,over,k,a,b,(aCc rfl).trans e⟩
theorem ND (c r:Nat) (hc:1≤c) (hcr:c*r≤1000) (hc2:c≤1000):BM [.int c,.int r]=some (.ok (bD (cZ c r))):=(aBP rfl).trans (IU hc hcr hc2)
theorem NB (s:Spot) (sd:Side) (over:Bool) (c gr:Nat) (top low:Int) (h1:1≤c) (hg:iC c (s.al sd.up)<gr):BO [spE s,bI sd over c,.int gr,.int top,.int low]=some (.ok (spE (aV sd over c gr top low s))):=(aBR rfl).trans (IR h1 hg)
theorem DM (sp:List Spot) (sd:Side) (over:Bool) (c ex:Nat) (h1:1≤c) (h2:c<ex) (hne:sp≠[]) (hlt:∀ s ∈ sp,s.al sd.up<ex) (hex:∃ s ∈ sp,s.al sd.up+1=ex):∃ top low:Int,(∀ s ∈ sp,s.z≤top)∧(∀ s ∈ sp,low≤s.z)∧BX [bD sp,bI sd over c]=some (.ok (bD (sp.map (aV sd over c (max c (ex-c)) top low)))):=by
 rw [aBZ rfl]
 exact yL (fun s sd over c gr top low a b=>by rw [OL]; exact NB s sd over c gr top low a b) h1 h2 hne hlt hex
theorem NC (T:Table) (sp:List Spot) (x y:Nat) (L:Lk T sp) (hl:sp.length≤1000) (h64:(hAt T x y).length<64):BN [bD sp,.int x,.int y]=some (.ok (hE (hAt T x y))):=(aBQ rfl).trans (IT L hl h64)
theorem uM (h:cV) (hl:h.length≤1000):RL [hE h,hE h]=some (.ok (.bl true)):=(aHY rfl).trans (rP (fun i=>by rw [OK]; exact zP i) hl)
theorem uL (c r w h:Nat) (T:Table) (F C:List D) (sp:List Spot) (S:Sits T w h sp) (hs:∀ x y,(hAt T x y).length<64):RM [aL c r w h T F C,bD sp,.int c,.int r]=some (.ok (.bl true)):=
 (aHZ rfl).trans (rO (fl_ _ rfl) (fun i=>by rw [OJ]; exact zP i) (fun hp a=>by rw [YL]; exact uM hp a) (fun T sp x y a b d=>by rw [OI]; exact NC T sp x y a b d) (fun c r w h T F S x y a b d=>by rw [PR]; exact SQ a b d) S hs)
theorem aBC (c r w h:Nat) (T:Table) (F C:List D) (sp:List Spot) (S:Sits T w h sp):∃ kvs,BU [aL c r w h T F C]=some (.ok (.dct kvs))∧∀ (i:Nat) (s:Spot),sp[i]?=some s→dD kvs i=some (iL s):=by
 obtain ⟨kvs,e,h⟩:=pH (G:=g17) (c:=c) (r:=r) (F:=F) (C:=C) (fl_ _ rfl) (fun c r w h T F S x y a b d=>by rw [PU]; exact SQ a b d) S
 exact ⟨kvs,(aBW rfl).trans e,h⟩
theorem aBB (c r:Nat) (hc:1≤c) (hcr:c*r≤64) (hc6:c≤64):BS [.int c,.int r]=some (.ok (.lst ((nbs c (c*r) (c*r)).map nbD))):=(aBV rfl).trans (pF hc hcr hc6)
theorem aBA (c r w h:Nat) (T:Table) (F C:List D) (sp:List Spot) (S:Sits T w h sp) (hc:1≤c) (hcr:c*r≤64) (hc6:c≤64) (hsp:sp.length=c*r):BR [aL c r w h T F C]=some (.ok (jsE sp c r)):=by
 obtain ⟨kvs,e,hk⟩:=aBC c r w h T F C sp S
 exact (aBU rfl).trans (pK (fl_ _ rfl) (by rw [OP]; exact e) hk (by rw [OO]; exact aBB c r hc hcr hc6) hcr hsp)
theorem aBu (c r:Nat) (fs:List Fold) (sps:List (List Spot)) (hc:1≤c) (hr:1≤r) (hcr:c*r≤64) (S:Stgs c r fs sps) (hne:fs≠[]) (hlen:fs.length≤1000):qH [aP c r fs]=some (.ok (aP c r fs.dropLast)):=
 (GE rfl).trans (DQ (fl_ _ rfl) (fun c r w h T F=>by rw [xS]; exact NF c r w h T F) (fun c r a b d=>by rw [OQ]; exact SR a b d) (fun c r w h T F sd over k a1 a2 a3 a4 a5 a6 a7=>by rw [OR]; exact GB c r w h T F sd over k a1 a2 a3 a4 a5 a6 a7) hc hr hcr S hne hlen)
theorem DL (c r:Nat) (sp:List Spot) (hc:1≤c) (hcr:c*r≤64) (hc6:c≤64) (hsp:sp.length=c*r):BW [bD sp,.int c,.int r]=some (.ok (jsE sp c r)):=(aBY rfl).trans (yK hc hcr hc6 hsp)
theorem uK (c r:Nat):qH [aP c r []]=some (.er "NoFold"):=(GE rfl).trans (DR (fl_ _ rfl) rfl (fun c r w h T F=>by rw [xS]; exact NF c r w h T F))
theorem lV (c r w h:Nat) (T:Table) (F S:List D) (hS:S≠[]):FJ [aL c r w h T F S]=some (.er "Severed"):=(aBL rfl).trans (kI (fl_ _ rfl) rfl hS)
theorem rA (c r w h:Nat) (T:Table) (F S:List D) (hS:S≠[]) (x:Str) (over:Bool) (i:Int):mE [aL c r w h T F S,.str x,.bl over,.int i]=some (.er "Severed"):=(GD rfl).trans (yX rfl (by rw [xT]; exact lV c r w h T F S hS))
theorem rB (c r w h:Nat) (T:Table) (F:List D) (x:Str) (over:Bool) (i:Int) (hb:Bad w h x i):mE [aL c r w h T F [],.str x,.bl over,.int i]=some (.er "NoFold"):=
 (GD rfl).trans (yY rfl (by rw [xT]; exact NF c r w h T F) (by rw [zW]; exact (SU rfl).trans (oB (fl_ _ rfl) rfl rfl hb)))
theorem qY (c r w h:Nat) (T:Table) (F S:List D) (hS:S≠[]):qH [aL c r w h T F S]=some (.er "Severed"):=(GE rfl).trans (xE rfl (by rw [xS]; exact lV c r w h T F S hS))
theorem qZ (c r w h:Nat) (T:Table) (F:List D) (sp:List Spot) (sev:List (Nat × Nat)) (S:Sits T w h sp) (hc:1≤c) (hcr:c*r≤64) (hc6:c≤64) (hsp:sp.length=c*r):BI [aL c r w h T F (sev.map pD)]=some (.ok (.lst ((Pg.left c (c*r) sev).map (jD sp)))):=
 (aBK rfl).trans (yO (fl_ _ rfl) (by rw [ON]; exact aBA c r w h T F _ sp S hc hcr hc6 hsp))
theorem DO (c r w h:Nat) (T:Table) (F:List D) (sp:List Spot) (sev:List (Nat × Nat)) (S:Sits T w h sp) (hc:1≤c) (hcr:c*r≤64) (hc6:c≤64) (hsp:sp.length=c*r) (l:Bool) (n:Int) (h0:0≤n) (h1:n≤((if l then h else w:Nat):Int)) (hs:sev.length≤900000):BH [aL c r w h T F (sev.map pD),.bl l,.int n]=some (.ok (aL c r w h T F ((sev++gT c (c*r) sp sev l n).map pD))):=
 (aBG rfl).trans (SC (fl_ _ rfl) S.rect (by rw [OM]; exact qZ c r w h T F sp sev S hc hcr hc6 hsp) (fun c r T row F S h=>mo_ c r T row F S h) h0 h1 (by omega))
theorem wN:wdX "_law_word_of" "NoFold" = some ("fold":Str):=by decide +kernel
theorem wS:wdX "_law_word_of" "Severed" = some ("severed":Str):=by decide +kernel
theorem law_true (ns:List Int) (_:ns.length≤63):vX [.frz (ns.map .int)]=some (.ok (.bl true)):=by
 refine (SS rfl).trans (K03.aAg (G:=g36) (ns:=ns) (fl_ _ rfl) (fun k=>by rw [OG]; exact DP ns k) (fun cell=>?_) (fun c r a b d=>by rw [OB]; exact SR a b d) (fun c r a b d=>by rw [OD]; exact ND c r a b d) (fun w h cell a b d=>by rw [OH]; exact DN w h cell a b d)
  (fun c r fs sp f S ok hl=>lR (fun c r w h T F sd over k a1 a2 a3 a4 a5 a6 a7=>by rw [OC]; exact GB c r w h T F sd over k a1 a2 a3 a4 a5 a6 a7) S ok hl)
  (fun sp sd over c ex a b d e f=>by rw [OF]; exact DM sp sd over c ex a b d e f) (fun c r fs sp hc hcr hc6 S=>by rw [OE]; exact DL c r sp hc hcr hc6 S.len)
  (fun c r fs sp l n hc hcr hc6 S h0 h1=>by rw [OA]; exact DO c r _ _ _ _ sp [] S.sits hc hcr hc6 S.len l n h0 h1 (by decide))
  (fun c r w h T F C sp a b=>by rw [YK]; exact uL c r w h T F C sp a b) (fun c r w h T F S=>by rw [PQ]; exact aBt) (fun cell w h=>?_)
  (fun c r=>?_) (fun c r fs sps hc hr hcr S hne hl=>?_) (fun c r w h T F S hS=>?_) (fun c r w h T F x over i hb=>?_) (fun c r fs sp f S ok hl=>?_) (fun c r w h T F S x over i hS=>?_))
 ·rw [YJ,aHW rfl]
  exact DV
 ·obtain ⟨x,o,i,hb,e⟩:=K03.wY (G:=g35) (cell:=cell) (w:=w) (h:=h)
  exact ⟨x,o,i,hb,by rw [YI]; exact (aHV rfl).trans e⟩
 ·rw [xR,WZ rfl]
  exact K03.nG (k:="NoFold") (by rw [rS]; exact uK c r) rfl rfl rfl wN
 ·rw [xR,WZ rfl]
  exact K03.rG (by rw [rS]; exact aBu c r fs sps hc hr hcr S hne hl)
 ·rw [xR,WZ rfl]
  exact K03.nG (k:="Severed") (by rw [rS]; exact qY c r w h T F S hS) rfl rfl rfl wS
 ·rw [xQ,WY rfl]
  exact K03.uS (k:="NoFold") (by rw [rT]; exact rB c r w h T F x over i hb) rfl rfl rfl wN
 ·rw [xQ,WY rfl]
  exact K03.xH (lR (fun c r w h T F sd over k a1 a2 a3 a4 a5 a6 a7=>by rw [rT]; exact GB c r w h T F sd over k a1 a2 a3 a4 a5 a6 a7) S ok hl)
 ·rw [xQ,WY rfl]
  exact K03.uS (k:="Severed") (by rw [rT]; exact rA c r w h T F S hS x over i) rfl rfl rfl wS
end Toy
namespace Toy
open PySem L2 Z
theorem bn1 {K:PySem.W.Frag} {x q:Str} {st:Stmt} {f:Addr} {fd:FuncData} {ps:List Str} (F:Fun K x q st f fd) (l:ps.length=1) (h:∀ (kV doc pm:Value) (an:Option Addr) (cdv ct a:Value),bindArgs (PySem.W.fnOf x q (fI st) (bN st) (aC st) .none kV doc pm an cdv ct) ⟨[a],[]⟩=pure (ps.zip [a])):Binds K fd ps []:=F.binds fun _ _ _ _ _ _ us hl=>by
 match us,hl.trans l with
 | [a],_=>exact h _ _ _ _ _ _ a
theorem bn2 {K:PySem.W.Frag} {x q:Str} {st:Stmt} {f:Addr} {fd:FuncData} {ps:List Str} (F:Fun K x q st f fd) (l:ps.length=2) (h:∀ (kV doc pm:Value) (an:Option Addr) (cdv ct a b:Value),bindArgs (PySem.W.fnOf x q (fI st) (bN st) (aC st) .none kV doc pm an cdv ct) ⟨[a,b],[]⟩=pure (ps.zip [a,b])):Binds K fd ps []:=F.binds fun _ _ _ _ _ _ us hl=>by
 match us,hl.trans l with
 | [a,b],_=>exact h _ _ _ _ _ _ a b
theorem bn3 {K:PySem.W.Frag} {x q:Str} {st:Stmt} {f:Addr} {fd:FuncData} {ps:List Str} (F:Fun K x q st f fd) (l:ps.length=3) (h:∀ (kV doc pm:Value) (an:Option Addr) (cdv ct a b c:Value),bindArgs (PySem.W.fnOf x q (fI st) (bN st) (aC st) .none kV doc pm an cdv ct) ⟨[a,b,c],[]⟩=pure (ps.zip [a,b,c])):Binds K fd ps []:=F.binds fun _ _ _ _ _ _ us hl=>by
 match us,hl.trans l with
 | [a,b,c],_=>exact h _ _ _ _ _ _ a b c
theorem bn4 {K:PySem.W.Frag} {x q:Str} {st:Stmt} {f:Addr} {fd:FuncData} {ps:List Str} (F:Fun K x q st f fd) (l:ps.length=4) (h:∀ (kV doc pm:Value) (an:Option Addr) (cdv ct a b c d:Value),bindArgs (PySem.W.fnOf x q (fI st) (bN st) (aC st) .none kV doc pm an cdv ct) ⟨[a,b,c,d],[]⟩=pure (ps.zip [a,b,c,d])):Binds K fd ps []:=F.binds fun _ _ _ _ _ _ us hl=>by
 match us,hl.trans l with
 | [a,b,c,d],_=>exact h _ _ _ _ _ _ a b c d
theorem bn5 {K:PySem.W.Frag} {x q:Str} {st:Stmt} {f:Addr} {fd:FuncData} {ps:List Str} (F:Fun K x q st f fd) (l:ps.length=5) (h:∀ (kV doc pm:Value) (an:Option Addr) (cdv ct a b c d e:Value),bindArgs (PySem.W.fnOf x q (fI st) (bN st) (aC st) .none kV doc pm an cdv ct) ⟨[a,b,c,d,e],[]⟩=pure (ps.zip [a,b,c,d,e])):Binds K fd ps []:=F.binds fun _ _ _ _ _ _ us hl=>by
 match us,hl.trans l with
 | [a,b,c,d,e],_=>exact h _ _ _ _ _ _ a b c d e
theorem bn6 {K:PySem.W.Frag} {x q:Str} {st:Stmt} {f:Addr} {fd:FuncData} {ps:List Str} (F:Fun K x q st f fd) (l:ps.length=6) (h:∀ (kV doc pm:Value) (an:Option Addr) (cdv ct a b c d e f:Value),bindArgs (PySem.W.fnOf x q (fI st) (bN st) (aC st) .none kV doc pm an cdv ct) ⟨[a,b,c,d,e,f],[]⟩=pure (ps.zip [a,b,c,d,e,f])):Binds K fd ps []:=F.binds fun _ _ _ _ _ _ us hl=>by
 match us,hl.trans l with
 | [a,b,c,d,e,f],_=>exact h _ _ _ _ _ _ a b c d e f
section
variable (P:Params)
theorem VU:Fun (KK P) "laid" "laid" (top 16) 166 sO:=⟨⟨_,_,_,_,_,_,_,_,_,rfl,(by kernel_rfl:(KK P).lookup 166=some (UZ P)),by kernel_rfl⟩,by kernel_rfl⟩
theorem aGC:Binds (KK P) sO LL []:=bn2 (VU P) rfl fun _ _ _ _ _ _ _ _=>rfl
theorem VZ:Fun (KK P) "laid_row" "laid_row" (top 17) 171 sU:=⟨⟨_,_,_,_,_,_,_,_,_,rfl,(by kernel_rfl:(KK P).lookup 171=some (UY P)),by kernel_rfl⟩,by kernel_rfl⟩
theorem aGI:Binds (KK P) sU LR []:=bn2 (VZ P) rfl fun _ _ _ _ _ _ _ _=>rfl
theorem VV:Fun (KK P) "folded" "folded" (top 18) 178 sQ:=⟨⟨_,_,_,_,_,_,_,_,_,rfl,(by kernel_rfl:(KK P).lookup 178=some (UX P)),by kernel_rfl⟩,by kernel_rfl⟩
theorem aGE:Binds (KK P) sQ LN []:=bn4 (VV P) rfl fun _ _ _ _ _ _ _ _ _ _=>rfl
theorem VX:Fun (KK P) "undone" "undone" (top 19) 185 sS:=⟨⟨_,_,_,_,_,_,_,_,_,rfl,(by kernel_rfl:(KK P).lookup 185=some (UW P)),by kernel_rfl⟩,by kernel_rfl⟩
theorem aGG:Binds (KK P) sS LP []:=bn1 (VX P) rfl fun _ _ _ _ _ _ _=>rfl
theorem aHn:Fun (KK P) "refuse_severed" "refuse_severed" (top 20) 192 BD:=⟨⟨_,_,_,_,_,_,_,_,_,rfl,(by kernel_rfl:(KK P).lookup 192=some (UV P)),by kernel_rfl⟩,by kernel_rfl⟩
theorem aJC:Binds (KK P) BD aBe []:=bn1 (aHn P) rfl fun _ _ _ _ _ _ _=>rfl
theorem WI:Fun (KK P) "has_crease" "has_crease" (top 21) 199 tG:=⟨⟨_,_,_,_,_,_,_,_,_,rfl,(by kernel_rfl:(KK P).lookup 199=some (UU P)),by kernel_rfl⟩,by kernel_rfl⟩
theorem aGQ:Binds (KK P) tG LZ []:=bn3 (WI P) rfl fun _ _ _ _ _ _ _ _ _=>rfl
theorem WT:Fun (KK P) "folded_table" "folded_table" (top 22) 204 tR:=⟨⟨_,_,_,_,_,_,_,_,_,rfl,(by kernel_rfl:(KK P).lookup 204=some (UT P)),by kernel_rfl⟩,by kernel_rfl⟩
theorem aHa:Binds (KK P) tR MJ []:=bn4 (WT P) rfl fun _ _ _ _ _ _ _ _ _ _=>rfl
theorem WH:Fun (KK P) "transposed" "transposed" (top 23) 209 tF:=⟨⟨_,_,_,_,_,_,_,_,_,rfl,(by kernel_rfl:(KK P).lookup 209=some (US P)),by kernel_rfl⟩,by kernel_rfl⟩
theorem aGP:Binds (KK P) tF LY []:=bn1 (WH P) rfl fun _ _ _ _ _ _ _=>rfl
theorem WB:Fun (KK P) "column_of" "column_of" (top 24) 214 sV:=⟨⟨_,_,_,_,_,_,_,_,_,rfl,(by kernel_rfl:(KK P).lookup 214=some (UR P)),by kernel_rfl⟩,by kernel_rfl⟩
theorem aGK:Binds (KK P) sV LS []:=bn2 (WB P) rfl fun _ _ _ _ _ _ _ _=>rfl
theorem aHh:Fun (KK P) "folded_strip" "folded_strip" (top 25) 221 AX:=⟨⟨_,_,_,_,_,_,_,_,_,rfl,(by kernel_rfl:(KK P).lookup 221=some (UQ P)),by kernel_rfl⟩,by kernel_rfl⟩
theorem aJw:Binds (KK P) AX aAY []:=bn4 (aHh P) rfl fun _ _ _ _ _ _ _ _ _ _=>rfl
theorem WM:Fun (KK P) "turned_part" "turned_part" (top 26) 226 tL:=⟨⟨_,_,_,_,_,_,_,_,_,rfl,(by kernel_rfl:(KK P).lookup 226=some (UP P)),by kernel_rfl⟩,by kernel_rfl⟩
theorem aGU:Binds (KK P) tL MD []:=bn2 (WM P) rfl fun _ _ _ _ _ _ _ _=>rfl
theorem WQ:Fun (KK P) "turned_heap" "turned_heap" (top 27) 231 tO:=⟨⟨_,_,_,_,_,_,_,_,_,rfl,(by kernel_rfl:(KK P).lookup 231=some (UO P)),by kernel_rfl⟩,by kernel_rfl⟩
theorem aGX:Binds (KK P) tO MG []:=bn2 (WQ P) rfl fun _ _ _ _ _ _ _ _=>rfl
theorem aHk:Fun (KK P) "laid_together" "laid_together" (top 28) 236 BA:=⟨⟨_,_,_,_,_,_,_,_,_,rfl,(by kernel_rfl:(KK P).lookup 236=some (UN P)),by kernel_rfl⟩,by kernel_rfl⟩
theorem aJz:Binds (KK P) BA aBb []:=bn3 (aHk P) rfl fun _ _ _ _ _ _ _ _ _=>rfl
theorem VY:Fun (KK P) "heap_at" "heap_at" (top 29) 243 sT:=⟨⟨_,_,_,_,_,_,_,_,_,rfl,(by kernel_rfl:(KK P).lookup 243=some (UM P)),by kernel_rfl⟩,by kernel_rfl⟩
theorem aGH:Binds (KK P) sT LQ []:=bn2 (VY P) rfl fun _ _ _ _ _ _ _ _=>rfl
theorem VW:Fun (KK P) "joints" "joints" (top 31) 248 sR:=⟨⟨_,_,_,_,_,_,_,_,_,rfl,(by kernel_rfl:(KK P).lookup 248=some (UL P)),by kernel_rfl⟩,by kernel_rfl⟩
theorem aGF:Binds (KK P) sR LO []:=bn1 (VW P) rfl fun _ _ _ _ _ _ _=>rfl
theorem WJ:Fun (KK P) "all_joints" "all_joints" (top 32) 255 tH:=⟨⟨_,_,_,_,_,_,_,_,_,rfl,(by kernel_rfl:(KK P).lookup 255=some (UK P)),by kernel_rfl⟩,by kernel_rfl⟩
theorem aGR:Binds (KK P) tH MA []:=bn1 (WJ P) rfl fun _ _ _ _ _ _ _=>rfl
theorem WK:Fun (KK P) "neighbours" "neighbours" (top 33) 262 tJ:=⟨⟨_,_,_,_,_,_,_,_,_,rfl,(by kernel_rfl:(KK P).lookup 262=some (UJ P)),by kernel_rfl⟩,by kernel_rfl⟩
theorem aGS:Binds (KK P) tJ MB []:=bn2 (WK P) rfl fun _ _ _ _ _ _ _ _=>rfl
theorem WL:Fun (KK P) "edge_lines" "edge_lines" (top 34) 269 tK:=⟨⟨_,_,_,_,_,_,_,_,_,rfl,(by kernel_rfl:(KK P).lookup 269=some (UI P)),by kernel_rfl⟩,by kernel_rfl⟩
theorem aGT:Binds (KK P) tK MC []:=bn1 (WL P) rfl fun _ _ _ _ _ _ _=>rfl
theorem VS:Fun (KK P) "cut" "cut" (top 35) 274 sM:=⟨⟨_,_,_,_,_,_,_,_,_,rfl,(by kernel_rfl:(KK P).lookup 274=some (UH P)),by kernel_rfl⟩,by kernel_rfl⟩
theorem aGz:Binds (KK P) sM LJ []:=bn3 (VS P) rfl fun _ _ _ _ _ _ _ _ _=>rfl
theorem WR:Fun (KK P) "_law_cell_at" "_law_cell_at" (top 37) 281 tP:=⟨⟨_,_,_,_,_,_,_,_,_,rfl,(by kernel_rfl:(KK P).lookup 281=some (UG P)),by kernel_rfl⟩,by kernel_rfl⟩
theorem aGY:Binds (KK P) tP MH []:=bn2 (WR P) rfl fun _ _ _ _ _ _ _ _=>rfl
theorem WG:Fun (KK P) "_law_whole" "_law_whole" (top 38) 288 sZ:=⟨⟨_,_,_,_,_,_,_,_,_,rfl,(by kernel_rfl:(KK P).lookup 288=some (UF P)),by kernel_rfl⟩,by kernel_rfl⟩
theorem aGO:Binds (KK P) sZ LX []:=bn1 (WG P) rfl fun _ _ _ _ _ _ _=>rfl
theorem aHj:Fun (KK P) "_law_sheet_by" "_law_sheet_by" (top 39) 295 AZ:=⟨⟨_,_,_,_,_,_,_,_,_,rfl,(by kernel_rfl:(KK P).lookup 295=some (UE P)),by kernel_rfl⟩,by kernel_rfl⟩
theorem aJy:Binds (KK P) AZ aBa []:=bn1 (aHj P) rfl fun _ _ _ _ _ _ _=>rfl
theorem WC:Fun (KK P) "_law_flat" "_law_flat" (top 40) 300 sW:=⟨⟨_,_,_,_,_,_,_,_,_,rfl,(by kernel_rfl:(KK P).lookup 300=some (UD P)),by kernel_rfl⟩,by kernel_rfl⟩
theorem aGL:Binds (KK P) sW LU []:=bn2 (WC P) rfl fun _ _ _ _ _ _ _ _=>rfl
theorem WE:Fun (KK P) "_law_spot" "_law_spot" (top 41) 307 sY:=⟨⟨_,_,_,_,_,_,_,_,_,rfl,(by kernel_rfl:(KK P).lookup 307=some (UC P)),by kernel_rfl⟩,by kernel_rfl⟩
theorem aGN:Binds (KK P) sY LW []:=bn5 (WE P) rfl fun _ _ _ _ _ _ _ _ _ _ _=>rfl
theorem WO:Fun (KK P) "_law_folded" "_law_folded" (top 42) 312 tN:=⟨⟨_,_,_,_,_,_,_,_,_,rfl,(by kernel_rfl:(KK P).lookup 312=some (UB P)),by kernel_rfl⟩,by kernel_rfl⟩
theorem aGW:Binds (KK P) tN MF []:=bn2 (WO P) rfl fun _ _ _ _ _ _ _ _=>rfl
theorem WS:Fun (KK P) "_law_fold_by" "_law_fold_by" (top 43) 319 tQ:=⟨⟨_,_,_,_,_,_,_,_,_,rfl,(by kernel_rfl:(KK P).lookup 319=some (UA P)),by kernel_rfl⟩,by kernel_rfl⟩
theorem aGZ:Binds (KK P) tQ MI []:=bn3 (WS P) rfl fun _ _ _ _ _ _ _ _ _=>rfl
theorem WD:Fun (KK P) "_law_heap" "_law_heap" (top 44) 324 sX:=⟨⟨_,_,_,_,_,_,_,_,_,rfl,(by kernel_rfl:(KK P).lookup 324=some (TZ P)),by kernel_rfl⟩,by kernel_rfl⟩
theorem aGM:Binds (KK P) sX LV []:=bn3 (WD P) rfl fun _ _ _ _ _ _ _ _ _=>rfl
theorem aHl:Fun (KK P) "_law_same_heap" "_law_same_heap" (top 45) 331 BB:=⟨⟨_,_,_,_,_,_,_,_,_,rfl,(by kernel_rfl:(KK P).lookup 331=some (TY P)),by kernel_rfl⟩,by kernel_rfl⟩
theorem aJA:Binds (KK P) BB aBc []:=bn2 (aHl P) rfl fun _ _ _ _ _ _ _ _=>rfl
theorem aHm:Fun (KK P) "_law_same_pile" "_law_same_pile" (top 46) 336 BC:=⟨⟨_,_,_,_,_,_,_,_,_,rfl,(by kernel_rfl:(KK P).lookup 336=some (TX P)),by kernel_rfl⟩,by kernel_rfl⟩
theorem aJB:Binds (KK P) BC aBd []:=bn4 (aHm P) rfl fun _ _ _ _ _ _ _ _ _ _=>rfl
theorem aHg:Fun (KK P) "_law_word_of" "_law_word_of" (top 47) 343 AW:=⟨⟨_,_,_,_,_,_,_,_,_,rfl,(by kernel_rfl:(KK P).lookup 343=some (TV P)),by kernel_rfl⟩,by kernel_rfl⟩
theorem aJv:Binds (KK P) AW (["e"]:List Str) []:=bn1 (aHg P) rfl fun _ _ _ _ _ _ _=>rfl
theorem aHo:Fun (KK P) "_law_fold_tried" "_law_fold_tried" (top 48) 350 BE:=⟨⟨_,_,_,_,_,_,_,_,_,rfl,(by kernel_rfl:(KK P).lookup 350=some (TR P)),by kernel_rfl⟩,by kernel_rfl⟩
theorem aJD:Binds (KK P) BE aBf []:=bn4 (aHo P) rfl fun _ _ _ _ _ _ _ _ _ _=>rfl
theorem aHp:Fun (KK P) "_law_undoing_tried" "_law_undoing_tried" (top 49) 357 BG:=⟨⟨_,_,_,_,_,_,_,_,_,rfl,(by kernel_rfl:(KK P).lookup 357=some (TQ P)),by kernel_rfl⟩,by kernel_rfl⟩
theorem aJE:Binds (KK P) BG aBg []:=bn1 (aHp P) rfl fun _ _ _ _ _ _ _=>rfl
theorem WN:Fun (KK P) "_law_joints" "_law_joints" (top 50) 364 tM:=⟨⟨_,_,_,_,_,_,_,_,_,rfl,(by kernel_rfl:(KK P).lookup 364=some (TN P)),by kernel_rfl⟩,by kernel_rfl⟩
theorem aGV:Binds (KK P) tM ME []:=bn3 (WN P) rfl fun _ _ _ _ _ _ _ _ _=>rfl
theorem aHi:Fun (KK P) "_law_bad_fold" "_law_bad_fold" (top 51) 371 AY:=⟨⟨_,_,_,_,_,_,_,_,_,rfl,(by kernel_rfl:(KK P).lookup 371=some (TM P)),by kernel_rfl⟩,by kernel_rfl⟩
theorem aJx:Binds (KK P) AY aAZ []:=bn3 (aHi P) rfl fun _ _ _ _ _ _ _ _ _=>rfl
theorem VT:Fun (KK P) "law" "law" (top 52) 376 oI:=⟨⟨_,_,_,_,_,_,_,_,_,rfl,(by kernel_rfl:(KK P).lookup 376=some (TL P)),by kernel_rfl⟩,by kernel_rfl⟩
theorem aGA:Binds (KK P) oI qU []:=bn1 (VT P) rfl fun _ _ _ _ _ _ _=>rfl
theorem WA:Fun (KK P) "__init__" "Pile.__init__" (L2.inClass (top 15) 0) 140 zB:=⟨⟨_,_,_,_,_,_,_,_,_,rfl,(by kernel_rfl:(KK P).lookup 140=some (VC P)),by kernel_rfl⟩,by kernel_rfl⟩
theorem aGJ:Binds (KK P) zB (["self","columns","rows","table","folds","severed"]:List Str) []:=bn6 (WA P) rfl fun _ _ _ _ _ _ _ _ _ _ _ _=>rfl
theorem MY:Fun (KK P) "heap" "Pile.heap" (L2.inClass (top 15) 1) 147 sN:=⟨⟨_,_,_,_,_,_,_,_,_,rfl,(by kernel_rfl:(KK P).lookup 147=some (VB P)),by kernel_rfl⟩,by kernel_rfl⟩
theorem aGB:Binds (KK P) sN LK []:=bn3 (MY P) rfl fun _ _ _ _ _ _ _ _ _=>rfl
theorem MZ:Fun (KK P) "done" "Pile.done" (L2.inClass (top 15) 2) 154 sP:=⟨⟨_,_,_,_,_,_,_,_,_,rfl,(by kernel_rfl:(KK P).lookup 154=some (VA P)),by kernel_rfl⟩,by kernel_rfl⟩
theorem aGD:Binds (KK P) sP LM []:=bn1 (MZ P) rfl fun _ _ _ _ _ _ _=>rfl
theorem aHr:Mt (KK P) 157 "heap" "Pile.heap" (L2.inClass (top 15) 1) LK 147 sN:=⟨MY P,⟨by kernel_rfl,by kernel_rfl,(MY P).kp⟩,aGB P⟩
theorem aHt:Mt (KK P) 157 "done" "Pile.done" (L2.inClass (top 15) 2) LM 154 sP:=⟨MZ P,⟨by kernel_rfl,by kernel_rfl,(MZ P).kp⟩,aGD P⟩
theorem aAs:Mk (KK P) 157 140:=⟨by kernel_rfl,by kernel_rfl,by kernel_rfl,by kernel_rfl⟩
theorem LA:Cls (KK P) 157:=⟨by kernel_rfl,by kernel_rfl,by kernel_rfl,by kernel_rfl⟩
theorem IM:∀ f,(vW "Pile").contains f=true→dZ (KK P) 157 f:=by
 intro f hf
 have hf':f ∈ vW "Pile":=by simpa using hf
 rw [show vW "Pile" = (["columns","rows","wide","high","table","folds","severed"]:List Str) from if_pos rfl] at hf'
 simp only [List.mem_cons,List.not_mem_nil,or_false] at hf'
 rcases hf' with rfl|rfl|rfl|rfl|rfl|rfl|rfl
 ·exact (by kernel_rfl:PySem.W.findIn (KK P) (.ref 157) "columns" = some none)
 ·exact (by kernel_rfl:PySem.W.findIn (KK P) (.ref 157) "rows" = some none)
 ·exact (by kernel_rfl:PySem.W.findIn (KK P) (.ref 157) "wide" = some none)
 ·exact (by kernel_rfl:PySem.W.findIn (KK P) (.ref 157) "high" = some none)
 ·exact (by kernel_rfl:PySem.W.findIn (KK P) (.ref 157) "table" = some none)
 ·exact (by kernel_rfl:PySem.W.findIn (KK P) (.ref 157) "folds" = some none)
 ·exact (by kernel_rfl:PySem.W.findIn (KK P) (.ref 157) "severed" = some none)
variable {P}{h:Heap}{mg:Str→Option Value}(X:(KK P).In h)(G:h.Ns mainGlobals mg)
include X G
theorem aHs:Df (KK P) mg "laid" (top 16) LL 166 sO:=⟨VU P,PySem.W.mg_of X G (by kernel_rfl),aGC P⟩
theorem aHy:Df (KK P) mg "laid_row" (top 17) LR 171 sU:=⟨VZ P,PySem.W.mg_of X G (by kernel_rfl),aGI P⟩
theorem aHu:Df (KK P) mg "folded" (top 18) LN 178 sQ:=⟨VV P,PySem.W.mg_of X G (by kernel_rfl),aGE P⟩
theorem aHw:Df (KK P) mg "undone" (top 19) LP 185 sS:=⟨VX P,PySem.W.mg_of X G (by kernel_rfl),aGG P⟩
theorem aJP:Df (KK P) mg "refuse_severed" (top 20) aBe 192 BD:=⟨aHn P,PySem.W.mg_of X G (by kernel_rfl),aJC P⟩
theorem aHF:Df (KK P) mg "has_crease" (top 21) LZ 199 tG:=⟨WI P,PySem.W.mg_of X G (by kernel_rfl),aGQ P⟩
theorem aHP:Df (KK P) mg "folded_table" (top 22) MJ 204 tR:=⟨WT P,PySem.W.mg_of X G (by kernel_rfl),aHa P⟩
theorem aHE:Df (KK P) mg "transposed" (top 23) LY 209 tF:=⟨WH P,PySem.W.mg_of X G (by kernel_rfl),aGP P⟩
theorem aHz:Df (KK P) mg "column_of" (top 24) LS 214 sV:=⟨WB P,PySem.W.mg_of X G (by kernel_rfl),aGK P⟩
theorem aJJ:Df (KK P) mg "folded_strip" (top 25) aAY 221 AX:=⟨aHh P,PySem.W.mg_of X G (by kernel_rfl),aJw P⟩
theorem aHJ:Df (KK P) mg "turned_part" (top 26) MD 226 tL:=⟨WM P,PySem.W.mg_of X G (by kernel_rfl),aGU P⟩
theorem aHM:Df (KK P) mg "turned_heap" (top 27) MG 231 tO:=⟨WQ P,PySem.W.mg_of X G (by kernel_rfl),aGX P⟩
theorem aJM:Df (KK P) mg "laid_together" (top 28) aBb 236 BA:=⟨aHk P,PySem.W.mg_of X G (by kernel_rfl),aJz P⟩
theorem aHx:Df (KK P) mg "heap_at" (top 29) LQ 243 sT:=⟨VY P,PySem.W.mg_of X G (by kernel_rfl),aGH P⟩
theorem aHv:Df (KK P) mg "joints" (top 31) LO 248 sR:=⟨VW P,PySem.W.mg_of X G (by kernel_rfl),aGF P⟩
theorem aHG:Df (KK P) mg "all_joints" (top 32) MA 255 tH:=⟨WJ P,PySem.W.mg_of X G (by kernel_rfl),aGR P⟩
theorem aHH:Df (KK P) mg "neighbours" (top 33) MB 262 tJ:=⟨WK P,PySem.W.mg_of X G (by kernel_rfl),aGS P⟩
theorem aHI:Df (KK P) mg "edge_lines" (top 34) MC 269 tK:=⟨WL P,PySem.W.mg_of X G (by kernel_rfl),aGT P⟩
theorem aHq:Df (KK P) mg "cut" (top 35) LJ 274 sM:=⟨VS P,PySem.W.mg_of X G (by kernel_rfl),aGz P⟩
theorem aHN:Df (KK P) mg "_law_cell_at" (top 37) MH 281 tP:=⟨WR P,PySem.W.mg_of X G (by kernel_rfl),aGY P⟩
theorem aHD:Df (KK P) mg "_law_whole" (top 38) LX 288 sZ:=⟨WG P,PySem.W.mg_of X G (by kernel_rfl),aGO P⟩
theorem aJL:Df (KK P) mg "_law_sheet_by" (top 39) aBa 295 AZ:=⟨aHj P,PySem.W.mg_of X G (by kernel_rfl),aJy P⟩
theorem aHA:Df (KK P) mg "_law_flat" (top 40) LU 300 sW:=⟨WC P,PySem.W.mg_of X G (by kernel_rfl),aGL P⟩
theorem aHC:Df (KK P) mg "_law_spot" (top 41) LW 307 sY:=⟨WE P,PySem.W.mg_of X G (by kernel_rfl),aGN P⟩
theorem aHL:Df (KK P) mg "_law_folded" (top 42) MF 312 tN:=⟨WO P,PySem.W.mg_of X G (by kernel_rfl),aGW P⟩
theorem aHO:Df (KK P) mg "_law_fold_by" (top 43) MI 319 tQ:=⟨WS P,PySem.W.mg_of X G (by kernel_rfl),aGZ P⟩
theorem aHB:Df (KK P) mg "_law_heap" (top 44) LV 324 sX:=⟨WD P,PySem.W.mg_of X G (by kernel_rfl),aGM P⟩
theorem aJN:Df (KK P) mg "_law_same_heap" (top 45) aBc 331 BB:=⟨aHl P,PySem.W.mg_of X G (by kernel_rfl),aJA P⟩
theorem aJO:Df (KK P) mg "_law_same_pile" (top 46) aBd 336 BC:=⟨aHm P,PySem.W.mg_of X G (by kernel_rfl),aJB P⟩
theorem aJI:Df (KK P) mg "_law_word_of" (top 47) (["e"]:List Str) 343 AW:=⟨aHg P,PySem.W.mg_of X G (by kernel_rfl),aJv P⟩
theorem aJQ:Df (KK P) mg "_law_fold_tried" (top 48) aBf 350 BE:=⟨aHo P,PySem.W.mg_of X G (by kernel_rfl),aJD P⟩
theorem aJR:Df (KK P) mg "_law_undoing_tried" (top 49) aBg 357 BG:=⟨aHp P,PySem.W.mg_of X G (by kernel_rfl),aJE P⟩
theorem aHK:Df (KK P) mg "_law_joints" (top 50) ME 364 tM:=⟨WN P,PySem.W.mg_of X G (by kernel_rfl),aGV P⟩
theorem aJK:Df (KK P) mg "_law_bad_fold" (top 51) aAZ 371 AY:=⟨aHi P,PySem.W.mg_of X G (by kernel_rfl),aJx P⟩
theorem WU:Df (KK P) mg "law" (top 52) qU 376 oI:=⟨VT P,PySem.W.mg_of X G (by kernel_rfl),aGA P⟩
theorem aAu:∀ x,fK.contains x=true→mg x=none:=by
 intro x hx
 have hx':x ∈ fK:=by simpa using hx
 simp only [fK,List.mem_cons,List.not_mem_nil,or_false] at hx'
 rcases hx' with rfl|rfl|rfl|rfl|rfl|rfl|rfl|rfl|rfl|rfl|rfl|rfl|rfl|rfl|rfl
 ·exact PySem.W.mg_none_of X G (by kernel_rfl)
 ·exact PySem.W.mg_none_of X G (by kernel_rfl)
 ·exact PySem.W.mg_none_of X G (by kernel_rfl)
 ·exact PySem.W.mg_none_of X G (by kernel_rfl)
 ·exact PySem.W.mg_none_of X G (by kernel_rfl)
 ·exact PySem.W.mg_none_of X G (by kernel_rfl)
 ·exact PySem.W.mg_none_of X G (by kernel_rfl)
 ·exact PySem.W.mg_none_of X G (by kernel_rfl)
 ·exact PySem.W.mg_none_of X G (by kernel_rfl)
 ·exact PySem.W.mg_none_of X G (by kernel_rfl)
 ·exact PySem.W.mg_none_of X G (by kernel_rfl)
 ·exact PySem.W.mg_none_of X G (by kernel_rfl)
 ·exact PySem.W.mg_none_of X G (by kernel_rfl)
 ·exact PySem.W.mg_none_of X G (by kernel_rfl)
 ·exact PySem.W.mg_none_of X G (by kernel_rfl)
theorem aGg {T:Tx}:∀ x d,csts.lookup x=some d→xD (KK P) T mg x d:=by
 intro x d hx
 have hx':(x,d) ∈ csts:=PySem.mem_of_lookup hx
 simp only [csts,List.mem_cons,List.not_mem_nil,or_false,Prod.mk.injEq] at hx'
 rcases hx' with ⟨rfl,rfl⟩|⟨rfl,rfl⟩|⟨rfl,rfl⟩|⟨rfl,rfl⟩
 ·exact SD (PySem.W.mg_of X G (by kernel_rfl:PySem.W.nsIn (KK P) mainGlobals "MOST_CELLS" = some (some (.int 64 337))))
 ·have u:(KK P).lookup 124=some ⟨(.type "tuple"),none,(.seq #[(.str "west" 339),(.str "east" 340)] 0),#[]⟩:=by kernel_rfl
  exact tZ (xs:=[.str "west",.str "east"]) (PySem.W.mg_of X G (by kernel_rfl:PySem.W.nsIn (KK P) mainGlobals "UPRIGHT_SIDES" = some (some (.ref 124)))) (fun H=>.inr ⟨_,_,_,u,rfl,rfl,by show 2≤sizeLine; rw [sizeLine_eq]; decide,.cons ⟨_,rfl⟩ (.cons ⟨_,rfl⟩ .nil)⟩) ⟨_,u⟩ fun H S=>aD.cons (by exact rfl) (aD.cons (by exact rfl) aD.nil)
 ·have u:(KK P).lookup 125=some ⟨(.type "tuple"),none,(.seq #[(.str "north" 342),(.str "south" 343)] 0),#[]⟩:=by kernel_rfl
  exact tZ (xs:=[.str "north",.str "south"]) (PySem.W.mg_of X G (by kernel_rfl:PySem.W.nsIn (KK P) mainGlobals "LEVEL_SIDES" = some (some (.ref 125)))) (fun H=>.inr ⟨_,_,_,u,rfl,rfl,by show 2≤sizeLine; rw [sizeLine_eq]; decide,.cons ⟨_,rfl⟩ (.cons ⟨_,rfl⟩ .nil)⟩) ⟨_,u⟩ fun H S=>aD.cons (by exact rfl) (aD.cons (by exact rfl) aD.nil)
 ·have u:(KK P).lookup 126=some ⟨(.type "tuple"),none,(.seq #[(.str "west" 345),(.str "north" 346)] 0),#[]⟩:=by kernel_rfl
  exact tZ (xs:=[.str "west",.str "north"]) (PySem.W.mg_of X G (by kernel_rfl:PySem.W.nsIn (KK P) mainGlobals "NEAR_SIDES" = some (some (.ref 126)))) (fun H=>.inr ⟨_,_,_,u,rfl,rfl,by show 2≤sizeLine; rw [sizeLine_eq]; decide,.cons ⟨_,rfl⟩ (.cons ⟨_,rfl⟩ .nil)⟩) ⟨_,u⟩ fun H S=>aD.cons (by exact rfl) (aD.cons (by exact rfl) aD.nil)
end
def uY (K:PySem.W.Frag):Sp:=fun vs H Q _=>∃ (a:Addr) (ns:List Int),vs=[.ref a]∧SqL K H a (ns.map V.int)∧ns.length≤63∧∀ H',Q (.bl true) H'
theorem pS {K:PySem.W.Frag} {T:Tx} {H:Hp} {S:Addr→Prop}:∀ ns:List Int,aD K T H S (ns.map D.int) (ns.map V.int)
 | []=>aD.nil
 | n::ns=>aD.cons (by exact rfl) (pS ns)
theorem aAh {P:Program} {w:World} {K:PySem.W.Frag} {mg:Str→Option Value} {base:Heap} {T:Tx} {k:Nat} {f:Addr} {fd:FuncData} {fr:Bool} (F:FnOk P w K mg base (gG P w) k f fd qU (spD K T 1 vX fr)) (hk:k≤60):FnOk P w K mg base CX0 60 f fd ["script"] (uY K):=by
 have key:∀ vs H Q E,uY K vs H Q E→spD K T 1 vX fr vs H Q E0:=by
  rintro vs H Q E ⟨a,ns,rfl,hS,hl,q⟩
  refine ⟨rfl,fun _=>False,[.frz (ns.map D.int)],fun _ z=>z.elim,aD.cons (show Exists _ from ⟨a,ns.map V.int,rfl,fun z=>z,hS,pS ns⟩) aD.nil,.inl ⟨.bl true,law_true ns hl,fun v H' sm r _=>?_⟩⟩
  obtain rfl:=r
  exact q H'
 refine ⟨fun vs H Q E hs=>F.len _ _ _ _ (key vs H Q E hs),fun A outer s H args us vs Q E hr e0 hb hv hs=>?_⟩
 refine codeAny_mono (F.run A outer s H args us vs Q E0 (hr.mono hk) e0 hb hv (key vs H Q E hs)) fun r s' hq=>?_
 cases r with
 | error e=>exact (VN _ _ _ _ _ hq).elim
 | ok fl=>cases fl<;>exact hq
def cs (y:Str):Addr:=if y = "LeafError" then 24 else if y = "NoSheet" then 37 else if y = "NoFold" then 49 else if y = "NoPlace" then 61 else if y = "Ajar" then 73 else if y = "Severed" then 85 else if y = "Bolted" then 97 else if y = "Loose" then 109 else if y = "NoWord" then 121 else 0
section
variable {P:Params}
theorem uA:cs "LeafError" = 24:=by kernel_rfl
theorem zI:cs "NoSheet" = 37:=by kernel_rfl
theorem qK:cs "NoFold" = 49:=by kernel_rfl
theorem zJ:cs "NoPlace" = 61:=by kernel_rfl
theorem SE:cs "Ajar" = 73:=by kernel_rfl
theorem oQ:cs "Severed" = 85:=by kernel_rfl
theorem FR:cs "Bolted" = 97:=by kernel_rfl
theorem KS:cs "Loose" = 109:=by kernel_rfl
theorem FQ:cs "NoWord" = 121:=by kernel_rfl
theorem hxs:∀ k,xcs.contains k=true→k = "LeafError"∨k = "NoFold"∨k = "Severed":=by
 intro k hk
 have hk':k ∈ xcs:=by simpa using hk
 simpa only [xcs,List.mem_cons,List.not_mem_nil,or_false] using hk'
theorem hxk:∀ k,xcs.contains k=true→PySem.W.excIn (KK P) (cs k) bmV "ValueError.__new__" = true:=by
 intro k hk
 rcases hxs k hk with rfl|rfl|rfl
 ·exact (by kernel_rfl:PySem.W.excIn (KK P) (cs "LeafError") bmV "ValueError.__new__" = true)
 ·exact (by kernel_rfl:PySem.W.excIn (KK P) (cs "NoFold") bmV "ValueError.__new__" = true)
 ·exact (by kernel_rfl:PySem.W.excIn (KK P) (cs "Severed") bmV "ValueError.__new__" = true)
theorem mP:∀ k k',xcs.contains k=true→xcs.contains k'=true→XG k k'=true→eF (KK P) (cs k) (.ref (cs k'))=true:=by
 intro k k' hk hk' hs
 rcases hxs k hk with rfl|rfl|rfl
 ·rcases hxs k' hk' with rfl|rfl|rfl
  ·exact (by kernel_rfl:eF (KK P) (cs "LeafError") (.ref (cs "LeafError"))=true)
  ·exact nomatch (show false=true from hs)
  ·exact nomatch (show false=true from hs)
 ·rcases hxs k' hk' with rfl|rfl|rfl
  ·exact (by kernel_rfl:eF (KK P) (cs "NoFold") (.ref (cs "LeafError"))=true)
  ·exact (by kernel_rfl:eF (KK P) (cs "NoFold") (.ref (cs "NoFold"))=true)
  ·exact nomatch (show false=true from hs)
 ·rcases hxs k' hk' with rfl|rfl|rfl
  ·exact (by kernel_rfl:eF (KK P) (cs "Severed") (.ref (cs "LeafError"))=true)
  ·exact nomatch (show false=true from hs)
  ·exact (by kernel_rfl:eF (KK P) (cs "Severed") (.ref (cs "Severed"))=true)
theorem aAt:∀ k,xcs.contains k=true→∀ j,bF.idxOf? k=some j→(k = "NoFold"∧j=1)∨(k = "Severed"∧j=4):=by
 intro k hk j hj
 rcases hxs k hk with rfl|rfl|rfl
 ·rw [show bF.idxOf? ("LeafError":Str)=none from by decide +kernel] at hj; cases hj
 ·exact .inl ⟨rfl,Option.some.inj (hj.symm.trans (by decide +kernel))⟩
 ·exact .inr (⟨rfl,Option.some.inj (hj.symm.trans (by decide +kernel))⟩)
theorem hX:∀ k,xcs.contains k=true→∀ (j:Nat),bF.idxOf? k=some j→XcK (KK P) (cs k):=by
 intro k hk j hj
 rcases aAt k hk j hj with ⟨rfl,rfl⟩|⟨rfl,rfl⟩
 ·rw [qK]; exact ⟨by kernel_rfl,by kernel_rfl,by kernel_rfl,by kernel_rfl,by kernel_rfl,by kernel_rfl,by kernel_rfl⟩
 ·rw [oQ]; exact ⟨by kernel_rfl,by kernel_rfl,by kernel_rfl,by kernel_rfl,by kernel_rfl,by kernel_rfl,by kernel_rfl⟩
theorem hv:∀ k,xcs.contains k=true→∀ (j:Nat),bF.idxOf? k=some j→PySem.W.kitOne (KK P) (.ref (cs k)) (.type "ValueError")=some true:=by
 intro k hk j hj
 rcases aAt k hk j hj with ⟨rfl,rfl⟩|⟨rfl,rfl⟩
 ·exact (by kernel_rfl:PySem.W.kitOne (KK P) (.ref (cs "NoFold")) (.type "ValueError")=some true)
 ·exact (by kernel_rfl:PySem.W.kitOne (KK P) (.ref (cs "Severed")) (.type "ValueError")=some true)
theorem hkt:∀ k,xcs.contains k=true→∀ (j:Nat),bF.idxOf? k=some j→∀ (i:Nat) (y:Str),bF[i]?=some y→PySem.W.kitOne (KK P) (.ref (cs k)) (.ref (cs y))=some (decide (i=j)):=by
 intro k hk j hj i y hy
 have hi:i<8:=(List.getElem?_eq_some_iff.mp hy).1
 have hi8:i=0∨i=1∨i=2∨i=3∨i=4∨i=5∨i=6∨i=7:=by omega
 rcases aAt k hk j hj with ⟨rfl,rfl⟩|⟨rfl,rfl⟩
 ·rcases hi8 with rfl|rfl|rfl|rfl|rfl|rfl|rfl|rfl
  ·cases hy; exact (by kernel_rfl:PySem.W.kitOne (KK P) (.ref (cs "NoFold")) (.ref (cs "NoSheet"))=some (decide (0=1)))
  ·cases hy; exact (by kernel_rfl:PySem.W.kitOne (KK P) (.ref (cs "NoFold")) (.ref (cs "NoFold"))=some (decide (1=1)))
  ·cases hy; exact (by kernel_rfl:PySem.W.kitOne (KK P) (.ref (cs "NoFold")) (.ref (cs "NoPlace"))=some (decide (2=1)))
  ·cases hy; exact (by kernel_rfl:PySem.W.kitOne (KK P) (.ref (cs "NoFold")) (.ref (cs "Ajar"))=some (decide (3=1)))
  ·cases hy; exact (by kernel_rfl:PySem.W.kitOne (KK P) (.ref (cs "NoFold")) (.ref (cs "Severed"))=some (decide (4=1)))
  ·cases hy; exact (by kernel_rfl:PySem.W.kitOne (KK P) (.ref (cs "NoFold")) (.ref (cs "Bolted"))=some (decide (5=1)))
  ·cases hy; exact (by kernel_rfl:PySem.W.kitOne (KK P) (.ref (cs "NoFold")) (.ref (cs "Loose"))=some (decide (6=1)))
  ·cases hy; exact (by kernel_rfl:PySem.W.kitOne (KK P) (.ref (cs "NoFold")) (.ref (cs "NoWord"))=some (decide (7=1)))
 ·rcases hi8 with rfl|rfl|rfl|rfl|rfl|rfl|rfl|rfl
  ·cases hy; exact (by kernel_rfl:PySem.W.kitOne (KK P) (.ref (cs "Severed")) (.ref (cs "NoSheet"))=some (decide (0=4)))
  ·cases hy; exact (by kernel_rfl:PySem.W.kitOne (KK P) (.ref (cs "Severed")) (.ref (cs "NoFold"))=some (decide (1=4)))
  ·cases hy; exact (by kernel_rfl:PySem.W.kitOne (KK P) (.ref (cs "Severed")) (.ref (cs "NoPlace"))=some (decide (2=4)))
  ·cases hy; exact (by kernel_rfl:PySem.W.kitOne (KK P) (.ref (cs "Severed")) (.ref (cs "Ajar"))=some (decide (3=4)))
  ·cases hy; exact (by kernel_rfl:PySem.W.kitOne (KK P) (.ref (cs "Severed")) (.ref (cs "Severed"))=some (decide (4=4)))
  ·cases hy; exact (by kernel_rfl:PySem.W.kitOne (KK P) (.ref (cs "Severed")) (.ref (cs "Bolted"))=some (decide (5=4)))
  ·cases hy; exact (by kernel_rfl:PySem.W.kitOne (KK P) (.ref (cs "Severed")) (.ref (cs "Loose"))=some (decide (6=4)))
  ·cases hy; exact (by kernel_rfl:PySem.W.kitOne (KK P) (.ref (cs "Severed")) (.ref (cs "NoWord"))=some (decide (7=4)))
variable {h:Heap}{mg:Str→Option Value}(X:(KK P).In h)(G:h.Ns mainGlobals mg)
include X G
theorem mx:∀ y,(["LeafError","NoSheet","NoFold","NoPlace","Ajar","Severed","Bolted","Loose","NoWord"]:List Str).contains y=true→mg y=some (.ref (cs y)):=by
 intro y hy
 have hy':y ∈ (["LeafError","NoSheet","NoFold","NoPlace","Ajar","Severed","Bolted","Loose","NoWord"]:List Str):=by simpa using hy
 simp only [List.mem_cons,List.not_mem_nil,or_false] at hy'
 rcases hy' with rfl|rfl|rfl|rfl|rfl|rfl|rfl|rfl|rfl
 ·rw [uA]; exact PySem.W.mg_of X G (by kernel_rfl)
 ·rw [zI]; exact PySem.W.mg_of X G (by kernel_rfl)
 ·rw [qK]; exact PySem.W.mg_of X G (by kernel_rfl)
 ·rw [zJ]; exact PySem.W.mg_of X G (by kernel_rfl)
 ·rw [SE]; exact PySem.W.mg_of X G (by kernel_rfl)
 ·rw [oQ]; exact PySem.W.mg_of X G (by kernel_rfl)
 ·rw [FR]; exact PySem.W.mg_of X G (by kernel_rfl)
 ·rw [KS]; exact PySem.W.mg_of X G (by kernel_rfl)
 ·rw [FQ]; exact PySem.W.mg_of X G (by kernel_rfl)
theorem hxg:∀ k,xcs.contains k=true→mg k=some (.ref (cs k)):=fun k hk=>mx X G k (by
 rcases hxs k hk with rfl|rfl|rfl<;>decide +kernel)
theorem hmx:∀ y ∈ bF,mg y=some (.ref (cs y)):=fun y hy=>mx X G y (by
 have:bF.all (fun y=>(["LeafError","NoSheet","NoFold","NoPlace","Ajar","Severed","Bolted","Loose","NoWord"]:List Str).contains y)=true:=by decide +kernel
 exact List.all_eq_true.mp this y hy)
end
set_option maxHeartbeats 0 in
theorem all_mk {l:PySem.W.OpenLaw} {w:World} {h:Heap} {mg:Str→Option Value} {fa:Addr} (X:(KK w.params).In h) (G:h.Ns mainGlobals mg) (hfa:mg "law" = some (.ref fa)) :
  ∃ fd:FuncData,(∀ (s:Shared) (v:Value),BindsTo s fd ⟨[v],[]⟩ [("script",v)])∧∀ base:Heap,(KK w.params).In base→base.Ns mainGlobals mg→FnOk l.prog w (KK w.params) mg base CX0 60 fa fd ["script"] (uY (KK w.params)):=by
 have e:=hfa.symm.trans (WU X G).at_
 cases e
 refine ⟨oI,fun s v=>.of_eq rfl,fun base _ _=>?_⟩
 have m:=mk1 (mk0 (P:=l.prog) (w:=w) (base:=base) (cs:=cs) (aGg X G) (LA _) (IM _) (aAu X G) (hxg X G) hxk mP (aHS (aJI X G) (aAu X G _ (by decide +kernel)) (aAu X G _ (by decide +kernel)) (hmx X G) hX hkt hv)) (PySem.W.mg_of X G (by kernel_rfl)) (aAs _) (aGJ _) (WA _) (LA _) (IM _)
 replace m:MO _ _ _ _ _ _ _ m2 g2 4:=mkM aGl aCs aEd aDc m (aHr _)
 replace m:MO _ _ _ _ _ _ _ m3 g3 5:=mkM aGm aCu aEi aDe m (aHt _)
 replace m:MO _ _ _ _ _ _ _ m4 g4 6:=mkF aCz aEw aDj m (aHy X G)
 replace m:MO _ _ _ _ _ _ _ m5 g5 7:=mkF aCt aEf aDd m (aHs X G)
 replace m:MO _ _ _ _ _ _ _ m6 g6 8:=mkF aCy aEt aDi m (aHx X G)
 replace m:MO _ _ _ _ _ _ _ m7 g7 9:=mkF aIl aIY aIx m (aJM X G)
 replace m:MO _ _ _ _ _ _ _ m8 g8 10:=mkF aCN aFj aDx m (aHM X G)
 replace m:MO _ _ _ _ _ _ _ m9 g9 11:=mkF aCK aFb aDu m (aHJ X G)
 replace m:MO _ _ _ _ _ _ _ m10 g10 12:=mkF aIi aIP aIu m (aJJ X G)
 replace m:MO _ _ _ _ _ _ _ m11 g11 13:=mkF aCA aEA aDk m (aHz X G)
 replace m:MO _ _ _ _ _ _ _ m12 g12 14:=mkF aCF aEO aDp m (aHE X G)
 replace m:MO _ _ _ _ _ _ _ m13 g13 15:=mkF aCQ aFs aDA m (aHP X G)
 replace m:MO _ _ _ _ _ _ _ m14 g14 16:=mkF aCG aEQ aDq m (aHF X G)
 replace m:MO _ _ _ _ _ _ _ m15 g15 17:=mkF aIo aJf aIA m (aJP X G)
 replace m:MO _ _ _ _ _ _ _ m16 g16 18:=mkF aCv aEm aDf m (aHu X G)
 replace m:MO _ _ _ _ _ _ _ m17 g17 19:=mkF aCx aEr aDh m (aHw X G)
 replace m:MO _ _ _ _ _ _ _ m18 g18 20:=mkF aCJ aEY aDt m (aHI X G)
 replace m:MO _ _ _ _ _ _ _ m19 g19 21:=mkF aCI aEW aDs m (aHH X G)
 replace m:MO _ _ _ _ _ _ _ m20 g20 22:=mkF aCH aET aDr m (aHG X G)
 replace m:MO _ _ _ _ _ _ _ m21 g21 23:=mkF aCw aEo aDg m (aHv X G)
 replace m:MO _ _ _ _ _ _ _ m22 g22 24:=mkF aCq aDY aDa m (aHq X G)
 replace m:MO _ _ _ _ _ _ _ m23 g23 25:=mkF aCO aFl aDy m (aHN X G)
 replace m:MO _ _ _ _ _ _ _ m24 g24 26:=mkF aCE aEL aDo m (aHD X G)
 replace m:MO _ _ _ _ _ _ _ m25 g25 27:=mkF aIk aIV aIw m (aJL X G)
 replace m:MO _ _ _ _ _ _ _ m26 g26 28:=mkF aCB aED aDl m (aHA X G)
 replace m:MO _ _ _ _ _ _ _ m27 g27 29:=mkF aCD aEI aDn m (aHC X G)
 replace m:MO _ _ _ _ _ _ _ m28 g28 30:=mkF aCM aFh aDw m (aHL X G)
 replace m:MO _ _ _ _ _ _ _ m29 g29 31:=mkF aCP aFr aDz m (aHO X G)
 replace m:MO _ _ _ _ _ _ _ m30 g30 32:=mkF aCC aEF aDm m (aHB X G)
 replace m:MO _ _ _ _ _ _ _ m31 g31 33:=mkF aIm aIZ aIy m (aJN X G)
 replace m:MO _ _ _ _ _ _ _ m32 g32 34:=mkF aIn aJc aIz m (aJO X G)
 replace m:MO _ _ _ _ _ _ _ m33 g33 35:=mkF aIp aJi aIB m (aJQ X G)
 replace m:MO _ _ _ _ _ _ _ m34 g34 36:=mkF aIq aJj aIC m (aJR X G)
 replace m:MO _ _ _ _ _ _ _ m35 g35 37:=mkF aCL aFd aDv m (aHK X G)
 replace m:MO _ _ _ _ _ _ _ m36 g36 38:=mkF aIj aIS aIv m (aJK X G)
 exact aAh (aAd m (WU X G)) (by decide)
theorem walk {l:PySem.W.OpenLaw} {q:Program} {loose:List Str} {XP:(Str→Option Value)→Heap→Prop} {YP:World→Heap→Prop} {d:DefRec} {K:Params→PySem.W.Frag} (hn:l.most=some 63) (hdf:d.params.defaults=[])
  (hY:∀ (w:World) (h:Heap),YP w h→(K w.params).In h)
  (F:∀ (w:World) (mg:Str→Option Value) (fa:Addr) (h:Heap),(K w.params).In h→h.Ns mainGlobals mg→mg d.name=some (.ref fa) →
   ∃ fd:FuncData,(∀ (s:Shared) (u:Value),BindsTo s fd ⟨[u],[]⟩ [("script",u)])∧∀ base:Heap,(K w.params).In base→base.Ns mainGlobals mg→FnOk l.prog w (K w.params) mg base CX0 60 fa fd ["script"] (uY (K w.params))) :
  PySem.W.WalkO q loose XP YP l.row.toRowW d [] (fun f vs=>PySem.call f vs):=
 L2.NH (n:=63) (k:=60) (x:="script") (CX:=fun _=>CX0) (sp:=fun w=>uY (K w.params)) hn (by decide) hdf ⟨rfl,by decide,by decide⟩ hY F (fun _ _ a ns hl _ hS=>⟨a,ns,rfl,hS,hl,fun _=>rfl⟩) fun _ _ _ _ _ z=>z
end Toy
open PySem PySem.W PyProof.Rows
set_option maxRecDepth 100000 in
set_option maxHeartbeats 0 in
theorem PySem.Challenge.cw_leaffold_k03_refused_folds_holds : PySem.Challenge.rw_leaffold_k03_refused_folds.Holds := by
 w_on; o_law
 refine holds_open (q:=Toy.vw) (loose:=[]) (Xt:=Toy.Xt) (XP:=XL Toy.vw []) (Yf:=Hook.obs Toy.HH) (Ya:=Hook.val Toy.HH) (YP:=Hook.says Toy.HH) (N:=6746) Toy.left (Hook.of Toy.HH) (Hook.keeps Toy.HH) (fun s e=>xl_of s (Bool.and_eq_true_iff.mp e).1) XL.keeps (by rfl) (by rfl) (by rfl) (fun s e=>recFacts_of (Bool.and_eq_true_iff.mp e).2) (by rfl) (by first|assumption|decide +kernel) (by decide +kernel) ⟨rfl,rfl,rfl,rfl,rfl,by decide +kernel⟩ ?hw ?hc
 case hw=>w_witness2
 case hc=>exact Toy.walk (l:=Toy.lw) (K:=Toy.KK) rfl rfl (fun w h Y=>PySem.W.kIn_of Y) fun w mg fa h KX G hmg=>Toy.all_mk KX G hmg
