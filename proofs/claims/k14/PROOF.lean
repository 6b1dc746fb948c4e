import PyProof.Rows.All
import Wide.All
import OpenK.AllK
import Wide.FinOn
import Lean
import PyProof.EqAt
import PyProof.EqKinds
import PyProof.TupleCall
import PySem.Syntax
import PyProof.Rows.StrJoin2
import PyProof.Rows.StrNews
import KE.KIntText
import PyProof.StrCalls6
import PySem.Eval
import PyProof.P3In
import KE.KIsAll
import PyProof.CollectIter
import PyProof.ListRange
import PySem.Challenge.RW_leaffold_k14_read
noncomputable section
set_option linter.all false
set_option maxRecDepth 100000
set_option maxHeartbeats 4000000
set_option Elab.async false
set_option genSizeOf false
set_option bootstrap.genMatcherCode false
set_option compiler.extract_closed false
namespace L2
open PySem PySem.Spec PyProof.Rows
abbrev Key:=Sum Int Str
noncomputable def keyIs:Key→Value→Bool
 | .inl k,v=>Value.isInt k v
 | .inr x,v=>Value.isStrOf x v
noncomputable def keyH (w:World):Key→Int
 | .inl k=>hashInt k
 | .inr x=>hashStr w x
theorem keyIs_shape:∀ {k:Key} {v:Value},keyIs k v=true→(∃ i t,k=Sum.inl i∧v=Value.int i t)∨(∃ x t,k=Sum.inr x∧v=Value.str x t)
 | .inl i,v,h=>by
  obtain ⟨t,e⟩:=Value.isInt_shape (k:=i) (v:=v) h
  exact .inl ⟨i,t,rfl,e⟩
 | .inr x,v,h=>by
  obtain ⟨t,e⟩:=Value.isStrOf_shape (x:=x) (v:=v) h
  exact .inr ⟨x,t,rfl,e⟩
theorem keyIs_int (i:Int) (t:Tok):keyIs (.inl i) (.int i t)=true:=by simp [keyIs,Value.isInt]
theorem keyIs_str (x:Str) (t:Tok):keyIs (.inr x) (.str x t)=true:=by simp [keyIs,Value.isStrOf]
theorem key_ll (a b:Int):decide ((Sum.inl a:Key)=Sum.inl b)=(a == b):=by
 by_cases e:a=b
 ·subst e; simp
 ·have h:¬ (Sum.inl a:Key)=Sum.inl b:=fun q=>e (Sum.inl.inj q)
  rw [decide_eq_false h]
  exact (beq_eq_false_iff_ne.mpr e).symm
theorem key_rr (a b:Str):decide ((Sum.inr a:Key)=Sum.inr b)=decide (a=b):=by
 by_cases e:a=b
 ·subst e; simp
 ·have h:¬ (Sum.inr a:Key)=Sum.inr b:=fun q=>e (Sum.inr.inj q)
  rw [decide_eq_false h,decide_eq_false e]
theorem key_lr (a:Int) (b:Str):decide ((Sum.inl a:Key)=Sum.inr b)=false:=decide_eq_false (fun q=>nomatch q)
theorem key_rl (a:Str) (b:Int):decide ((Sum.inr a:Key)=Sum.inl b)=false:=decide_eq_false (fun q=>nomatch q)
noncomputable def mixKind (prog:Program) (w:World):PySem.KeyKind prog w Key where
 is:=keyIs
 hash:=keyH w
 inj:=fun v a b ha hb=>by
  rcases keyIs_shape ha with ⟨i,t,rfl,rfl⟩|⟨x,t,rfl,rfl⟩
  ·rcases keyIs_shape hb with ⟨j,u,rfl,e⟩|⟨y,u,rfl,e⟩
   ·injection e with e1 _; rw [e1]
   ·exact nomatch e
  ·rcases keyIs_shape hb with ⟨j,u,rfl,e⟩|⟨y,u,rfl,e⟩
   ·exact nomatch e
   ·injection e with e1 _; rw [e1]
 byValue:=fun k v h=>by
  rcases keyIs_shape h with ⟨i,t,rfl,rfl⟩|⟨x,t,rfl,rfl⟩<;>rfl
 pyHash:=fun hv h=>by
  rcases keyIs_shape hv with ⟨i,t,rfl,rfl⟩|⟨x,t,rfl,rfl⟩
  ·exact wpAny_pyHash_int h
  ·exact wpAny_pyHash_str h
 eqBool:=fun hu hv h=>by
  rcases keyIs_shape hu with ⟨i,t,rfl,rfl⟩|⟨x,t,rfl,rfl⟩
  ·rcases keyIs_shape hv with ⟨j,u,rfl,rfl⟩|⟨y,u,rfl,rfl⟩
   ·rw [key_ll] at h; exact wpAny_eqBool_int h
   ·rw [key_lr] at h; exact SeqAt.EqAt.int_str i t y u _ _ _ _ h
  ·rcases keyIs_shape hv with ⟨j,u,rfl,rfl⟩|⟨y,u,rfl,rfl⟩
   ·rw [key_rl] at h; exact SeqAt.EqAt.str_int x t j u _ _ _ _ h
   ·rw [key_rr] at h; exact wpAny_eqBool_str h
 «strs»:=fun k x t v h=>by
  rcases keyIs_shape h with ⟨i,u,rfl,e⟩|⟨y,u,rfl,e⟩
  ·exact nomatch e
  ·injection e with e1 _
   subst e1
   cases v<;>rfl
theorem mixKind_int (prog:Program) (w:World) (i:Int) (t:Tok):(mixKind prog w).is (.inl i) (.int i t)=true:=keyIs_int i t
theorem mixKind_str (prog:Program) (w:World) (x:Str) (t:Tok):(mixKind prog w).is (.inr x) (.str x t)=true:=keyIs_str x t
end L2
namespace L2
open PySem PySem.Spec PyProof.Rows
inductive V where
 | non|bl (b:Bool)|int (i:Int)|str (x:Str)|byt (b:Array UInt8)|flt (b:UInt64)|ref (a:Addr)|ty (n:String)
 deriving DecidableEq
noncomputable def RelV:V→Value→Prop
 | .non,u=>u=Value.none
 | .bl b,u=>u=Value.bool b
 | .int i,u=>∃ t,u=Value.int i t
 | .str x,u=>∃ t,u=Value.str x t
 | .byt b,u=>∃ t,u=Value.bytes b t
 | .flt b,u=>∃ t,u=Value.float b t
 | .ref a,u=>u=Value.ref a
 | .ty n,u=>u=Value.type n
abbrev Vals:List V→List Value→Prop:=Paired RelV
theorem Vals.length {xs:List V} {us:List Value} (r:Vals xs us):xs.length=us.length:=Paired.length r
theorem Vals.get:∀ {xs:List V} {us:List Value} {i:Nat} {x:V},Vals xs us→xs[i]?=some x→∃ u,us[i]?=some u∧RelV x u
 | _,_,_,_,.nil,e=>by simp at e
 | _,_,0,_,.cons r _,e=>by simp at e; subst e; exact ⟨_,rfl,r⟩
 | _,_,i+1,x,.cons _ t,e=>by
  obtain ⟨u,h1,h2⟩:=Vals.get (i:=i) (x:=x) t (by simpa using e)
  exact ⟨u,by simpa using h1,h2⟩
theorem Vals.set {x:V} {u:Value} (r:RelV x u):∀ {xs:List V} {us:List Value} (i:Nat),Vals xs us→Vals (xs.set i x) (us.set i u)
 | _,_,_,.nil=>.nil
 | _,_,0,.cons _ t=>.cons r t
 | _,_,i+1,.cons q t=>.cons q (Vals.set r i t)
theorem Vals.append:∀ {xs ys:List V} {us ws:List Value},Vals xs us→Vals ys ws→Vals (xs++ys) (us++ws)
 | _,_,_,_,.nil,s=>s
 | _,_,_,_,.cons r t,s=>.cons r (Vals.append t s)
theorem Vals.take:∀ {xs:List V} {us:List Value} (n:Nat),Vals xs us→Vals (xs.take n) (us.take n)
 | _,_,0,_=>.nil
 | _,_,_+1,.nil=>.nil
 | _,_,n+1,.cons r t=>.cons r (Vals.take n t)
theorem Vals.drop:∀ {xs:List V} {us:List Value} (n:Nat),Vals xs us→Vals (xs.drop n) (us.drop n)
 | _,_,0,r=>r
 | _,_,_+1,.nil=>.nil
 | _,_,n+1,.cons _ t=>Vals.drop n t
noncomputable def RelO:Option V→Option Value→Prop
 | some v,some u=>RelV v u
 | none,none=>True
 | _,_=>False
noncomputable def KV {κ:Type}:List (κ × V)→List (κ × Value)→Prop:=Paired fun (p:κ × V) (q:κ × Value)=>p.1=q.1∧RelV p.2 q.2
noncomputable def kV:Key→V
 | .inl i=>.int i
 | .inr x=>.str x
inductive HO where
 /-- a list -/
 | lst (xs:List V)
 /-- a tuple (never changes) -/
 | tup (xs:List V)
 /-- a dict whose keys are ints and texts; one whose keys are tuples of ints and texts (the empty one is both) -/
 | dK (kvs:List (Key × V))|dT (kvs:List (List Key × V))
 /-- a set of ints: its members,its size -/
 | set (S:Int→Bool) (n:Nat)
 /-- an instance of the class at C,its dict at dx,its attributes -/
 | ins (C dx:Addr) (fs:List (Str × V))
 /-- the dict of the instance at x -/
 | own (x:Addr)
 /-- the dict of an exception -/
 | xd (fs:List (Str × V))
 /-- a bound method,f of x -/
 | met (f x:Addr)
 /-- a range object lo,lo+1,.. below hi -/
 | rng (lo hi:Int)
 /-- a thing that is known to the object (the script; a dict while a loop walks it): read,never written while it is so -/
 | frz (o:Obj) (u:HO)
 /-- a code object's table -/
 | tbl (ps:Array Value)
 /-- any other thing,by what is true of its one object (a def of one's own: SetO a S n:=HO.ext fun h=>..) -/
 | ext (φ:Heap→Prop)
abbrev Hp:=Addr→Option HO
noncomputable def upd (H:Hp) (a:Addr) (o:HO):Hp:=fun b=>if b=a then some o else H b
theorem upd_same {H:Hp} {a:Addr} {o:HO}:upd H a o a=some o:=by unfold upd; rw [if_pos rfl]
theorem upd_ne {H:Hp} {a b:Addr} {o:HO} (h:b≠a):upd H a o b=H b:=by unfold upd; rw [if_neg h]
theorem ne_of {H:Hp} {a b:Addr} {o u:HO} (h:H a=some o) (h':H b=some u) (d:o≠u):a≠b:=by
 intro e; subst e; rw [h] at h'; exact d (Option.some.inj h')
theorem ne_of_none {H:Hp} {a b:Addr} {o:HO} (h:H a=some o) (h':H b=none):a≠b:=by
 intro e; subst e; rw [h] at h'; cases h'
section
variable (P:Program)(w:World)
noncomputable def ObjOk (H:Hp) (h:Heap) (a:Addr):HO→Prop
 | .lst xs=>xs.length≤sizeLine∧∃ (its:List Value) (n:Nat),Vals xs its∧h.get? a=some { cls:=.type "list",data:=.seq its.toArray n }
 | .tup xs=>xs.length≤sizeLine∧∃ its:List Value,Vals xs its∧IsTup h a its.toArray
 | .dK kvs=>kvs.length≤sizeLine∧(a == sysModules)=false∧∃ vs,KV kvs vs∧h.DictOf (mixKind P w) a vs
 | .dT kvs=>kvs.length≤sizeLine∧(a == sysModules)=false∧∃ xs:List (List Key × Addr × Value),
   Paired (fun (p:List Key × V) (q:List Key × Addr × Value)=>p.1=q.1∧H q.2.1=some (.tup (p.1.map kV))∧RelV p.2 q.2.2) kvs xs ∧
   ∃ o es ep,h.get? a=some o∧o.ExactDict∧o.data=.dict es ep∧es.toList=xs.map (entryOfKey (tupleKind (mixKind P w)))∧(xs.map (·.1)).Nodup
 | .set S n=>h.SetOf (intKind P w) a S n
 | .ins C dx fs=>H dx=some (.own a)∧fs.length≤1000∧dx≠a∧h.get? a=some (PySem.W.instObj C dx) ∧
   ∃ mA,h.Ns1 dx mA∧(∀ f,RelO (fs.lookup f) (mA f))∧PySem.Within mA (fs.map (·.1))
 | .own _=>∃ o,h.get? a=some o
 | .xd fs=>∃ mA,h.Ns1 a mA∧∀ f,RelO (fs.lookup f) (mA f)
 | .rng lo hi=>∃ t u v,h.get? a=some { cls:=.type "range",data:=.fields #[.int lo t,.int hi u,.int 1 v] }
 | .frz o u=>h.get? a=some o∧ObjOk H h a u
 | .tbl ps=>h.get? a=some { cls:=.none,data:=.fields ps }
 | .met f x=>h.get? a=some (PySem.W.methodObj (.ref f) (.ref x))
 | .ext φ=>φ h∧(∃ o,h.get? a=some o)∧∀ h1 h2:Heap,φ h1→(∀ o,h1.get? a=some o→h2.get? a=some o)→φ h2
def HOk (H:Hp) (h:Heap):Prop:=∀ a o,H a=some o→ObjOk P w H h a o
end
section
variable {P:Program}{w:World}{H H':Hp}{h h':Heap}{a:Addr}{o:HO}
theorem ObjOk.lt (x:ObjOk P w H h a o):a<h.objs.size:=by
 cases o with
 | lst xs=>obtain ⟨_,_,_,_,e⟩:=x; exact Heap.lt_size e
 | tup xs=>obtain ⟨_,_,_,p⟩:=x; exact p.lt
 | dK kvs=>obtain ⟨_,_,_,_,o,_,_,e,_⟩:=x; exact Heap.lt_size e
 | dT kvs=>obtain ⟨_,_,_,_,o,_,_,e,_⟩:=x; exact Heap.lt_size e
 | set S n=>obtain ⟨o,_,_,_,e,_⟩:=x; exact Heap.lt_size e
 | ins C dx fs=>obtain ⟨_,_,_,e,_⟩:=x; exact Heap.lt_size e
 | own y=>obtain ⟨_,e⟩:=x; exact Heap.lt_size e
 | xd fs=>obtain ⟨_,⟨_,_,_,e,_⟩,_⟩:=x; exact Heap.lt_size e
 | rng lo hi=>obtain ⟨_,_,_,e⟩:=x; exact Heap.lt_size e
 | frz ob u=>obtain ⟨e,_⟩:=x; exact Heap.lt_size e
 | tbl ps=>exact Heap.lt_size (show h.get? a=some _ from x)
 | met f y=>exact Heap.lt_size (show h.get? a=some _ from x)
 | ext φ=>obtain ⟨_,⟨_,e⟩,_⟩:=x; exact Heap.lt_size e
theorem Paired.mapP {α β:Type} {F G:α→β→Prop}:∀ {l₁:List α} {l₂:List β},Paired F l₁ l₂→(∀ a b,F a b→G a b)→Paired G l₁ l₂
 | _,_,.nil,_=>.nil
 | _,_,.cons r t,f=>.cons (f _ _ r) (Paired.mapP t f)
theorem ObjOk.stay (x:ObjOk P w H h a o) (k:∀ b u,(b=a∨H b=some (.own a))→h.get? b=some u→h'.get? b=some u)
  (ho:∀ b,H b=some (.own a)→H' b=some (.own a)) (ht:∀ b xs,H b=some (.tup xs)→H' b=some (.tup xs)):ObjOk P w H' h' a o:=by
 induction o with
 | lst xs=>obtain ⟨z,its,n,r,e⟩:=x; exact ⟨z,its,n,r,k _ _ (.inl rfl) e⟩
 | tup xs=>obtain ⟨z,its,r,ob,e,c⟩:=x; exact ⟨z,its,r,ob,k _ _ (.inl rfl) e,c⟩
 | dK kvs=>obtain ⟨z,y,vs,r,ob,es,ep,e,c⟩:=x; exact ⟨z,y,vs,r,ob,es,ep,k _ _ (.inl rfl) e,c⟩
 | dT kvs =>
  obtain ⟨z,y,xs,r,ob,es,ep,e,c⟩:=x
  exact ⟨z,y,xs,Paired.mapP r fun p q z=>⟨z.1,ht _ _ z.2.1,z.2.2⟩,ob,es,ep,k _ _ (.inl rfl) e,c⟩
 | set S n=>obtain ⟨ob,es,ep,t,e,c⟩:=x; exact ⟨ob,es,ep,t,k _ _ (.inl rfl) e,c⟩
 | ins C dx fs =>
  obtain ⟨d,z,ne,e,mA,⟨od,es,ep,e2,c⟩,r⟩:=x
  exact ⟨ho _ d,z,ne,k _ _ (.inl rfl) e,mA,⟨od,es,ep,k _ _ (.inr d) e2,c⟩,r⟩
 | own y=>obtain ⟨ob,e⟩:=x; exact ⟨ob,k _ _ (.inl rfl) e⟩
 | xd fs=>obtain ⟨mA,⟨od,es,ep,e,c⟩,r⟩:=x; exact ⟨mA,⟨od,es,ep,k _ _ (.inl rfl) e,c⟩,r⟩
 | rng lo hi=>obtain ⟨t,u,v,e⟩:=x; exact ⟨t,u,v,k _ _ (.inl rfl) e⟩
 | frz ob u ih=>obtain ⟨e,q⟩:=x; exact ⟨k _ _ (.inl rfl) e,ih q⟩
 | tbl ps =>
  have e:h.get? a=some { cls:=.none,data:=.fields ps }:=x
  show h'.get? a=some { cls:=.none,data:=.fields ps }
  exact k a _ (.inl rfl) e
 | met f y =>
  have e:h.get? a=some (PySem.W.methodObj (.ref f) (.ref y)):=x
  show h'.get? a=some (PySem.W.methodObj (.ref f) (.ref y))
  exact k a _ (.inl rfl) e
 | ext φ=>obtain ⟨p,⟨o,e⟩,st⟩:=x; exact ⟨st _ _ p fun o q=>k _ _ (.inl rfl) q,⟨o,k _ _ (.inl rfl) e⟩,st⟩
theorem HOk.lt (x:HOk P w H h) (e:H a=some o):a<h.objs.size:=(x a o e).lt
theorem HOk.fresh (x:HOk P w H h) (e:h.objs.size≤a):H a=none:=by
 cases q:H a with
 | none=>rfl
 | some u=>exact absurd (Nat.lt_of_lt_of_le (x.lt q) e) (Nat.lt_irrefl _)
theorem HOk.kept (x:HOk P w H h) (k:∀ b u,h.get? b=some u→h'.get? b=some u):HOk P w H h':=fun a o e =>
 (x a o e).stay (fun b u _ q=>k b u q) (fun _ q=>q) fun _ _ q=>q
theorem HOk.laid (x:HOk P w H h) (k:∀ b u,h.get? b=some u→h'.get? b=some u) (hp:h.objs.size≤a) (new:ObjOk P w (upd H a o) h' a o):HOk P w (upd H a o) h':=fun b u e=>by
 have hn:=x.fresh hp
 by_cases hb:b=a
 ·subst hb; rw [upd_same] at e; cases e; exact new
 ·rw [upd_ne hb] at e
  exact (x b u e).stay (fun c v _ q=>k c v q) (fun c q=>by rw [upd_ne (ne_of_none q hn)]; exact q) fun c xs q=>by rw [upd_ne (ne_of_none q hn)]; exact q
end
def Rd (H:Hp) (a:Addr) (u:HO):Prop:=H a=some u∨∃ o,H a=some (.frz o u)
theorem Rd.ok {P:Program} {w:World} {H:Hp} {h:Heap} {a:Addr} {u:HO} (r:Rd H a u) (x:HOk P w H h):ObjOk P w H h a u:=by
 rcases r with r|⟨o,r⟩
 ·exact x a u r
 ·obtain ⟨_,q⟩:=x a _ r
  exact q
noncomputable def Mut:Option HO→Prop
 | some (.lst _)=>True
 | some (.dK _)=>True
 | some (.dT _)=>True
 | some (.set _ _)=>True
 | some (.ins _ _ _)=>True
 | some (.ext _)=>True
 | _=>False
section
variable {P:Program}{w:World}{H:Hp}{h h':Heap}{x e:Addr}{o':HO}
theorem HOk.write (ok:HOk P w H h) (mu:Mut (H x)) (he:e=x∨H e=some (.own x)) (k:∀ b u,b≠e→h.get? b=some u→h'.get? b=some u) (heo:∃ u,h'.get? e=some u)
  (new:ObjOk P w (upd H x o') h' x o'):HOk P w (upd H x o') h':=fun b u q=>by
 have nown:∀ c y,H c=some (.own y)→c≠x:=fun c y r z=>by subst z; rw [r] at mu; exact mu
 have ntup:∀ c xs,H c=some (.tup xs)→c≠x:=fun c xs r z=>by subst z; rw [r] at mu; exact mu
 by_cases hb:b=x
 ·subst hb; rw [upd_same] at q; cases q; exact new
 ·rw [upd_ne hb] at q
  by_cases hbe:b=e
  ·have q':H b=some (.own x):=by
    rcases he with z|z
    ·exact absurd (hbe.trans z) hb
    ·rw [hbe]; exact z
   rw [q] at q'; cases q'
   obtain ⟨v,hv⟩:=heo
   exact ⟨v,by rw [hbe]; exact hv⟩
  ·refine (ok b u q).stay (fun c v hc r=>k c v ?_ r) (fun c r=>by rw [upd_ne (nown c b r)]; exact r) fun c xs r=>by rw [upd_ne (ntup c xs r)]; exact r
   rcases hc with rfl|hc
   ·exact hbe
   ·rintro rfl
    rcases he with z|z
    ·exact nown c b hc z
    ·rw [hc] at z; cases z; exact hb rfl
end
structure Un (fs ex:List Addr) (H H':Hp) (h h':Heap):Prop where
 keep:∀ b o,h.get? b=some o→H b=none→b ∉ fs→b ∉ ex→h'.get? b=some o
 slot:∀ b o,h.get? b=some o→H b=none→b ∈ fs→b ∉ ex→∃ sl,h'.get? b=some { o with slots:=sl }
 free:∀ b o,h.get? b=some o→H b=none→b ∉ ex→H' b=none
 there:∀ b o,h.get? b=some o→b ∉ ex→∃ o',h'.get? b=some o'
 tups:∀ b xs,H b=some (.tup xs)→H' b=some (.tup xs)
 frzs:∀ b o u,H b=some (.frz o u)→H' b=some (.frz o u)
 tbls:∀ b ps,H b=some (.tbl ps)→∃ more,H' b=some (.tbl (ps++more))
section
variable {fs fs' ex ex':List Addr}{H H1 H2:Hp}{h h1 h2 h':Heap}{a x e:Addr}{o:HO}
theorem Un.any (u:Un fs ex H H1 h h1) {b:Addr} {ob:Obj} (q:h.get? b=some ob) (n:H b=none) (hx:b ∉ ex):∃ sl,h1.get? b=some { ob with slots:=sl }:=by
 by_cases hb:b ∈ fs
 ·exact u.slot b ob q n hb hx
 ·exact ⟨ob.slots,u.keep b ob q n hb hx⟩
theorem Un.trans (a:Un fs ex H H1 h h1) (b:Un fs ex H1 H2 h1 h2):Un fs ex H H2 h h2 where
 keep:=fun c ob q n hc hx=>b.keep c ob (a.keep c ob q n hc hx) (a.free c ob q n hx) hc hx
 slot:=fun c ob q n hc hx=>by
  obtain ⟨sl,e1⟩:=a.slot c ob q n hc hx
  obtain ⟨sl',e2⟩:=b.slot c _ e1 (a.free c ob q n hx) hc hx
  exact ⟨sl',e2⟩
 free:=fun c ob q n hx=>by
  obtain ⟨o',e1⟩:=a.there c ob q hx
  exact b.free c o' e1 (a.free c ob q n hx) hx
 there:=fun c ob q hx=>by
  obtain ⟨o',e1⟩:=a.there c ob q hx
  exact b.there c o' e1 hx
 tups:=fun c xs q=>b.tups c xs (a.tups c xs q)
 frzs:=fun c ob xs q=>b.frzs c ob xs (a.frzs c ob xs q)
 tbls:=fun c ps q=>by
  obtain ⟨m1,e1⟩:=a.tbls c ps q
  obtain ⟨m2,e2⟩:=b.tbls c _ e1
  exact ⟨m1++m2,by rw [e2,Array.append_assoc]⟩
theorem Un.kept (k:∀ b u,h.get? b=some u→h'.get? b=some u):Un fs ex H H h h':=
 ⟨fun b ob q _ _ _=>k b ob q,fun b ob q _ _ _=>⟨ob.slots,k b ob q⟩,fun _ _ _ n _=>n,fun b ob q _=>⟨ob,k b ob q⟩,fun _ _ q=>q,fun _ _ _ q=>q,fun _ ps q=>⟨#[],by rw [q]; simp⟩⟩
theorem Un.refl:Un fs ex H H h h:=Un.kept fun _ _ q=>q
theorem Un.laid (k:∀ b u,h.get? b=some u→h'.get? b=some u) (hp:h.objs.size≤a) (hn:H a=none):Un fs ex H (upd H a o) h h' where
 keep:=fun b u q _ _ _=>k b u q
 slot:=fun b u q _ _ _=>⟨u.slots,k b u q⟩
 free:=fun b u q n _=>by rw [upd_ne (Nat.ne_of_lt (Nat.lt_of_lt_of_le (Heap.lt_size q) hp))]; exact n
 there:=fun b u q _=>⟨u,k b u q⟩
 tups:=fun b xs q=>by rw [upd_ne (ne_of_none q hn)]; exact q
 frzs:=fun b u xs q=>by rw [upd_ne (ne_of_none q hn)]; exact q
 tbls:=fun b ps q=>⟨#[],by rw [upd_ne (ne_of_none q hn),q]; simp⟩
theorem Un.write (mu:Mut (H x)) (he:e=x∨H e=some (.own x)) (k:∀ b u,b≠e→h.get? b=some u→h'.get? b=some u) (heo:∃ u,h'.get? e=some u):Un fs ex H (upd H x o) h h':=by
 have hx:∀ b,H b=none→b≠x:=fun b n z=>by subst z; rw [n] at mu; exact mu
 have hb:∀ b,H b=none→b≠e:=fun b n z=>by
  subst z
  rcases he with r|r
  ·exact hx b n r
  ·rw [n] at r; cases r
 have hm:∀ b u,H b=some u→¬ Mut (some u)→b≠x:=fun b u q nm z=>by subst z; rw [q] at mu; exact nm mu
 refine ⟨fun b u q n _ _=>k b u (hb b n) q,fun b u q n _ _=>⟨u.slots,k b u (hb b n) q⟩,fun b u q n _=>by rw [upd_ne (hx b n)]; exact n,fun b u q _=>?_,
  fun b xs q=>by rw [upd_ne (hm b _ q fun z=>z)]; exact q,fun b u xs q=>by rw [upd_ne (hm b _ q fun z=>z)]; exact q,fun b ps q=>⟨#[],by rw [upd_ne (hm b _ q fun z=>z),q]; simp⟩⟩
 by_cases hbe:b=e
 ·subst hbe; exact heo
 ·exact ⟨u,k b u hbe q⟩
end
noncomputable def trk (h:Heap) (H:Hp):List Addr:=(List.range h.objs.size).filter fun a=>(H a).isSome
noncomputable def hidT (h:Heap) (H:Hp):Heap:=PySem.W.hideAll h (trk h H)
theorem hidT_size (h:Heap) (H:Hp):(hidT h H).objs.size=h.objs.size:=PySem.W.hideAll_size _ _
theorem hidT_get {h:Heap} {H:Hp} {b:Addr} {o:Obj} (e:h.get? b=some o) (n:H b=none):(hidT h H).get? b=some o:=
 PySem.W.hideAll_get _ e fun hm=>by
  have q:(H b).isSome=true:=(List.mem_filter.mp hm).2
  rw [n] at q; simp at q
theorem of_hidT {h:Heap} {H:Hp} {b:Addr} {o:Obj} (e:(hidT h H).get? b=some o):h.get? b=some o∧H b=none:=by
 have e':h.get? b=some o:=PySem.W.of_hideAll (trk h H) e
 refine ⟨e',?_⟩
 cases q:H b with
 | none=>rfl
 | some x =>
  have hm:b ∈ trk h H:=List.mem_filter.mpr ⟨List.mem_range.mpr (Heap.lt_size e'),by simp [q]⟩
  have z:(hidT h H).get? b=none:=PySem.W.hideAll_none (trk h H) hm
  rw [z] at e; cases e
noncomputable def allNews (g h:Heap) (L:Addr):List (Addr × Obj):=(List.range h.objs.size).filterMap fun a=>if a=L∨(g.get? a).isSome=true then none else (h.get? a).map fun o=>(a,o)
noncomputable def rest (g h:Heap) (L d:Addr):List (Addr × Obj):=(allNews g h L).filter fun p=>decide (p.1≠d)
end L2
namespace L2
open PySem PySem.Spec PyProof.Rows
structure Mod (K:PySem.W.Frag) (mg:Str→Option Value) (base:Heap):Prop where
 kin:K.In base
 glob:base.Ns mainGlobals mg
 blt:∃ mb,base.Ns builtinsNs mb∧∀ x:Str,x≠"__name__"→mb x=bootBuiltins x
 nolimit:base.NoLimit
structure Cx where
 prog:Program
 w:World
 K:PySem.W.Frag
 mg:Str→Option Value
 base:Heap
 A:Around
 N:List Str
 s₀:Shared
 H₀:Hp
 env:Env
 outer:List Env
 stack:List Env
 ex:List Addr
 fn:Str→Bool
 calm:Bool
 pn:List (Addr × Obj)
 xe:Value→Shared→Prop
noncomputable def frs (l:List Env):List Addr:=l.filterMap (·.frame)
abbrev Cx.fs (X:Cx):List Addr:=frs X.outer
def Vis (sc:Scope) (x:Str):Prop:=sc.names.lookup x=some .local∨sc.names.lookup x=some .cell∨sc.names.lookup x=some .free
def Loc (sc:Scope) (x:Str):Prop:=sc.names.lookup x=some .local∨sc.names.lookup x=some .cell
def Look (env:Env) (h:Heap) (m:Str→Option Value) (x:Str) (u:Value):Prop:=
 (env.kindOf x=some .local∧m x=some u)∨((env.kindOf x=some .cell∨env.kindOf x=some .free)∧∃ c,env.cells.lookup x=some c∧h.IsCell c (some u))
structure Cx.Ok (X:Cx):Prop where
 mod:Mod X.K X.mg X.base
 kind:X.env.scope.kind=.function
 glob:X.env.globals=mainGlobals
 blt:X.env.builtins=builtinsNs
 above:X.s₀.heap.objs.size≤X.env.locals
 inj:∀ x y c,X.env.cells.lookup x=some c→X.env.cells.lookup y=some c→x=y
 has:∀ x,(X.env.kindOf x=some .cell∨X.env.kindOf x=some .free)→∃ c,X.env.cells.lookup x=some c
 cab:∀ x c,X.fn x=true→X.env.cells.lookup x=some c→X.s₀.heap.objs.size≤c
 hd:X.calm=true→X.A.handled=none
 frames:X.A.frames=some X.stack
 stk:X.stack=X.outer∨(X.stack=X.env::X.outer∧X.env.frame=some X.env.locals)
 exf:∀ b ∈ X.ex,b≠X.env.locals∧∀ x c,X.env.cells.lookup x=some c→c≠b
 bs:∀ b o,X.base.get? b=some o→X.s₀.heap.get? b=some o∧X.H₀ b=none
 bsz:X.base.objs.size≤X.s₀.heap.objs.size
 noex:∀ b o,X.base.get? b=some o→b ∉ X.ex
 exfs:∀ b ∈ X.ex,b ∉ X.fs
 funs:X.s₀.heap.FunFrames X.base X.outer
 frf:∀ b ∈ X.fs,X.H₀ b=none
structure Inv (X:Cx) (pins:List (Addr × Obj)) (σ:List (Option V)) (H:Hp) (s:Shared):Prop where
 ok:X.Ok
 os:s.os=X.s₀.os
 bare:AllBare s.gens
 base:Un X.fs X.ex X.H₀ H X.s₀.heap s.heap
 loc:∃ m,s.heap.Ns X.env.locals m∧∀ (i:Nat) (x:Str) (v:V),X.N[i]?=some x→σ[i]?=some (some v)→Vis X.env.scope x→∃ u,RelV v u∧Look X.env s.heap m x u
 cell:∀ x c,X.env.cells.lookup x=some c→∃ v,s.heap.IsCell c v
 free:H X.env.locals=none
 freeC:∀ x c,X.env.cells.lookup x=some c→H c=none
 pin:∀ p ∈ X.pn++pins,s.heap.get? p.1=some p.2∧H p.1=none∧p.1≠X.env.locals∧p.1 ∉ X.fs∧∀ v,p.2.data≠.cell v
 hok:HOk X.prog X.w H s.heap
 len:σ.length=X.N.length
section
variable {X:Cx}{pins:List (Addr × Obj)}{σ:List (Option V)}{H H':Hp}{s:Shared}{h':Heap}
theorem Cx.Ok.nofr (ok:X.Ok) {b:Addr} {o:Obj} (e:X.base.get? b=some o):b ∉ X.fs:=fun hb=>by
 have:=(ok.funs.mem hb).1
 rw [e] at this; cases this
theorem Inv.bs (I:Inv X pins σ H s):∀ b o,X.base.get? b=some o→s.heap.get? b=some o∧H b=none:=fun b o e =>
 ⟨I.base.keep b o (I.ok.bs b o e).1 (I.ok.bs b o e).2 (I.ok.nofr e) (I.ok.noex b o e),I.base.free b o (I.ok.bs b o e).1 (I.ok.bs b o e).2 (I.ok.noex b o e)⟩
theorem Inv.bk (I:Inv X pins σ H s):∀ b o,X.base.get? b=some o→s.heap.get? b=some o:=fun b o e=>(I.bs b o e).1
theorem Inv.mod (I:Inv X pins σ H s):Mod X.K X.mg X.base:=I.ok.mod
theorem Inv.kIn (I:Inv X pins σ H s):X.K.In s.heap:=I.ok.mod.kin.keeps I.bk
theorem Inv.lt (I:Inv X pins σ H s):X.env.locals<s.heap.objs.size:=let ⟨_,hn,_⟩:=I.loc; hn.lt
theorem Inv.sz (I:Inv X pins σ H s):X.s₀.heap.objs.size≤s.heap.objs.size:=Nat.le_trans I.ok.above (Nat.le_of_lt I.lt)
theorem Inv.nofs (I:Inv X pins σ H s) {a:Addr} (h:s.heap.objs.size≤a):a ∉ X.fs:=fun hb=>by
 obtain ⟨_,o,ho,_⟩:=I.ok.funs.mem hb
 exact absurd (Nat.lt_of_lt_of_le (Heap.lt_size ho) (Nat.le_trans I.sz h)) (Nat.lt_irrefl _)
theorem Inv.cne (I:Inv X pins σ H s):∀ x c,X.env.cells.lookup x=some c→c≠X.env.locals:=fun x c e z=>by
 obtain ⟨v,o,ho,hd⟩:=I.cell x c e
 obtain ⟨m,⟨o',es,ep,ho',hd',_⟩,_⟩:=I.loc
 rw [z,ho'] at ho; cases ho; rw [hd'] at hd; cases hd
theorem Inv.funs (I:Inv X pins σ H s):s.heap.FunFrames X.base X.outer:=by
 have all:∀ (l:List Env),(∀ b ∈ frs l,b ∈ X.fs)→X.s₀.heap.FunFrames X.base l→s.heap.FunFrames X.base l:=by
  intro l
  induction l with
  | nil=>intro _ _; trivial
  | cons env r ih =>
   intro hs hl
   obtain ⟨hk,⟨L,o,hf,hn,ho,hd⟩,hr⟩:=hl
   have hL:L ∈ X.fs:=hs L (by unfold frs; rw [List.filterMap_cons,hf]; exact List.mem_cons_self)
   obtain ⟨sl,e⟩:=I.base.slot L o ho (I.ok.frf L hL) hL fun z=>I.ok.exfs L z hL
   exact ⟨hk,⟨L,_,hf,hn,e,hd⟩,ih (fun b hb=>hs b (by unfold frs; rw [List.filterMap_cons,hf]; exact List.mem_cons_of_mem _ hb)) hr⟩
 exact all X.outer (fun _ hb=>hb) I.ok.funs
theorem Inv.stack (I:Inv X pins σ H s):s.heap.FunFrames X.base X.stack:=by
 rcases I.ok.stk with e|⟨e,hf⟩
 ·rw [e]; exact I.funs
 ·rw [e]
  obtain ⟨m,hn,_⟩:=I.loc
  refine .cons (by rw [I.ok.kind]; decide) hf hn ?_ I.funs
  exact Heap.get?_none_of_le (Nat.le_trans I.ok.bsz I.ok.above)
theorem Inv.stkSub (I:Inv X pins σ H s):∀ b ∈ frs X.stack,b ∈ X.env.locals::X.fs:=fun b hb=>by
 rcases I.ok.stk with e|⟨e,hf⟩
 ·rw [e] at hb; exact List.mem_cons_of_mem _ hb
 ·rw [e] at hb
  unfold frs at hb
  rw [List.filterMap_cons,hf] at hb
  exact hb
theorem Inv.stkFree (I:Inv X pins σ H s):∀ b ∈ frs X.stack,H b=none:=fun b hb=>by
 rcases List.mem_cons.mp (I.stkSub b hb) with e|hb
 ·rw [e]; exact I.free
 ·obtain ⟨_,o,ho,_⟩:=I.ok.funs.mem hb
  exact I.base.free b o ho (I.ok.frf b hb) fun z=>I.ok.exfs b z hb
theorem Inv.step {g':Array GenState} {t':Nat} {d':Drawn} {ch:List Addr} (I:Inv X pins σ H s)
  (hch:∀ b ∈ ch,(b ∈ X.ex∨X.s₀.heap.objs.size≤b)∧b≠X.env.locals∧(∀ x c,X.env.cells.lookup x=some c→c≠b)∧∀ p ∈ X.pn++pins,p.1≠b)
  (keep:∀ b o,b≠X.env.locals→b ∉ X.fs→b ∉ ch→s.heap.get? b=some o→H b=none→h'.get? b=some o)
  (slot:∀ b o,b≠X.env.locals→b ∈ X.fs→b ∉ ch→s.heap.get? b=some o→H b=none→∃ sl,h'.get? b=some { o with slots:=sl }) (free:∀ b o,b ∉ ch→s.heap.get? b=some o→H b=none→H' b=none)
  (there:∀ b o,b ∉ ch→s.heap.get? b=some o→∃ o',h'.get? b=some o')
  (tups:∀ b xs,H b=some (.tup xs)→H' b=some (.tup xs)) (frzs:∀ b o u,H b=some (.frz o u)→H' b=some (.frz o u)) (tbls:∀ b ps,H b=some (.tbl ps)→∃ more,H' b=some (.tbl (ps++more)))
  (ns:∀ m,s.heap.Ns X.env.locals m→h'.Ns X.env.locals m) (hok:HOk X.prog X.w H' h') (hg:AllBare g') :
  Inv X pins σ H' { s with heap:=h',gens:=g',drawn:=d',toks:=t' }:=by
 have neL:∀ b o,X.s₀.heap.get? b=some o→b≠X.env.locals:=fun b o e=>Nat.ne_of_lt (Nat.lt_of_lt_of_le (Heap.lt_size e) I.ok.above)
 have neC:∀ b o,X.s₀.heap.get? b=some o→b ∉ X.ex→b ∉ ch:=fun b o e hx hb=>by
  rcases (hch b hb).1 with z|z
  ·exact hx z
  ·exact absurd (Nat.lt_of_lt_of_le (Heap.lt_size e) z) (Nat.lt_irrefl _)
 have cellK:∀ x c,X.env.cells.lookup x=some c→∀ v,s.heap.IsCell c v→h'.IsCell c v:=fun x c e v ⟨o,ho,hd⟩=>by
  have nch:c ∉ ch:=fun z=>(hch c z).2.2.1 x c e rfl
  by_cases hc:c ∈ X.fs
  ·obtain ⟨sl,q⟩:=slot c o (I.cne x c e) hc nch ho (I.freeC x c e)
   exact ⟨_,q,hd⟩
  ·exact ⟨o,keep c o (I.cne x c e) hc nch ho (I.freeC x c e),hd⟩
 refine ⟨I.ok,I.os,hg,⟨fun b o e n hb hx=>?_,fun b o e n hb hx=>?_,fun b o e n hx=>?_,fun b o e hx=>?_,fun b xs e=>tups b xs (I.base.tups b xs e),fun b o xs e=>frzs b o xs (I.base.frzs b o xs e),fun b ps e=>?_⟩,?_,fun x c e=>?_,?_,fun x c e=>?_,fun p hp=>?_,hok,I.len⟩
 ·exact keep b o (neL b o e) hb (neC b o e hx) (I.base.keep b o e n hb hx) (I.base.free b o e n hx)
 ·obtain ⟨sl,e1⟩:=I.base.slot b o e n hb hx
  obtain ⟨sl',e2⟩:=slot b _ (neL b o e) hb (neC b o e hx) e1 (I.base.free b o e n hx)
  exact ⟨sl',e2⟩
 ·obtain ⟨o',e1⟩:=I.base.there b o e hx
  exact free b o' (neC b o e hx) e1 (I.base.free b o e n hx)
 ·obtain ⟨o',e1⟩:=I.base.there b o e hx
  exact there b o' (neC b o e hx) e1
 ·obtain ⟨m1,e1⟩:=I.base.tbls b ps e
  obtain ⟨m2,e2⟩:=tbls b _ e1
  exact ⟨m1++m2,by rw [e2,Array.append_assoc]⟩
 ·obtain ⟨m,hn,hl⟩:=I.loc
  refine ⟨m,ns m hn,fun i x v e1 e2 e3=>?_⟩
  obtain ⟨u,r,l⟩:=hl i x v e1 e2 e3
  refine ⟨u,r,?_⟩
  rcases l with l|⟨k,c,e,z⟩
  ·exact .inl l
  ·exact .inr ⟨k,c,e,cellK x c e _ z⟩
 ·obtain ⟨v,z⟩:=I.cell x c e
  exact ⟨v,cellK x c e v z⟩
 ·obtain ⟨m,⟨o,_,_,ho,_⟩,_⟩:=I.loc
  exact free _ o (fun z=>(hch _ z).2.1 rfl) ho I.free
 ·obtain ⟨v,o,ho,hd⟩:=I.cell x c e
  exact free c o (fun z=>(hch c z).2.2.1 x c e rfl) ho (I.freeC x c e)
 ·obtain ⟨e,n,ne,nf,d⟩:=I.pin p hp
  have nch:p.1 ∉ ch:=fun z=>(hch p.1 z).2.2.2 p hp rfl
  exact ⟨keep p.1 p.2 ne nf nch e n,free p.1 p.2 nch e n,ne,nf,d⟩
theorem Inv.un {t':Nat} (I:Inv X pins σ H s) (u:Un X.fs [] H H' s.heap h') (hok:HOk X.prog X.w H' h'):Inv X pins σ H' { s with heap:=h',toks:=t' }:=by
 obtain ⟨m,⟨o,es,ep,ho,r⟩,_⟩:=id I.loc
 obtain ⟨sl,hL⟩:=u.any ho I.free (by simp)
 exact I.step (g':=s.gens) (d':=s.drawn) (ch:=[]) (fun _ z=>nomatch z) (fun b o _ hb _ e n=>u.keep b o e n hb (by simp)) (fun b o _ hb _ e n=>u.slot b o e n hb (by simp)) (fun b o _ e n=>u.free b o e n (by simp)) (fun b o _ e=>u.there b o e (by simp)) u.tups u.frzs u.tbls (fun m' hm=>by
  obtain ⟨o',es',ep',ho',r'⟩:=hm
  rw [ho] at ho'; cases ho'
  exact ⟨_,es',ep',hL,r'⟩) hok I.bare
theorem Inv.call {g':Array GenState} {t':Nat} {d':Drawn} {ch:List Addr} (I:Inv X pins σ H s) (u:Un (frs X.stack) ch H H' s.heap h') (hok:HOk X.prog X.w H' h') (hg:AllBare g')
  (hch:∀ b ∈ ch,(b ∈ X.ex∨X.s₀.heap.objs.size≤b)∧b≠X.env.locals∧(∀ x c,X.env.cells.lookup x=some c→c≠b)∧∀ p ∈ X.pn++pins,p.1≠b) :
  Inv X pins σ H' { s with heap:=h',gens:=g',drawn:=d',toks:=t' }:=by
 obtain ⟨m,⟨o,es,ep,ho,r⟩,_⟩:=id I.loc
 obtain ⟨sl,hL⟩:=u.any ho I.free fun z=>(hch _ z).2.1 rfl
 exact I.step (ch:=ch) hch (fun b o hL hb hc e n=>u.keep b o e n (fun z=>(List.mem_cons.mp (I.stkSub b z)).elim hL hb) hc) (fun b o _ _ hc e n=>u.any e n hc) (fun b o hc e n=>u.free b o e n hc) (fun b o hc e=>u.there b o e hc) u.tups u.frzs u.tbls (fun m' hm=>by
  obtain ⟨o',es',ep',ho',r'⟩:=hm
  rw [ho] at ho'; cases ho'
  exact ⟨_,es',ep',hL,r'⟩) hok hg
theorem Inv.turned {t':Nat} {it:Addr} (I:Inv X pins σ H s) (k:∀ b o,b≠it→s.heap.get? b=some o→h'.get? b=some o) (hn:H it=none) (hL:it≠X.env.locals)
  (h1:it ∈ X.ex∨X.s₀.heap.objs.size≤it) (h2:∀ x c,X.env.cells.lookup x=some c→c≠it) (h3:∀ p ∈ X.pn++pins,p.1≠it):Inv X pins σ H { s with heap:=h',toks:=t' }:=by
 have nit:∀ b u,H b=some u→b≠it:=fun b u e z=>by rw [z,hn] at e; cases e
 refine I.step (g':=s.gens) (d':=s.drawn) (ch:=[it]) (fun b hb=>?_) (fun b o _ _ hc e _=>k b o (fun z=>hc (by simp [z])) e) (fun b o _ _ hc e _=>⟨o.slots,k b o (fun z=>hc (by simp [z])) e⟩) (fun _ _ _ _ n=>n)
  (fun b o hc e=>⟨o,k b o (fun z=>hc (by simp [z])) e⟩) (fun _ _ e=>e) (fun _ _ _ e=>e) (fun b ps e=>⟨#[],by rw [e]; simp⟩) (fun m hm=>?_) (fun b u e=>?_) I.bare
 ·have e:b=it:=by simpa using hb
  subst e
  exact ⟨h1,hL,h2,h3⟩
 ·obtain ⟨o,es,ep,ho,r⟩:=hm
  exact ⟨o,es,ep,k _ o (Ne.symm hL) ho,r⟩
 ·refine (I.hok b u e).stay (fun c v hc q=>k c v ?_ q) (fun _ q=>q) fun _ _ q=>q
  rcases hc with z|z
  ·rw [z]; exact nit b u e
  ·exact nit c _ z
theorem Inv.tok (I:Inv X pins σ H s) (t:Nat):Inv X pins σ H { s with toks:=t }:=I.un (h':=s.heap) (t':=t) Un.refl I.hok
theorem Inv.kept {t':Nat} (I:Inv X pins σ H s) (k:∀ b u,s.heap.get? b=some u→h'.get? b=some u):Inv X pins σ H { s with heap:=h',toks:=t' }:=I.un (Un.kept k) (I.hok.kept k)
theorem Inv.laid {a:Addr} {o:HO} {t':Nat} (I:Inv X pins σ H s) (k:∀ b u,s.heap.get? b=some u→h'.get? b=some u) (hp:s.heap.objs.size≤a) (new:ObjOk X.prog X.w (upd H a o) h' a o) :
  Inv X pins σ (upd H a o) { s with heap:=h',toks:=t' }:=I.un (Un.laid k hp (I.hok.fresh hp)) (I.hok.laid k hp new)
theorem Inv.write {x e:Addr} {o:HO} {t':Nat} (I:Inv X pins σ H s) (mu:Mut (H x)) (he:e=x∨H e=some (.own x)) (k:∀ b u,b≠e→s.heap.get? b=some u→h'.get? b=some u) (heo:∃ u,h'.get? e=some u)
  (new:ObjOk X.prog X.w (upd H x o) h' x o):Inv X pins σ (upd H x o) { s with heap:=h',toks:=t' }:=I.un (Un.write mu he k heo) (I.hok.write mu he k heo new)
theorem Inv.pins_of {pins':List (Addr × Obj)} (I:Inv X pins σ H s) (h:∀ p ∈ pins',s.heap.get? p.1=some p.2∧H p.1=none∧p.1≠X.env.locals∧p.1 ∉ X.fs∧∀ v,p.2.data≠.cell v):Inv X pins' σ H s:=
 ⟨I.ok,I.os,I.bare,I.base,I.loc,I.cell,I.free,I.freeC,fun p hp=>(List.mem_append.mp hp).elim (fun z=>I.pin p (List.mem_append_left _ z)) (h p),I.hok,I.len⟩
theorem nodup_ix {N:List Str} (hN:N.Nodup) {i j:Nat} {x:Str} (a:N[i]?=some x) (b:N[j]?=some x):i=j:=by
 obtain ⟨h1,e1⟩:=List.getElem?_eq_some_iff.mp a
 obtain ⟨h2,e2⟩:=List.getElem?_eq_some_iff.mp b
 exact (List.getElem_inj hN).mp (e1.trans e2.symm)
theorem store_ok2 {M:Model} {A:Around} {E:Value→Shared→Prop} {i:Nat} {x:Str} {v:V} {u:Value} {Q:Unit→Shared→Prop} (I:Inv X pins σ H s) (hN:X.N.Nodup) (hi:X.N[i]?=some x) (hx:Loc X.env.scope x) (r:RelV v u)
  (h:∀ s',Inv X pins (σ.set i (some v)) H s'→(∃ a,Heap.SameBut a s.heap s'.heap∧(a=X.env.locals∨X.env.cells.lookup x=some a))→Q () s') (hf:X.fn x=true∨X.env.scope.names.lookup x=some .local:=by first|exact .inl rfl|exact .inr rfl|assumption):wpAny M A (storeName X.env x u) Q E s:=by
 obtain ⟨m,hn,hl⟩:=id I.loc
 have hcls:(X.env.scope.kind == .class || (X.env.scope.kind == .module&&X.env.locals != X.env.globals))=false:=by rw [I.ok.kind]; rfl
 have hiσ:i<σ.length:=by rw [I.len]; exact (List.getElem?_eq_some_iff.mp hi).1
 have cne:=I.cne
 have tracked:∀ {a:Addr} {h':Heap},(∃ o,s.heap.get? a=some o∧H a=none)→Heap.SameBut a s.heap h'→HOk X.prog X.w H h':=fun {a h'} ha hs b ob e=>by
  obtain ⟨_,_,hfree⟩:=ha
  refine (I.hok b ob e).stay (fun c w' hc q=>(hs.2 c ?_).trans q) (fun _ q=>q) fun _ _ q=>q
  rintro rfl
  rcases hc with rfl|hc
  ·rw [hfree] at e; cases e
  ·rw [hfree] at hc; cases hc
 rcases hx with hk|hk
 ·refine wpAny_storeName_local hk hn (fun h' hn' hs=>?_) hcls
  obtain ⟨oL,_,_,hoL,_⟩:=id hn
  refine h _ ⟨I.ok,I.os,I.bare,⟨fun b o e n hb hx=>?_,fun b o e n hb hx=>?_,I.base.free,fun b o e hx=>?_,I.base.tups,I.base.frzs,I.base.tbls⟩,⟨_,hn',fun j y v' e1 e2 e3=>?_⟩,fun y c e=>?_,I.free,I.freeC,fun p hp=>?_,tracked ⟨oL,hoL,I.free⟩ hs,by simpa using I.len⟩ ⟨_,hs,.inl rfl⟩
  ·exact (hs.2 b (Nat.ne_of_lt (Nat.lt_of_lt_of_le (Heap.lt_size e) I.ok.above))).trans (I.base.keep b o e n hb hx)
  ·obtain ⟨sl,e1⟩:=I.base.slot b o e n hb hx
   exact ⟨sl,(hs.2 b (Nat.ne_of_lt (Nat.lt_of_lt_of_le (Heap.lt_size e) I.ok.above))).trans e1⟩
  ·obtain ⟨o',e1⟩:=I.base.there b o e hx
   exact ⟨o',(hs.2 b (Nat.ne_of_lt (Nat.lt_of_lt_of_le (Heap.lt_size e) I.ok.above))).trans e1⟩
  ·by_cases hj:j=i
   ·subst hj
    rw [hi] at e1; cases e1
    rw [List.getElem?_set_self hiσ] at e2
    cases e2
    exact ⟨u,r,.inl ⟨hk,by simp⟩⟩
   ·rw [List.getElem?_set_ne (Ne.symm hj)] at e2
    obtain ⟨u',r',q⟩:=hl j y v' e1 e2 e3
    refine ⟨u',r',?_⟩
    rcases q with ⟨k,e⟩|⟨k,c,e,z⟩
    ·refine .inl ⟨k,?_⟩
     have:y≠x:=fun e=>hj (nodup_ix hN e1 (e ▸ hi))
     simp [this,e]
    ·exact .inr ⟨k,c,e,z.sameBut hs (cne y c e)⟩
  ·obtain ⟨w',z⟩:=I.cell y c e
   exact ⟨w',z.sameBut hs (cne y c e)⟩
  ·obtain ⟨e,n,ne,nf,d⟩:=I.pin p hp
   exact ⟨(hs.2 p.1 ne).trans e,n,ne,nf,d⟩
 ·have hfn:X.fn x=true:=by
   rcases hf with z|z
   ·exact z
   ·rw [z] at hk; cases hk
  obtain ⟨c,hc⟩:=I.ok.has x (.inl hk)
  obtain ⟨w',z⟩:=I.cell x c hc
  refine wpAny_storeName_cell I.ok.kind hk hc z (fun h' hc' hs=>?_)
  obtain ⟨oc,hoc,hocd⟩:=id z
  refine h { s with heap:=h' } ⟨I.ok,I.os,I.bare,⟨fun b o e n hb hx=>?_,fun b o e n hb hx=>?_,I.base.free,fun b o e hx=>?_,I.base.tups,I.base.frzs,I.base.tbls⟩,⟨m,hn.sameBut hs (Ne.symm (cne x c hc)),fun j y v' e1 e2 e3=>?_⟩,fun y c' e=>?_,I.free,I.freeC,fun p hp=>?_,tracked ⟨oc,hoc,I.freeC x c hc⟩ hs,by simpa using I.len⟩ ⟨c,hs,.inr hc⟩
  ·exact (hs.2 b (Nat.ne_of_lt (Nat.lt_of_lt_of_le (Heap.lt_size e) (I.ok.cab x c hfn hc)))).trans (I.base.keep b o e n hb hx)
  ·obtain ⟨sl,e1⟩:=I.base.slot b o e n hb hx
   exact ⟨sl,(hs.2 b (Nat.ne_of_lt (Nat.lt_of_lt_of_le (Heap.lt_size e) (I.ok.cab x c hfn hc)))).trans e1⟩
  ·obtain ⟨o',e1⟩:=I.base.there b o e hx
   exact ⟨o',(hs.2 b (Nat.ne_of_lt (Nat.lt_of_lt_of_le (Heap.lt_size e) (I.ok.cab x c hfn hc)))).trans e1⟩
  ·by_cases hj:j=i
   ·subst hj
    rw [hi] at e1; cases e1
    rw [List.getElem?_set_self hiσ] at e2
    cases e2
    exact ⟨u,r,.inr ⟨.inl hk,c,hc,hc'⟩⟩
   ·rw [List.getElem?_set_ne (Ne.symm hj)] at e2
    obtain ⟨u',r',q⟩:=hl j y v' e1 e2 e3
    refine ⟨u',r',?_⟩
    rcases q with q|⟨k,c',e,z'⟩
    ·exact .inl q
    ·refine .inr ⟨k,c',e,z'.sameBut hs ?_⟩
     rintro rfl
     exact hj (nodup_ix hN e1 (I.ok.inj _ _ _ e hc ▸ hi))
  ·by_cases hcc:c'=c
   ·subst hcc; exact ⟨_,hc'⟩
   ·obtain ⟨w2,z2⟩:=I.cell y c' e
    exact ⟨w2,z2.sameBut hs hcc⟩
  ·obtain ⟨e,n,ne,nf,d⟩:=I.pin p hp
   refine ⟨(hs.2 p.1 ?_).trans e,n,ne,nf,d⟩
   intro q
   rw [q,hoc] at e
   have q':oc=p.2:=Option.some.inj e
   exact d w' (by rw [← q']; exact hocd)
theorem store_ok {M:Model} {A:Around} {E:Value→Shared→Prop} {i:Nat} {x:Str} {v:V} {u:Value} {Q:Unit→Shared→Prop} (I:Inv X pins σ H s) (hN:X.N.Nodup) (hi:X.N[i]?=some x) (hx:Loc X.env.scope x) (r:RelV v u)
  (h:∀ s',Inv X pins (σ.set i (some v)) H s'→Q () s') (hf:X.fn x=true∨X.env.scope.names.lookup x=some .local:=by first|exact .inl rfl|exact .inr rfl|assumption):wpAny M A (storeName X.env x u) Q E s:=
 store_ok2 I hN hi hx r (fun s' I' _=>h s' I') hf
theorem Inv.call' {s':Shared} {ch:List Addr} (I:Inv X pins σ H s) (ho:s'.os=s.os) (u:Un (frs X.stack) ch H H' s.heap s'.heap) (hok:HOk X.prog X.w H' s'.heap) (hg:AllBare s'.gens)
  (hch:∀ b ∈ ch,(b ∈ X.ex∨X.s₀.heap.objs.size≤b)∧b≠X.env.locals∧(∀ x c,X.env.cells.lookup x=some c→c≠b)∧∀ p ∈ X.pn++pins,p.1≠b):Inv X pins σ H' s':=by
 obtain ⟨h',g',d',t',o'⟩:=s'
 have e:o'=s.os:=ho
 subst e
 exact I.call (g':=g') (t':=t') (d':=d') u hok hg hch
end
abbrev XK:=Value→Option Addr→Hp→Prop
abbrev St:=List (Option V)
abbrev VK:=V→Hp→Prop
abbrev TE:=St→Hp→VK→Prop
abbrev TT:=St→Hp→(Bool→Hp→Prop)→Prop
abbrev TA:=St→Hp→(List V→Hp→Prop)→Prop
structure Ends where
 nx:St→Hp→Prop
 rt:VK
 bk:St→Hp→Prop:=fun _ _=>False
 ct:St→Hp→Prop:=fun _ _=>False
abbrev TS:=Ends→St→Hp→Prop
def EP (X:Cx) (pins:List (Addr × Obj)) (σ:St) (Q:VK) (u:Value) (s':Shared):Prop:=∃ v H',Inv X pins σ H' s'∧RelV v u∧Q v H'
def TP (X:Cx) (pins:List (Addr × Obj)) (σ:St) (Q:Bool→Hp→Prop) (b:Bool) (s':Shared):Prop:=∃ H',Inv X pins σ H' s'∧Q b H'
def AP (X:Cx) (pins:List (Addr × Obj)) (σ:St) (Q:List V→Hp→Prop) (us:List Value) (s':Shared):Prop:=∃ vs H',Inv X pins σ H' s'∧Vals vs us∧Q vs H'
def SP (X:Cx) (pins:List (Addr × Obj)) (D:Ends) (f:Flow) (s':Shared):Prop:=
 match f with
 | .next=>∃ σ' H',Inv X pins σ' H' s'∧D.nx σ' H'
 | .brk=>∃ σ' H',Inv X pins σ' H' s'∧D.bk σ' H'
 | .cont=>∃ σ' H',Inv X pins σ' H' s'∧D.ct σ' H'
 | .ret u=>∃ v σ' H',Inv X pins σ' H' s'∧RelV v u∧D.rt v H'
def PE (X:Cx) (e:Expr) (t:TE):Prop:=
 ∀ (pins:List (Addr × Obj)) (s:Shared) (σ:St) (H:Hp) (Q:VK),Inv X pins σ H s→t σ H Q→wpAny (model X.prog X.w) X.A (eval e X.env) (EP X pins σ Q) X.xe s
def PT (X:Cx) (e:Expr) (t:TT):Prop:=
 ∀ (pins:List (Addr × Obj)) (s:Shared) (σ:St) (H:Hp) (Q:Bool→Hp→Prop),Inv X pins σ H s→t σ H Q→wpAny (model X.prog X.w) X.A (isTrue e X.env (eval e X.env)) (TP X pins σ Q) X.xe s
def PW (X:Cx) (e:Expr) (t:TT):Prop:=
 ∀ (whole:Sem Value) (pins:List (Addr × Obj)) (s:Shared) (σ:St) (H:Hp) (Q:Bool→Hp→Prop),Inv X pins σ H s→t σ H Q→wpAny (model X.prog X.w) X.A (isTrue e X.env whole) (TP X pins σ Q) X.xe s
theorem PW.pt {X:Cx} {e:Expr} {t:TT} (h:PW X e t):PT X e t:=h _
def PA (X:Cx) (es:List Expr) (t:TA):Prop:=
 ∀ (pos:Pos) (pins:List (Addr × Obj)) (s:Shared) (σ:St) (H:Hp) (Q:List V→Hp→Prop),Inv X pins σ H s→t σ H Q→wpAny (model X.prog X.w) X.A (spliced (backTo pos (starEach es X.env))) (AP X pins σ Q) X.xe s
def PS (X:Cx) (st:Stmt) (t:TS):Prop:=
 ∀ (pins:List (Addr × Obj)) (s:Shared) (σ:St) (H:Hp) (D:Ends),Inv X pins σ H s→t D σ H→wpAny (model X.prog X.w) X.A (exec st X.env) (SP X pins D) X.xe s
def PSs (X:Cx) (st:List Stmt) (t:TS):Prop:=
 ∀ (pins:List (Addr × Obj)) (s:Shared) (σ:St) (H:Hp) (D:Ends),Inv X pins σ H s→t D σ H→wpAny (model X.prog X.w) X.A (execs st X.env) (SP X pins D) X.xe s
theorem thn {α:Type} {t:Sem α} {Q Q':α→Shared→Prop} {M:Model} {A:Around} {E:Value→Shared→Prop} {s:Shared} (h:wpAny M A t Q E s) (hQ:∀ a s,Q a s→Q' a s):wpAny M A t Q' E s:=wpAny_mono h hQ fun _ _ x=>x
end L2
namespace L2
open PySem PySem.Spec PyProof.Rows
section
variable {X:Cx}
theorem bin {a b:Expr} {ta tb:TE} (ha:PE X a ta) (hb:PE X b tb) {pins:List (Addr × Obj)} {s:Shared} {σ:St} {H:Hp} {R:V→V→Hp→Prop} (I:Inv X pins σ H s) (h:ta σ H fun x H1=>tb σ H1 fun y H2=>R x y H2)
  {α:Type} {Q:α→Shared→Prop} {f:Value→Value→Sem α}
  (hf:∀ v u s2 x y H2,Inv X pins σ H2 s2→RelV x v→RelV y u→R x y H2→wpAny (model X.prog X.w) X.A (f v u) Q X.xe s2) :
  wpAny (model X.prog X.w) X.A (eval a X.env) (fun v s₁=>wpAny (model X.prog X.w) X.A (eval b X.env) (fun u s₂=>wpAny (model X.prog X.w) X.A (f v u) Q X.xe s₂) X.xe s₁) X.xe s:=by
 refine thn (ha pins s σ H _ I h) fun v s1 ⟨x,H1,I1,r1,q1⟩=>?_
 refine thn (hb pins s1 σ H1 _ I1 q1) fun u s2 ⟨y,H2,I2,r2,q2⟩=>?_
 exact hf v u s2 x y H2 I2 r1 r2 q2
def tVar (i:Nat):TE:=fun σ H Q=>∃ v,σ[i]?=some (some v)∧Q v H
def tC (v:V):TE:=fun _ H Q=>Q v H
theorem pe_var {i:Nat} {x:Str} {pos:Pos} (hN:X.N[i]?=some x) (hv:Vis X.env.scope x) (hd:(x == ("__debug__":Str))=false:=by decide) (hcd:(x == ("__classdict__":Str))=false:=by decide):PE X (.Name x pos) (tVar i):=by
 intro pins s σ H Q I h
 obtain ⟨v,e,h⟩:=h
 obtain ⟨m,hn,hl⟩:=I.loc
 obtain ⟨u,r,l⟩:=hl i x v hN e hv
 have fin:EP X pins σ Q u s:=⟨v,H,I,r,h⟩
 rcases l with ⟨hk,hm⟩|⟨hk,c,hc,hcell⟩
 ·exact wpAny_Name (wpAny_loadName_local I.ok.kind hk hn hm fin) hd
 ·rcases hk with hk|hk
  ·exact wpAny_Name (wpAny_loadName_cell I.ok.kind hk hc hcell fin) hd
  ·exact wpAny_Name (wpAny_loadName_free I.ok.kind hk hc hcell fin hcd) hd
theorem pe_int {i j pos}:PE X (.Constant (.int i) j pos) (tC (.int i)):=fun _ _ _ H _ I h=>wpAny_Constant_int ⟨.int i,H,I.tok _,⟨_,rfl⟩,h⟩
theorem pe_bl {b j pos}:PE X (.Constant (.bool b) j pos) (tC (.bl b)):=fun _ _ _ H _ I h=>Constant_bool ⟨.bl b,H,I,rfl,h⟩
theorem pe_non {j pos}:PE X (.Constant .none j pos) (tC .non):=fun _ _ _ H _ I h=>Constant_none ⟨.non,H,I,rfl,h⟩
theorem pe_str {x j pos}:PE X (.Constant (.str x) j pos) (tC (.str x)):=fun _ _ _ H _ I h=>Calls.Constant_str ⟨.str x,H,I.tok _,⟨_,rfl⟩,h⟩
def Gl (X:Cx) (x:Str):Prop:=X.env.kindOf x=some .globalImplicit
theorem ld_glob {E:Value→Shared→Prop} {pins:List (Addr × Obj)} {s:Shared} {σ:St} {H:Hp} {x:Str} {u:Value} {pos:Pos} {Q:Value→Shared→Prop} (I:Inv X pins σ H s) (hg:Gl X x) (hm:X.mg x=some u) (h:Q u s)
  (hd:(x == ("__debug__":Str))=false:=by decide):wpAny (model X.prog X.w) X.A (eval (.Name x pos) X.env) Q E s:=
 Calls.Name_function_global I.ok.kind hg (Calls.loadGlobal_global (by rw [I.ok.glob]; exact I.mod.glob.keeps I.bk) hm h) hd
theorem ld_blt {E:Value→Shared→Prop} {pins:List (Addr × Obj)} {s:Shared} {σ:St} {H:Hp} {x:Str} {u:Value} {pos:Pos} {Q:Value→Shared→Prop} (I:Inv X pins σ H s) (hg:Gl X x) (hm:X.mg x=none) (hv:bootBuiltins x=some u) (h:Q u s)
  (hn:x≠"__name__":=by decide) (hd:(x == ("__debug__":Str))=false:=by decide):wpAny (model X.prog X.w) X.A (eval (.Name x pos) X.env) Q E s:=by
 obtain ⟨mb,h1,h2⟩:=I.mod.blt
 exact Calls.Name_function_global I.ok.kind hg (Calls.loadGlobal_builtin (by rw [I.ok.glob]; exact I.mod.glob.keeps I.bk) hm (by rw [I.ok.blt]; exact h1.keeps I.bk) ((h2 x hn).trans hv) h) hd
theorem pe_glob {x:Str} {v:V} {u:Value} {pos:Pos} (hg:Gl X x) (hm:X.mg x=some u) (r:RelV v u) (hd:(x == ("__debug__":Str))=false:=by decide):PE X (.Name x pos) (tC v):=
 fun _ _ _ H _ I h=>ld_glob I hg hm ⟨v,H,I,r,h⟩ hd
theorem pe_bltn {x:Str} {v:V} {u:Value} {pos:Pos} (hg:Gl X x) (hm:X.mg x=none) (hv:bootBuiltins x=some u) (r:RelV v u) (hn:x≠"__name__":=by decide) (hd:(x == ("__debug__":Str))=false:=by decide):PE X (.Name x pos) (tC v):=
 fun _ _ _ H _ I h=>ld_blt I hg hm hv ⟨v,H,I,r,h⟩ hn hd
variable {a b:Expr}{ta tb:TE}{pos:Pos}
def PC (X:Cx) (op:CmpOp) (a b:Expr) (t:TE):Prop:=
 ∀ (pins:List (Addr × Obj)) (s:Shared) (σ:St) (H:Hp) (Q:VK),Inv X pins σ H s→t σ H Q →
  wpAny (model X.prog X.w) X.A (eval a X.env) (fun v s₁=>wpAny (model X.prog X.w) X.A (eval b X.env) (fun u s₂=>wpAny (model X.prog X.w) X.A (compareOp op v u) (EP X pins σ Q) X.xe s₂) X.xe s₁) X.xe s
theorem nobehind (b:Expr) {op:CmpOp} (h:op≠.In) (h2:op≠.NotIn):behindInMarks op b=false:=by
 have e1:(op == CmpOp.In)=false:=by cases op<;>first|rfl|exact absurd rfl h
 have e2:(op == CmpOp.NotIn)=false:=by cases op<;>first|rfl|exact absurd rfl h2
 cases b<;>simp [behindInMarks,e1,e2]
noncomputable def tB (t:TE):TT:=fun σ H Q=>t σ H fun x H1=>∃ c,x=.bl c∧Q c H1
theorem pe_cmp {op:CmpOp} {t:TE} (h:PC X op a b t) (h1:behindInMarks op b=false:=by first|exact nobehind _ (by decide) (by decide)|rfl):PE X (.Compare a [op] [b] pos) t:=fun pins s σ H Q I hw=>wpAny_Compare1 (h pins s σ H Q I hw) h1
theorem pt_cmp {op:CmpOp} {t:TE} (h:PC X op a b t) (h1:behindInMarks op b=false:=by first|exact nobehind _ (by decide) (by decide)|rfl):PT X (.Compare a [op] [b] pos) (tB t):=by
 intro pins s σ H Q I hw
 refine wpAny_isTrue_Compare1 (thn (h pins s σ H _ I hw) fun v s1 h1=>thn h1 fun u s2 h2=>thn h2 fun c s3 ⟨x,H1,I1,r1,q1⟩=>?_) h1
 obtain ⟨d,rfl,q⟩:=q1
 cases r1
 exact wpAny_truthy_bool ⟨H1,I1,q⟩
theorem pt_val {e:Expr} {t:TE} (h:PE X e t) (he:∀ whole,isTrue e X.env whole=(do let v ← whole; standAt e.pos; holding [v] (truthy v)):=by intro _; rfl):PT X e (tB t):=by
 intro pins s σ H Q I hw
 refine isTrue_plain (thn (h pins s σ H _ I hw) fun v s1 ⟨x,H1,I1,r1,q1⟩=>?_) (he _)
 obtain ⟨d,rfl,q⟩:=q1
 cases r1
 exact wpAny_truthy_bool ⟨H1,I1,q⟩
variable {tA tB':TT}{rest:List Expr}
noncomputable def tAnd (t u:TT):TT:=fun σ H Q=>t σ H fun c H1=>if c=true then u σ H1 Q else Q false H1
noncomputable def tOr (t u:TT):TT:=fun σ H Q=>t σ H fun c H1=>if c=true then Q true H1 else u σ H1 Q
noncomputable def tNot (t:TT):TT:=fun σ H Q=>t σ H fun c H1=>Q (!c) H1
theorem pw_and1 (ha:PT X a tA):PW X (.BoolOp .And [a] pos) tA:=by
 intro wh pins s σ H Q I h
 refine isTrue_and (thn (ha pins s σ H Q I h) fun c s1 e=>?_)
 cases c with
 | true=>exact isTrue_and_nil e
 | false=>exact e
theorem pw_or1 (ha:PT X a tA):PW X (.BoolOp .Or [a] pos) tA:=by
 intro wh pins s σ H Q I h
 refine isTrue_or (thn (ha pins s σ H Q I h) fun c s1 e=>?_)
 cases c with
 | false=>exact isTrue_or_nil e
 | true=>exact e
theorem pw_and (ha:PT X a tA) (hb:PW X (.BoolOp .And (b::rest) pos) tB'):PW X (.BoolOp .And (a::b::rest) pos) (tAnd tA tB'):=by
 intro wh pins s σ H Q I h
 refine isTrue_and (thn (ha pins s σ H _ I h) fun c s1 ⟨H1,I1,q1⟩=>?_)
 cases c with
 | true=>exact hb wh pins s1 σ H1 Q I1 q1
 | false=>exact ⟨H1,I1,q1⟩
theorem pw_or (ha:PT X a tA) (hb:PW X (.BoolOp .Or (b::rest) pos) tB'):PW X (.BoolOp .Or (a::b::rest) pos) (tOr tA tB'):=by
 intro wh pins s σ H Q I h
 refine isTrue_or (thn (ha pins s σ H _ I h) fun c s1 ⟨H1,I1,q1⟩=>?_)
 cases c with
 | true=>exact ⟨H1,I1,q1⟩
 | false=>exact hb wh pins s1 σ H1 Q I1 q1
theorem pt_not (ha:PT X a tA):PT X (.UnaryOp .Not a pos) (tNot tA):=by
 intro pins s σ H Q I h
 exact isTrue_not (ha pins s σ H (fun c H1=>Q (!c) H1) I h)
def tAndV (ta tb:TE):TE:=fun σ H Q=>ta σ H fun x H1=>∃ c,x=.bl c∧if c=true then tb σ H1 Q else Q (.bl false) H1
def tOrV (ta tb:TE):TE:=fun σ H Q=>ta σ H fun x H1=>∃ c,x=.bl c∧if c=true then Q (.bl true) H1 else tb σ H1 Q
theorem pe_one {op} {t:TE} (h:PE X a t):PE X (.BoolOp op [a] pos) t:=fun pins s σ H Q I hw=>BoolOp_one (h pins s σ H Q I hw)
theorem pe_and (ha:PE X a ta) (hb:PE X (.BoolOp .And (b::rest) pos) tb):PE X (.BoolOp .And (a::b::rest) pos) (tAndV ta tb):=by
 intro pins s σ H Q I h
 refine BoolOp_and (thn (ha pins s σ H _ I h) fun v s1 ⟨x,H1,I1,r1,q1⟩=>?_)
 obtain ⟨c,rfl,q1⟩:=q1
 cases r1
 refine wpAny_truthy_bool ?_
 cases c with
 | true=>exact hb pins s1 σ H1 Q I1 q1
 | false=>exact ⟨.bl false,H1,I1,rfl,q1⟩
theorem pe_or (ha:PE X a ta) (hb:PE X (.BoolOp .Or (b::rest) pos) tb):PE X (.BoolOp .Or (a::b::rest) pos) (tOrV ta tb):=by
 intro pins s σ H Q I h
 refine BoolOp_or (thn (ha pins s σ H _ I h) fun v s1 ⟨x,H1,I1,r1,q1⟩=>?_)
 obtain ⟨c,rfl,q1⟩:=q1
 cases r1
 refine wpAny_truthy_bool ?_
 cases c with
 | false=>exact hb pins s1 σ H1 Q I1 q1
 | true=>exact ⟨.bl true,H1,I1,rfl,q1⟩
def tIf (t:TT) (ta tb:TE):TE:=fun σ H Q=>t σ H fun c H1=>if c=true then ta σ H1 Q else tb σ H1 Q
theorem pe_ifExp {c:Expr} (hc:PT X c tA) (ha:PE X a ta) (hb:PE X b tb):PE X (.IfExp c a b pos) (tIf tA ta tb):=by
 intro pins s σ H Q I h
 refine wpAny_IfExp (thn (hc pins s σ H _ I h) fun d s1 ⟨H1,I1,q1⟩=>?_)
 cases d with
 | true=>exact ha pins s1 σ H1 Q I1 q1
 | false=>exact hb pins s1 σ H1 Q I1 q1
end
end L2
namespace L2
open PySem PySem.Spec PyProof.Rows
def SqL (K:PySem.W.Frag) (H:Hp) (a:Addr) (xs:List V):Prop:=
 Rd H a (.lst xs) ∨
  ∃ (o:Obj) (its:Array Value) (n:Nat),K.lookup a=some o∧o.cls=.type "list"∧o.dict=none∧o.data=.seq its n∧its.size≤sizeLine∧Vals xs its.toList
def SqT (K:PySem.W.Frag) (H:Hp) (a:Addr) (xs:List V):Prop:=
 Rd H a (.tup xs) ∨
  ∃ (o:Obj) (its:Array Value) (n:Nat),K.lookup a=some o∧o.cls=.type "tuple"∧o.data=.seq its n∧its.size≤sizeLine∧Vals xs its.toList
noncomputable def absV:Value→Option V
 | .none=>some .non
 | .bool b=>some (.bl b)
 | .int i _=>some (.int i)
 | .str x _=>some (.str x)
 | .bytes b _=>some (.byt b)
 | .float b _=>some (.flt b)
 | .ref a=>some (.ref a)
 | .type n=>some (.ty n)
 | _=>none
theorem RelV.abs {x:V} {u:Value} (r:RelV x u):absV u=some x:=by
 cases x with
 | non=>cases r; rfl
 | bl _=>cases r; rfl
 | int _=>obtain ⟨t,rfl⟩:=r; rfl
 | str _=>obtain ⟨t,rfl⟩:=r; rfl
 | byt _=>obtain ⟨t,rfl⟩:=r; rfl
 | flt _=>obtain ⟨t,rfl⟩:=r; rfl
 | ref _=>cases r; rfl
 | ty _=>cases r; rfl
theorem RelV.inj {x y:V} {u:Value} (r:RelV x u) (q:RelV y u):x=y:=Option.some.inj (r.abs.symm.trans q.abs)
theorem Vals.inj:∀ {xs ys:List V} {us:List Value},Vals xs us→Vals ys us→xs=ys
 | _,_,_,.nil,.nil=>rfl
 | _,_,_,.cons r t,.cons r' t'=>by rw [r.inj r',Vals.inj t t']
section
variable {X:Cx}{pins:List (Addr × Obj)}{σ:St}{H:Hp}{s:Shared}{a:Addr}{xs ys:List V}
theorem SqL.of {K:PySem.W.Frag} (h:H a=some (.lst xs)):SqL K H a xs:=.inl (.inl h)
theorem SqT.of {K:PySem.W.Frag} (h:H a=some (.tup xs)):SqT K H a xs:=.inl (.inl h)
theorem Inv.list (I:Inv X pins σ H s) (h:SqL X.K H a xs):∃ its:List Value,Vals xs its∧PlainL s.heap a its.toArray∧xs.length≤sizeLine:=by
 rcases h with h|⟨o,its,n,hk,hc,hd,hs,hz,r⟩
 ·obtain ⟨z,its,n,r,e⟩:=h.ok I.hok
  exact ⟨its,r,⟨_,n,e,rfl,rfl,rfl⟩,z⟩
 ·refine ⟨its.toList,r,⟨o,n,I.kIn a o hk,hc,hd,by simpa using hs⟩,?_⟩
  have e:=r.length
  simp only [Array.length_toList] at e
  omega
theorem Inv.tuple (I:Inv X pins σ H s) (h:SqT X.K H a xs):∃ its:List Value,Vals xs its∧IsTup s.heap a its.toArray∧xs.length≤sizeLine:=by
 rcases h with h|⟨o,its,n,hk,hc,hs,hz,r⟩
 ·obtain ⟨z,its,r,p⟩:=h.ok I.hok
  exact ⟨its,r,p,z⟩
 ·refine ⟨its.toList,r,⟨o,I.kIn a o hk,hc,n,by simpa using hs⟩,?_⟩
  have e:=r.length
  simp only [Array.length_toList] at e
  omega
theorem Inv.list_inj (I:Inv X pins σ H s) (h:SqL X.K H a xs) (h':SqL X.K H a ys):xs=ys:=by
 obtain ⟨its,r,⟨o,n,e,_,_,d⟩,_⟩:=I.list h
 obtain ⟨its',r',⟨o',n',e',_,_,d'⟩,_⟩:=I.list h'
 rw [e] at e'; cases e'
 rw [d] at d'
 injection d' with d1 _
 have:its=its':=by simpa using congrArg Array.toList d1
 subst this
 exact r.inj r'
theorem Inv.tuple_inj (I:Inv X pins σ H s) (h:SqT X.K H a xs) (h':SqT X.K H a ys):xs=ys:=by
 obtain ⟨its,r,⟨o,e,_,n,d⟩,_⟩:=I.tuple h
 obtain ⟨its',r',⟨o',e',_,n',d'⟩,_⟩:=I.tuple h'
 rw [e] at e'; cases e'
 rw [d] at d'
 injection d' with d1 _
 have:its=its':=by simpa using congrArg Array.toList d1
 subst this
 exact r.inj r'
end
abbrev Cx.wish (X:Cx) (E:Value→Shared→Prop):Cx:={ X with xe:=E }
abbrev Cx.nox (X:Cx):Cx:=X.wish fun _ _=>False
theorem Cx.Ok.wish {X:Cx} (ok:X.Ok) (E:Value→Shared→Prop):(X.wish E).Ok:=
 ⟨ok.mod,ok.kind,ok.glob,ok.blt,ok.above,ok.inj,ok.has,ok.cab,ok.hd,ok.frames,ok.stk,ok.exf,ok.bs,ok.bsz,ok.noex,ok.exfs,ok.funs,ok.frf⟩
theorem Cx.Ok.unwish {X:Cx} {E:Value→Shared→Prop} (ok:(X.wish E).Ok):X.Ok:=
 ⟨ok.mod,ok.kind,ok.glob,ok.blt,ok.above,ok.inj,ok.has,ok.cab,ok.hd,ok.frames,ok.stk,ok.exf,ok.bs,ok.bsz,ok.noex,ok.exfs,ok.funs,ok.frf⟩
section
variable {X:Cx}{pins:List (Addr × Obj)}{σ:St}{H:Hp}{s:Shared}{E:Value→Shared→Prop}
theorem Inv.wish (I:Inv X pins σ H s) (E:Value→Shared→Prop):Inv (X.wish E) pins σ H s:=⟨I.ok.wish E,I.os,I.bare,I.base,I.loc,I.cell,I.free,I.freeC,I.pin,I.hok,I.len⟩
theorem Inv.unwish (I:Inv (X.wish E) pins σ H s):Inv X pins σ H s:=⟨I.ok.unwish,I.os,I.bare,I.base,I.loc,I.cell,I.free,I.freeC,I.pin,I.hok,I.len⟩
end
section
variable {X:Cx}{st:Stmt}{rest:List Stmt}{t u:TS}{e:Expr}{te:TE}{pos:Pos}
def tNext:TS:=fun D σ H=>D.nx σ H
def tSeq (t u:TS):TS:=fun D σ H=>t { D with nx:=u D } σ H
theorem pss_nil:PSs X [] tNext:=fun _ _ σ H _ I h=>wpAny_execs_nil ⟨σ,H,I,h⟩
theorem pss_cons (h1:PS X st t) (h2:PSs X rest u):PSs X (st::rest) (tSeq t u):=by
 intro pins s σ H D I h
 refine wpAny_execs_cons (thn (h1 pins s σ H { D with nx:=u D } I h) fun f s1 q=>?_)
 cases f with
 | next =>
  obtain ⟨σ',H',I',q⟩:=q
  exact h2 pins s1 σ' H' D I' q
 | ret v=>exact q
 | brk=>exact q
 | cont=>exact q
theorem pss_one (h1:PS X st t):PSs X [st] t:=by
 intro pins s σ H D I h
 refine wpAny_execs_cons (thn (h1 pins s σ H D I h) fun f s1 q=>?_)
 cases f with
 | next=>exact wpAny_execs_nil q
 | ret v=>exact q
 | brk=>exact q
 | cont=>exact q
theorem ps_pass:PS X (.Pass pos) tNext:=fun _ _ σ H _ I h=>wpAny_Pass ⟨σ,H,I,h⟩
theorem Inv.quiet {pins:List (Addr × Obj)} {σ:St} {H:Hp} {s:Shared} (I:Inv X pins σ H s):interactive X.env=false:=by simp [interactive,I.ok.kind]
def tDrop (te:TE):TS:=fun D σ H=>te σ H fun _ H1=>D.nx σ H1
theorem ps_expr (he:PE X e te) (hs:swapsWith e none pos.line X.env=pure false:=by rfl):PS X (.Expr e pos) (tDrop te):=by
 intro pins s σ H D I h
 exact wpAny_Expr_any (thn (he pins s σ H _ I h) fun v s1 ⟨x,H1,I1,r1,q1⟩=>⟨σ,H1,I1,q1⟩) I.quiet hs
def tRet (te:TE):TS:=fun D σ H=>te σ H D.rt
theorem ps_ret (he:PE X e te):PS X (.Return (some e) pos) (tRet te):=by
 intro pins s σ H D I h
 exact wpAny_Return_some (thn (he pins s σ H _ I h) fun v s1 ⟨x,H1,I1,r1,q1⟩=>⟨x,σ,H1,I1,r1,q1⟩)
def tRetN:TS:=fun D _ H=>D.rt .non H
theorem ps_retN:PS X (.Return none pos) tRetN:=fun _ _ σ H _ I h=>wpAny_Return_none ⟨.non,σ,H,I,rfl,h⟩
def tIfS (c:TT) (t u:TS):TS:=fun D σ H=>c σ H fun b H1=>if b=true then t D σ H1 else u D σ H1
theorem ps_if {c:Expr} {a b:List Stmt} {tc:TT} (hc:PT X c tc) (ha:PSs X a t) (hb:PSs X b u):PS X (.If c a b pos) (tIfS tc t u):=by
 intro pins s σ H D I h
 refine wpAny_If (thn (hc pins s σ H _ I h) fun d s1 ⟨H1,I1,q1⟩=>?_)
 cases d with
 | true=>exact ha pins s1 σ H1 D I1 q1
 | false=>exact hb pins s1 σ H1 D I1 q1
end
abbrev TG:=V→St→Hp→(St→Hp→Prop)→Prop
abbrev TGs:=List V→St→Hp→(St→Hp→Prop)→Prop
def PG (X:Cx) (target:Expr) (t:TG):Prop:=
 ∀ (pins:List (Addr × Obj)) (s:Shared) (σ:St) (H:Hp) (v:V) (u:Value) (Q:St→Hp→Prop),Inv X pins σ H s→RelV v u→t v σ H Q →
  wpAny (model X.prog X.w) X.A (assign target X.env u) (fun _ s'=>∃ σ' H',Inv X pins σ' H' s'∧Q σ' H') X.xe s
def PGs (X:Cx) (ts:List Expr) (t:TGs):Prop:=
 ∀ (pins:List (Addr × Obj)) (s:Shared) (σ:St) (H:Hp) (vs:List V) (us:List Value) (Q:St→Hp→Prop),Inv X pins σ H s→Vals vs us→t vs σ H Q →
  wpAny (model X.prog X.w) X.A (assignInOrder ((assignEach ts X.env).map (·.2)) us) (fun _ s'=>∃ σ' H',Inv X pins σ' H' s'∧Q σ' H') X.xe s
abbrev TSet:=V→V→V→Hp→(Hp→Prop)→Prop
def PSet (X:Cx) (t:TSet):Prop:=
 ∀ (pins:List (Addr × Obj)) (s:Shared) (σ:St) (H:Hp) (o i v:V) (ov iv u:Value) (Q:Hp→Prop),Inv X pins σ H s→RelV o ov→RelV i iv→RelV v u→t o i v H Q →
  wpAny (model X.prog X.w) X.A (setItem ov iv u) (fun _ s'=>∃ H',Inv X pins σ H' s'∧Q H') X.xe s
section
variable {X:Cx}{pos:Pos}
def gName (i:Nat):TG:=fun v σ H Q=>Q (σ.set i (some v)) H
theorem pg_name {i:Nat} {x:Str} (hN:X.N.Nodup) (hi:X.N[i]?=some x) (hx:Loc X.env.scope x) (hf:X.fn x=true∨X.env.scope.names.lookup x=some .local:=by first|exact .inl rfl|exact .inr rfl|assumption):PG X (.Name x pos) (gName i):=by
 intro pins s σ H v u Q I r h
 exact wpAny_assign_Name (store_ok I hN hi hx r (fun s' I'=>⟨_,H,I',h⟩) hf)
noncomputable def gNil:TGs:=fun vs σ H Q=>vs=[]∧Q σ H
noncomputable def gCons (t:TG) (u:TGs):TGs:=fun vs σ H Q=>∃ v r,vs=v::r∧t v σ H fun σ' H'=>u r σ' H' Q
theorem pgs_nil:PGs X [] gNil:=by
 intro pins s σ H vs us Q I r h
 obtain ⟨e,h⟩:=h
 subst e
 cases r
 exact assignInOrder_nil ⟨σ,H,I,h⟩
theorem pgs_cons {e:Expr} {es:List Expr} {t:TG} {u:TGs} (h1:PG X e t) (h2:PGs X es u)
  (hs:(assignEach (e::es) X.env).map (·.2)=assign e X.env::(assignEach es X.env).map (·.2):=by rfl):PGs X (e::es) (gCons t u):=by
 intro pins s σ H vs us Q I r h
 obtain ⟨v,vr,e1,h⟩:=h
 subst e1
 cases r with
 | cons r rr =>
  rw [hs]
  refine assignInOrder_cons (thn (h1 pins s σ H _ _ _ I r h) fun _ s1 ⟨σ1,H1,I1,q1⟩=>?_)
  exact h2 pins s1 σ1 H1 _ _ Q I1 rr q1
def gTup (K:PySem.W.Frag) (n:Nat) (t:TGs):TG:=fun v σ H Q=>∃ a xs,v=.ref a∧SqT K H a xs∧xs.length=n∧t xs σ H Q
theorem pg_tup {es:List Expr} {k:Nat} {t:TGs} {n:Nat} (hc:X.calm=true) (h:PGs X es t)
  (hn:(assignEach es X.env).length=n:=by rfl) (hst:(assignEach es X.env).findIdx? (·.1)=none:=by rfl):PG X (.Tuple es k pos) (gTup X.K n t):=by
 intro pins s σ H v u Q I r hw
 obtain ⟨a,xs,e1,hq,hl,hw⟩:=hw
 subst e1
 cases r
 obtain ⟨its,rv,ht,hz⟩:=I.tuple hq
 refine assign_Tuple_tuple (I.ok.hd hc) ht (by simp [hn,← hl,rv.length]) hst fun h' hx=>?_
 have I1:Inv X pins σ H { s with heap:=h' }:=I.kept (t':=s.toks) fun b o e=>hx b o (Nat.ne_of_lt (Heap.lt_size e)) e
 exact h pins _ σ H xs _ Q I1 (by simpa using rv) hw
def gSub (to ti:TE) (t:TSet):TG:=fun v σ H Q=>to σ H fun o H1=>ti σ H1 fun i H2=>t o i v H2 fun H3=>Q σ H3
theorem pg_sub {o i:Expr} {to ti:TE} {t:TSet} (ho:PE X o to) (hi:PE X i ti) (hs:PSet X t)
  (ha:∀ v,assign (.Subscript o i pos) X.env v=(do
   let ov ← holding [v] (eval o X.env)
   let iv ← holding [v,ov] (eval i X.env)
   standAt pos
   holding [v,ov,iv] (setItem ov iv v)
   release [v,ov,iv] []):=by intro _; rfl):PG X (.Subscript o i pos) (gSub to ti t):=by
 intro pins s σ H v u Q I r h
 rw [ha]
 refine wpAny_bind (wpAny_holding (thn (ho pins s σ H _ I h) fun ov s1 ⟨x,H1,I1,r1,q1⟩=>?_))
 refine wpAny_bind (wpAny_holding (thn (hi pins s1 σ H1 _ I1 q1) fun iv s2 ⟨y,H2,I2,r2,q2⟩=>?_))
 refine wpAny_bind (wpAny_standAt (wpAny_bind (wpAny_holding (thn (hs pins s2 σ H2 x y v ov iv u _ I2 r1 r2 r q2) fun _ s3 ⟨H3,I3,q3⟩=>?_))))
 exact wpAny_release ⟨σ,H3,I3,q3⟩
def tAsg (te:TE) (g:TG):TS:=fun D σ H=>te σ H fun x H1=>g x σ H1 D.nx
theorem ps_asg {tg e:Expr} {te:TE} {g:TG} (he:PE X e te) (hg:PG X tg g) (hs:swapsWithSole [tg] e pos.line X.env=pure false:=by rfl) (hw:swappedStores [tg] e X.env=pure none:=by rfl)
  (h1:(assignEach [tg] X.env).map (·.2)=[assign tg X.env]:=by rfl):PS X (.Assign [tg] e pos) (tAsg te g):=by
 intro pins s σ H D I h
 refine wpAny_Assign_stores (thn (he pins s σ H _ I h) fun v s1 ⟨x,H1,I1,r1,q1⟩=>?_) hs hw
 rw [h1]
 exact thn (hg pins s1 σ H1 x v _ I1 r1 q1) fun _ s2 q=>q
theorem ps_set {i:Nat} {x:Str} {e:Expr} {te:TE} {pos':Pos} (hN:X.N.Nodup) (hi:X.N[i]?=some x) (hx:Loc X.env.scope x) (he:PE X e te) (hs:swapsWith e (some (.Name x pos')) pos.line X.env=pure false:=by rfl) (hf:X.fn x=true∨X.env.scope.names.lookup x=some .local:=by first|exact .inl rfl|exact .inr rfl|assumption) :
  PS X (.Assign [.Name x pos'] e pos) (tAsg te (gName i)):=by
 intro pins s σ H D I h
 refine wpAny_Assign_Name (thn (he pins s σ H _ I h) fun v s1 ⟨y,H1,I1,r1,q1⟩=>?_) hs
 exact store_ok I1 hN hi hx r1 (fun s2 I2=>⟨_,H1,I2,q1⟩) hf
end
section
variable {X:Cx}{pos:Pos}
end
structure It where
 go:Nat→Hp→Prop
 yld:Nat→Hp→V→Hp→Prop
 stop:Nat→Hp→Prop
def FpOk (X:Cx) (pins:List (Addr × Obj)) (H:Hp) (b:Addr):Prop:=
 H b=none∧b≠X.env.locals∧b ∉ X.fs∧(b ∈ X.ex∨X.s₀.heap.objs.size≤b)∧(∀ x c,X.env.cells.lookup x=some c→c≠b)∧∀ p ∈ X.pn++pins,p.1≠b
theorem Inv.fpOk {X:Cx} {pins:List (Addr × Obj)} {σ:St} {H H':Hp} {s:Shared} {b:Addr} (I:Inv X pins σ H s) (hb:s.heap.objs.size≤b) (hn:H' b=none):FpOk X pins H' b:=by
 refine ⟨hn,Nat.ne_of_gt (Nat.lt_of_lt_of_le I.lt hb),I.nofs hb,.inr (Nat.le_trans I.sz hb),fun x c e z=>?_,fun p hp z=>?_⟩
 ·obtain ⟨v,q⟩:=I.cell x c e
  exact absurd (Nat.lt_of_lt_of_le q.lt (by rw [z]; exact hb)) (Nat.lt_irrefl _)
 ·exact absurd (Nat.lt_of_lt_of_le (Heap.lt_size (I.pin p hp).1) (by rw [z]; exact hb)) (Nat.lt_irrefl _)
structure Turn (P:Program) (w:World) (K:PySem.W.Frag) (tg:Expr) (J:It) (fp:List Addr) (it:Addr) (tn:Nat→Heap→Prop):Prop where
 mem:it ∈ fp
 obj:∀ i h,tn i h→∀ b ∈ fp,∃ o,h.get? b=some o∧∀ v,o.data≠.cell v
 keep:∀ i h h',tn i h→(∀ b ∈ fp,∀ o,h.get? b=some o→h'.get? b=some o)→tn i h'
 item:∀ (X:Cx),X.prog=P→X.w=w→X.K=K→X.calm=true→∀ (i:Nat) (pins:List (Addr × Obj)) (s:Shared) (σ:St) (H:Hp) (E:Value→Shared→Prop),Inv X pins σ H s→(∀ b ∈ fp,FpOk X pins H b)→tn i s.heap→J.go i H →
  wpAny (model P w) X.A (pyNext (.ref it)) (fun r s1=>∃ u,r=some u ∧
   wpAny (model P w) X.A (letOwnedTupleGo tg (.ref it) u) (fun _ s2=>∃ x H',Inv X pins σ H' s2∧RelV x u∧J.yld i H x H'∧tn (i+1) s2.heap∧∀ b ∈ fp,H' b=none) E s1) E s
 done:∀ (X:Cx),X.prog=P→X.w=w→X.K=K→X.calm=true→∀ (i:Nat) (pins:List (Addr × Obj)) (s:Shared) (σ:St) (H:Hp) (E:Value→Shared→Prop),Inv X pins σ H s→(∀ b ∈ fp,FpOk X pins H b)→tn i s.heap→J.stop i H →
  wpAny (model P w) X.A (pyNext (.ref it)) (fun r s1=>r=none∧Inv X pins σ H s1) E s
 self:∀ (A:Around) (i:Nat) (s:Shared) (Q:Value→Shared→Prop) (E:Value→Shared→Prop),tn i s.heap→Q (.ref it) s→wpAny (model P w) A (pyIter (.ref it)) Q E s
abbrev TI:=St→Hp→(It→Hp→Prop)→Prop
def PIE (X:Cx) (pins:List (Addr × Obj)) (σ:St) (tg:Expr) (R:It→Hp→Prop) (itv:Value) (s2:Shared):Prop:=
 ∃ (it:Addr) (fp:List Addr) (tn:Nat→Heap→Prop) (J:It) (H':Hp),itv=.ref it∧Inv X pins σ H' s2∧Turn X.prog X.w X.K tg J fp it tn∧tn 0 s2.heap∧(∀ b ∈ fp,FpOk X pins H' b)∧R J H'
def PI (X:Cx) (tg iter:Expr) (wi:TI):Prop:=
 ∀ (pins:List (Addr × Obj)) (s:Shared) (σ:St) (H:Hp) (R:It→Hp→Prop),Inv X pins σ H s→wi σ H R →
  wpAny (model X.prog X.w) X.A (eval iter X.env) (fun v s1=>wpAny (model X.prog X.w) X.A (pyIter v) (PIE X pins σ tg R) X.xe s1) X.xe s
theorem go_of {M:Model} {A:Around} {E:Value→Shared→Prop} {s:Shared} {tg:Expr} {it:Addr} {u:Value} {o:Obj} {n:String} {vs:Array Value} {Q:Unit→Shared→Prop} (ho:s.heap.get? it=some o) (hc:o.cls=.type n) (hd:o.data=.fields vs)
  (hn:["enumerate","zip","dict_itemiterator","dict_reverseitemiterator","odict_iterator","itertools.zip_longest","itertools.pairwise"].contains n=false) (hQ:Q () s):wpAny M A (letOwnedTupleGo tg (.ref it) u) Q E s:=by
 unfold letOwnedTupleGo
 cases tg<;>first
  | exact wpAny_pure hQ
  | (cases u<;>first
    | exact wpAny_pure hQ
    | (refine wpAny_bind (wpAny_load ho ?_)
       rw [hc,hd]
       show wpAny M A (if (["enumerate","zip","dict_itemiterator","dict_reverseitemiterator","odict_iterator","itertools.zip_longest","itertools.pairwise"].contains n&&vs[0]? == some (rawInt _))=true then _ else _) Q E s
       rw [if_neg (by intro h; rw [hn,Bool.false_and] at h; cases h)]
       exact wpAny_pure hQ))
noncomputable def Itl (K:PySem.W.Frag) (a:Addr):It:=
 ⟨fun i H=>∃ xs x,SqL K H a xs∧xs[i]?=some x,fun i H x H'=>H'=H∧∀ xs,SqL K H a xs→xs[i]?=some x,fun i H=>∃ xs,SqL K H a xs∧xs.length≤i⟩
noncomputable def Itt (K:PySem.W.Frag) (a:Addr):It:=
 ⟨fun i H=>∃ xs x,SqT K H a xs∧xs[i]?=some x,fun i H x H'=>H'=H∧∀ xs,SqT K H a xs→xs[i]?=some x,fun i H=>∃ xs,SqT K H a xs∧xs.length≤i⟩
noncomputable def Itr (lo:Int) (n:Nat):It:=⟨fun i _=>i<n,fun i H x H'=>H'=H∧x=.int (lo+i),fun i _=>n≤i⟩
theorem turn_list {P:Program} {w:World} {K:PySem.W.Frag} {tg:Expr} (a it:Addr):Turn P w K tg (Itl K a) [it] it (fun i h=>h.IsListIter it a i) where
 mem:=by simp
 obj:=fun i h st b hb=>by
  have e:b=it:=by simpa using hb
  subst e
  obtain ⟨o,e,c,d⟩:=st
  exact ⟨o,e,fun v z=>by rw [d] at z; cases z⟩
 keep:=fun i h h' st k=>st.at fun o e=>k it (by simp) o e
 item:=by
  intro X hP hw hK hc i pins s σ H E I hf st hg
  subst hP hw hK
  obtain ⟨xs,x,hq,hx⟩:=hg
  obtain ⟨its,rv,p,hz⟩:=I.list hq
  obtain ⟨u,hu,ru⟩:=rv.get hx
  obtain ⟨f0,f1,f2,f3,f4,f5⟩:=hf it (by simp)
  refine wpAny_pyNext_list_item st p.isList (x:=u) (by simpa using hu) fun h' st' sb=>?_
  have I1:Inv X pins σ H { s with heap:=h' }:=I.turned (t':=s.toks) (fun b o hb e=>(sb.2 b hb).trans e) f0 f1 f3 f4 f5
  obtain ⟨o,e,c,d⟩:=id st'
  exact ⟨u,rfl,go_of (s:={ s with heap:=h' }) e c d (by decide) ⟨x,H,I1,ru,⟨rfl,fun ys hy=>by rw [I.list_inj hy hq]; exact hx⟩,st',fun b hb=>(hf b hb).1⟩⟩
 done:=by
  intro X hP hw hK hc i pins s σ H E I hf st hg
  subst hP hw hK
  obtain ⟨xs,hq,hx⟩:=hg
  obtain ⟨its,rv,p,hz⟩:=I.list hq
  obtain ⟨f0,f1,f2,f3,f4,f5⟩:=hf it (by simp)
  have hl:=rv.length
  exact wpAny_pyNext_list_end (I.ok.hd hc) st p.isList (by simp; omega) fun h' eb=>⟨rfl,I.turned (t':=s.toks) (fun b o hb e=>eb b o hb e) f0 f1 f3 f4 f5⟩
 self:=fun _ _ _ _ _ st h=>wpAny_pyIter_listiter st h
theorem turn_tuple {P:Program} {w:World} {K:PySem.W.Frag} {tg:Expr} (a it:Addr):Turn P w K tg (Itt K a) [it] it (fun i h=>h.IsTupleIter it a i) where
 mem:=by simp
 obj:=fun i h st b hb=>by
  have e:b=it:=by simpa using hb
  subst e
  obtain ⟨o,e,c,d⟩:=st
  exact ⟨o,e,fun v z=>by rw [d] at z; cases z⟩
 keep:=fun i h h' st k=>st.at fun o e=>k it (by simp) o e
 item:=by
  intro X hP hw hK hc i pins s σ H E I hf st hg
  subst hP hw hK
  obtain ⟨xs,x,hq,hx⟩:=hg
  obtain ⟨its,rv,p,hz⟩:=I.tuple hq
  obtain ⟨u,hu,ru⟩:=rv.get hx
  obtain ⟨f0,f1,f2,f3,f4,f5⟩:=hf it (by simp)
  refine wpAny_pyNext_tuple_item st (show s.heap.IsTuple a its.toArray from p) (x:=u) (by simpa using hu) fun h' st' sb=>?_
  have I1:Inv X pins σ H { s with heap:=h' }:=I.turned (t':=s.toks) (fun b o hb e=>(sb.2 b hb).trans e) f0 f1 f3 f4 f5
  obtain ⟨o,e,c,d⟩:=id st'
  exact ⟨u,rfl,go_of (s:={ s with heap:=h' }) e c d (by decide) ⟨x,H,I1,ru,⟨rfl,fun ys hy=>by rw [I.tuple_inj hy hq]; exact hx⟩,st',fun b hb=>(hf b hb).1⟩⟩
 done:=by
  intro X hP hw hK hc i pins s σ H E I hf st hg
  subst hP hw hK
  obtain ⟨xs,hq,hx⟩:=hg
  obtain ⟨its,rv,p,hz⟩:=I.tuple hq
  obtain ⟨f0,f1,f2,f3,f4,f5⟩:=hf it (by simp)
  have hl:=rv.length
  exact wpAny_pyNext_tuple_end (I.ok.hd hc) st (show s.heap.IsTuple a its.toArray from p) (by simp; omega) fun h' eb=>⟨rfl,I.turned (t':=s.toks) (fun b o hb e=>eb b o hb e) f0 f1 f3 f4 f5⟩
 self:=fun _ _ _ _ _ st h=>wpAny_pyIter_tupleiter st h
theorem turn_range {P:Program} {w:World} {K:PySem.W.Frag} {tg:Expr} (it:Addr) (lo:Int) (n:Nat):Turn P w K tg (Itr lo n) [it] it (fun i h=>IsRangeIter h it (lo+(i:Nat)*1) ((n:Int)-(i:Nat)) 1) where
 mem:=by simp
 obj:=fun i h st b hb=>by
  have e:b=it:=by simpa using hb
  subst e
  exact ⟨_,st,fun v z=>by
   have z':Data.fields _=Data.cell v:=z
   cases z'⟩
 keep:=fun i h h' st k=>k it (by simp) _ st
 item:=by
  intro X hP hw hK hc i pins s σ H E I hf st hg
  subst hP hw hK
  obtain ⟨f0,f1,f2,f3,f4,f5⟩:=hf it (by simp)
  have W:=Walks.range (prog:=X.prog) (w:=X.w) (I.ok.hd hc) it lo 1 n
  refine W.item i s _ _ hg st fun v h' tk hv st' kk=>?_
  obtain ⟨t,rfl⟩:=hv
  have I1:Inv X pins σ H { s with heap:=h',toks:=tk }:=I.turned (fun b o hb e=>kk b o (by simpa using hb) e) f0 f1 f3 f4 f5
  refine ⟨_,rfl,go_of (s:={ s with heap:=h',toks:=tk }) (n:="range_iterator") st' rfl rfl (by decide) ⟨.int (lo+i),H,I1,⟨t,?_⟩,⟨rfl,rfl⟩,st',fun b hb=>(hf b hb).1⟩⟩
  rw [Int.mul_one]
 done:=by
  intro X hP hw hK hc i pins s σ H E I hf st hg
  subst hP hw hK
  obtain ⟨f0,f1,f2,f3,f4,f5⟩:=hf it (by simp)
  exact wpAny_pyNext_range_end (I.ok.hd hc) st (by have:n≤i:=hg; omega) fun h' eb=>⟨rfl,I.turned (t':=s.toks) (fun b o hb e=>eb b o hb e) f0 f1 f3 f4 f5⟩
 self:=fun _ _ _ _ _ st h=>wpAny_pyIter_rangeiter st h
end L2
namespace L2
open PySem PySem.Spec PyProof.Rows
section
variable {X:Cx}{tg:Expr}
theorem range_it {pins:List (Addr × Obj)} {σ:St} {H:Hp} {s:Shared} {R:It→Hp→Prop} {E:Value→Shared→Prop} {lo hi:Int} {t u v:Tok} {tk:Nat} (I:Inv X pins σ H s) (h1:-(2 ^ 62)≤lo) (h2:lo<2 ^ 62) (h3:-(2 ^ 62)≤hi) (h4:hi<2 ^ 62)
  (q:R (Itr lo (hi-lo).toNat) H):wpAny (model X.prog X.w) X.A (pyIter (.ref s.heap.objs.size)) (PIE X pins σ tg R) E { s with heap:=s.heap.push { cls:=.type "range",data:=.fields #[.int lo t,.int hi u,.int 1 v] },toks:=tk }:=by
 refine wpAny_pyIter_range (IsRange.new ..) (small_one h1 h2 h3 h4) ?_
 have I1:Inv X pins σ H { s with heap:=s.heap.push { cls:=.type "range",data:=.fields #[.int lo t,.int hi u,.int 1 v] },toks:=tk }:=I.kept fun b o e=>Heap.get?_push_of_some _ e
 refine ⟨(s.heap.push { cls:=.type "range",data:=.fields #[.int lo t,.int hi u,.int 1 v] }).objs.size,[(s.heap.push { cls:=.type "range",data:=.fields #[.int lo t,.int hi u,.int 1 v] }).objs.size],_,_,H,rfl,
  I1.kept (t':=tk) fun b o e=>Heap.get?_push_of_some _ e,turn_range _ lo (hi-lo).toNat,?_,fun b hb=>?_,q⟩
 ·have e1:lo+((0:Nat):Int)*1=lo:=by simp
  have e2:(((hi-lo).toNat:Nat):Int)-((0:Nat):Int)=Builtin.Range.rangeSize lo hi 1:=by rw [rangeSize_one]; split<;>omega
  show IsRangeIter _ _ (lo+((0:Nat):Int)*1) ((((hi-lo).toNat:Nat):Int)-((0:Nat):Int)) 1
  rw [e1,e2]
  exact Heap.get?_push_size _ rfl
 ·have e:b=(s.heap.push { cls:=.type "range",data:=.fields #[.int lo t,.int hi u,.int 1 v] }).objs.size:=by simpa using hb
  subst e
  exact I1.fpOk (Nat.le_refl _) (I1.hok.fresh (Nat.le_refl _))
def iRng1 (ta:TA):TI:=fun σ H R=>ta σ H fun vs H1=>∃ j:Int,vs=[.int j]∧-(2 ^ 62)≤j∧j<2 ^ 62∧R (Itr 0 j.toNat) H1
def iRng2 (ta:TA):TI:=fun σ H R=>ta σ H fun vs H1=>∃ i j:Int,vs=[.int i,.int j]∧(-(2 ^ 62)≤i∧i<2 ^ 62∧-(2 ^ 62)≤j∧j<2 ^ 62)∧R (Itr i (j-i).toNat) H1
theorem pi_range1 {a:Expr} {ta:TA} {p pos:Pos} (hg:Gl X "range") (hm:X.mg "range" = none) (ha:PA X [a] ta) (hs:starEach [a] X.env=[(false,eval a X.env)]:=by rfl):PI X tg (.Call (.Name "range" p) [a] [] pos) (iRng1 ta):=by
 intro pins s σ H R I h
 refine Call_ (ld_blt I hg hm boot_range (PyProof.Rows.callWith_type1 (thn (ha pos pins s σ H _ I h) fun us s1 ⟨vs,H1,I1,r1,q1⟩=>?_) hs rfl))
 obtain ⟨j,e,q1,q2,q⟩:=q1
 subst e
 cases r1 with
 | cons r rr =>
  cases rr
  obtain ⟨t,rfl⟩:=r
  exact call_range_1 (range_it I1 (by omega) (by omega) q1 q2 (by simpa using q))
theorem pi_range2 {a b:Expr} {ta:TA} {p pos:Pos} (hg:Gl X "range") (hm:X.mg "range" = none) (ha:PA X [a,b] ta) (hs:starEach [a,b] X.env=[(false,eval a X.env),(false,eval b X.env)]:=by rfl) (hs2:starEach [b] X.env=[(false,eval b X.env)]:=by rfl) :
  PI X tg (.Call (.Name "range" p) [a,b] [] pos) (iRng2 ta):=by
 intro pins s σ H R I h
 refine Call_ (ld_blt I hg hm boot_range (PyProof.Rows.callWith_type1 (thn (ha pos pins s σ H _ I h) fun us s1 ⟨vs,H1,I1,r1,q1⟩=>?_) (by rw [hs,hs2]) (by rw [hs2]; rfl)))
 obtain ⟨i,j,e,⟨q1,q2,q3,q4⟩,q⟩:=q1
 subst e
 cases r1 with
 | cons r rr =>
  cases rr with
  | cons r' rr =>
   cases rr
   obtain ⟨t,rfl⟩:=r
   obtain ⟨t',rfl⟩:=r'
   exact call_range_2 (range_it I1 q1 q2 q3 q4 q)
def tFor (wi:TI) (g:TG) (tb:TS):TS:=fun D σ H=>wi σ H fun J H1=>∃ W:Nat→Nat→St→Hp→Prop,(∃ m,W 0 m σ H1)∧∀ i m σ H,W i m σ H →
 (J.stop i H∧D.nx σ H)∨(J.go i H∧∃ N:St→Hp→Prop,(∀ σ' H',N σ' H'→∃ m',m'<m∧W (i+1) m' σ' H')∧∀ x H',J.yld i H x H'→g x σ H' fun σ2 H2=>tb { D with nx:=N,ct:=N,bk:=D.nx } σ2 H2)
noncomputable def pinsAt (fp:List Addr) (h:Heap):List (Addr × Obj):=fp.filterMap fun b=>(h.get? b).map fun o=>(b,o)
theorem mem_pinsAt {fp:List Addr} {h:Heap} {b:Addr} {o:Obj} (hb:b ∈ fp) (e:h.get? b=some o):(b,o) ∈ pinsAt fp h:=List.mem_filterMap.mpr ⟨b,hb,by rw [e]; rfl⟩
theorem of_pinsAt {fp:List Addr} {h:Heap} {p:Addr × Obj} (hp:p ∈ pinsAt fp h):p.1 ∈ fp∧h.get? p.1=some p.2:=by
 obtain ⟨b,hb,e⟩:=List.mem_filterMap.mp hp
 cases q:h.get? b with
 | none=>rw [q] at e; cases e
 | some o =>
  rw [q] at e
  have e':(b,o)=p:=Option.some.inj e
  subst e'
  exact ⟨hb,q⟩
theorem Inv.pinned {pins:List (Addr × Obj)} {σ:St} {H:Hp} {s:Shared} {fp:List Addr} (I:Inv X pins σ H s) (hf:∀ b ∈ fp,FpOk X pins H b) (ho:∀ b ∈ fp,∃ o,s.heap.get? b=some o∧∀ v,o.data≠.cell v):Inv X (pins++pinsAt fp s.heap) σ H s:=
 I.pins_of fun p hp=>(List.mem_append.mp hp).elim (fun z=>I.pin p (List.mem_append_right _ z)) fun z=>by
  obtain ⟨hb,e⟩:=of_pinsAt z
  obtain ⟨f0,f1,f2,_⟩:=hf p.1 hb
  obtain ⟨o,e',d⟩:=ho p.1 hb
  rw [e] at e'; cases e'
  exact ⟨e,f0,f1,f2,d⟩
theorem Inv.unpinned {pins pl:List (Addr × Obj)} {σ:St} {H:Hp} {s:Shared} (I:Inv X (pins++pl) σ H s):Inv X pins σ H s:=I.pins_of fun p hp=>I.pin p (List.mem_append_right _ (List.mem_append_left _ hp))
theorem ps_for {iter:Expr} {body:List Stmt} {wi:TI} {g:TG} {tb:TS} {pos:Pos} (hp:PassesOwn (model X.prog X.w) X.A X.env X.xe) (hc:X.calm=true) (hi:PI X tg iter wi) (hg:PG X tg g) (hb:PSs X body tb)
  (hs:∀ x,foldedSetIterable iter X.env x=pure x:=by intro _; rfl):PS X (.For tg iter body [] pos) (tFor wi g tb):=by
 intro pins s σ H D I h
 refine wpAny_For (thn (hi pins s σ H _ I h) fun v s1 h1=>thn h1 fun itv s2 h2=>?_) hs
 obtain ⟨it,fp,tn,J,H2,e,I2,T,st2,f2,W,⟨m0,w0⟩,turn⟩:=h2
 subst e
 have stat:∀ {H':Hp},(∀ b ∈ fp,H' b=none)→∀ b ∈ fp,FpOk X pins H' b:=fun hn b hb=>⟨hn b hb,(f2 b hb).2⟩
 refine codeAny_forLoop_any (fun n s'=>∃ i σ' H',Inv X pins σ' H' s'∧tn i s'.heap∧(∀ b ∈ fp,H' b=none)∧W i n σ' H') ?_ m0 ⟨0,σ,H2,I2,st2,fun b hb=>(f2 b hb).1,w0⟩
 rintro n s3 ⟨i,σ3,H3,I3,st3,fr3,w3⟩
 rcases turn i n σ3 H3 w3 with ⟨stop,qn⟩|⟨go,N,hN,step⟩
 ·refine wpAny_passesOwn hp (thn (T.done X rfl rfl rfl hc i pins s3 σ3 H3 X.xe I3 (stat fr3) st3 stop) fun r s4 ⟨hr,I4⟩=>?_)
  subst hr
  exact wpAny_execs_nil ⟨σ3,H3,I4,qn⟩
 ·refine wpAny_passesOwn hp (thn (T.item X rfl rfl rfl hc i pins s3 σ3 H3 X.xe I3 (stat fr3) st3 go) fun r s4 ⟨u,hr,h4⟩=>?_)
  subst hr
  refine wpAny_passesOwn hp (thn h4 fun _ s5 ⟨x,H5,I5,r5,y5,st5,fr5⟩=>?_)
  have I5':=I5.pinned (stat fr5) (T.obj _ _ st5)
  refine wpAny_passesOwn hp (thn (hg _ s5 σ3 H5 x u _ I5' r5 (step x H5 y5)) fun _ s6 ⟨σ6,H6,I6,q6⟩=>?_)
  refine wpAny_passesOwn hp (thn (hb _ s6 σ6 H6 _ I6 q6) fun f s7 q7=>?_)
  have again:∀ {σ7:St} {H7:Hp},Inv X (pins++pinsAt fp s5.heap) σ7 H7 s7→N σ7 H7→∃ m,m<n∧∃ i σ' H',Inv X pins σ' H' s7∧tn i s7.heap∧(∀ b ∈ fp,H' b=none)∧W i m σ' H':=fun {σ7 H7} I7 n7=>by
   obtain ⟨m',hm,w7⟩:=hN σ7 H7 n7
   refine ⟨m',hm,i+1,σ7,H7,I7.unpinned,T.keep _ _ _ st5 fun b hb o e=>(I7.pin (b,o) (List.mem_append_right _ (List.mem_append_right _ (mem_pinsAt hb e)))).1,fun b hb=>?_,w7⟩
   obtain ⟨o,e,d⟩:=T.obj _ _ st5 b hb
   exact (I7.pin (b,o) (List.mem_append_right _ (List.mem_append_right _ (mem_pinsAt hb e)))).2.1
  cases f with
  | next=>obtain ⟨σ7,H7,I7,n7⟩:=q7; exact again I7 n7
  | cont=>obtain ⟨σ7,H7,I7,n7⟩:=q7; exact again I7 n7
  | brk=>obtain ⟨σ7,H7,I7,q7⟩:=q7; exact ⟨σ7,H7,I7.unpinned,q7⟩
  | ret v=>obtain ⟨x7,σ7,H7,I7,r7,q7⟩:=q7; exact ⟨x7,σ7,H7,I7.unpinned,r7,q7⟩
end
end L2
namespace L2
open PySem PySem.Spec PyProof.Rows
abbrev R2:=V→V→Hp→VK→Prop
def OpR (X:Cx) (f:Value→Value→Sem Value) (r:R2):Prop:=
 ∀ (pins:List (Addr × Obj)) (s:Shared) (σ:St) (H:Hp) (x y:V) (v u:Value) (Q:VK),Inv X pins σ H s→RelV x v→RelV y u→r x y H Q →
  wpAny (model X.prog X.w) X.A (f v u) (EP X pins σ Q) X.xe s
def UnR (X:Cx) (f:Value→Sem Value) (r:V→Hp→VK→Prop):Prop:=
 ∀ (pins:List (Addr × Obj)) (s:Shared) (σ:St) (H:Hp) (x:V) (v:Value) (Q:VK),Inv X pins σ H s→RelV x v→r x H Q →
  wpAny (model X.prog X.w) X.A (f v) (EP X pins σ Q) X.xe s
def CallR (X:Cx) (f:Value) (r:List V→Hp→VK→Prop):Prop:=
 ∀ (pins:List (Addr × Obj)) (s:Shared) (σ:St) (H:Hp) (xs:List V) (us:List Value) (Q:VK),Inv X pins σ H s→Vals xs us→r xs H Q →
  wpAny (model X.prog X.w) X.A (call f us) (EP X pins σ Q) X.xe s
def TruR (X:Cx) (r:V→Hp→(Bool→Hp→Prop)→Prop):Prop:=
 ∀ (pins:List (Addr × Obj)) (s:Shared) (σ:St) (H:Hp) (x:V) (v:Value) (Q:Bool→Hp→Prop),Inv X pins σ H s→RelV x v→r x H Q →
  wpAny (model X.prog X.w) X.A (truthy v) (TP X pins σ Q) X.xe s
def tOp (r:R2) (ta tb:TE):TE:=fun σ H Q=>ta σ H fun x H1=>tb σ H1 fun y H2=>r x y H2 Q
def tUn (r:V→Hp→VK→Prop) (ta:TE):TE:=fun σ H Q=>ta σ H fun x H1=>r x H1 Q
noncomputable def rI (C:Int→Int→Prop) (g:Int→Int→V):R2:=fun x y H Q=>∃ i j,x=.int i∧y=.int j∧C i j∧Q (g i j) H
noncomputable def rI0 (g:Int→Int→V):R2:=fun x y H Q=>∃ i j,x=.int i∧y=.int j∧Q (g i j) H
noncomputable def rU (g:Int→V):V→Hp→VK→Prop:=fun x H Q=>∃ i,x=.int i∧Q (g i) H
section
variable {X:Cx}{a b c:Expr}{ta tb tc:TE}{pos:Pos}
theorem binT (ha:PE X a ta) (hb:PE X b tb) {pins:List (Addr × Obj)} {s:Shared} {σ:St} {H:Hp} {R:V→V→Hp→Prop} (I:Inv X pins σ H s)
  (h:ta σ H fun x H1=>tb σ H1 fun y H2=>R x y H2) {Q:Value→Shared→Prop} {f:Value→Value→Sem Value}
  (hf:∀ v u s2 x y H2,Inv X pins σ H2 s2→RelV x v→RelV y u→R x y H2→wpAny (model X.prog X.w) X.A (f v u) Q X.xe s2) :
  wpAny (model X.prog X.w) X.A (eval a X.env) (fun v s₁=>wpAny (model X.prog X.w) X.A (eval b X.env) (fun u s₂=>wpAny (model X.prog X.w) X.A (f v u) Q X.xe s₂) X.xe s₁) X.xe s:=by
 refine thn (ha pins s σ H _ I h) fun v s1 ⟨x,H1,I1,r1,q1⟩=>?_
 refine thn (hb pins s1 σ H1 _ I1 q1) fun u s2 ⟨y,H2,I2,r2,q2⟩=>?_
 exact hf v u s2 x y H2 I2 r1 r2 q2
theorem pe_op {op:Operator} {r:R2} (ho:OpR X (binaryOp op) r) (ha:PE X a ta) (hb:PE X b tb):PE X (.BinOp a op b pos) (tOp r ta tb):=by
 intro pins s σ H Q I h
 exact wpAny_BinOp (binT ha hb I h fun v u s2 x y H2 I2 rx ry q=>ho pins s2 σ H2 x y v u Q I2 rx ry q)
theorem pe_un {op:UnaryOp} {r:V→Hp→VK→Prop} (ho:UnR X (unaryOp op) r) (ha:PE X a ta):PE X (.UnaryOp op a pos) (tUn r ta):=by
 intro pins s σ H Q I h
 exact UnaryOp_ (thn (ha pins s σ H _ I h) fun v s1 ⟨x,H1,I1,r1,q1⟩=>ho pins s1 σ H1 x v Q I1 r1 q1)
theorem opI {f:Value→Value→Sem Value} {C:Int→Int→Prop} {g:Int→Int→Int}
  (rule:∀ (i j:Int) (t u:Tok) (s:Shared) (Q:Value→Shared→Prop) (E:Value→Shared→Prop),C i j→Q (.int (g i j) s.toks) { s with toks:=s.toks+1 }→wpAny (model X.prog X.w) X.A (f (.int i t) (.int j u)) Q E s) :
  OpR X f (rI C fun i j=>.int (g i j)):=by
 intro pins s σ H x y v u Q I rx ry h
 obtain ⟨i,j,rfl,rfl,hc,q⟩:=h
 obtain ⟨t,rfl⟩:=rx
 obtain ⟨t',rfl⟩:=ry
 exact rule i j t t' s _ _ hc ⟨.int (g i j),H,I.tok _,⟨_,rfl⟩,q⟩
theorem opI0 {f:Value→Value→Sem Value} {g:Int→Int→Int}
  (rule:∀ (i j:Int) (t u:Tok) (s:Shared) (Q:Value→Shared→Prop) (E:Value→Shared→Prop),Q (.int (g i j) s.toks) { s with toks:=s.toks+1 }→wpAny (model X.prog X.w) X.A (f (.int i t) (.int j u)) Q E s) :
  OpR X f (rI0 fun i j=>.int (g i j)):=by
 intro pins s σ H x y v u Q I rx ry h
 obtain ⟨i,j,rfl,rfl,q⟩:=h
 obtain ⟨t,rfl⟩:=rx
 obtain ⟨t',rfl⟩:=ry
 exact rule i j t t' s _ _ ⟨.int (g i j),H,I.tok _,⟨_,rfl⟩,q⟩
theorem opB0 {f:Value→Value→Sem Value} {g:Int→Int→Bool}
  (rule:∀ (i j:Int) (t u:Tok) (s:Shared) (Q:Value→Shared→Prop) (E:Value→Shared→Prop),Q (.bool (g i j)) s→wpAny (model X.prog X.w) X.A (f (.int i t) (.int j u)) Q E s) :
  OpR X f (rI0 fun i j=>.bl (g i j)):=by
 intro pins s σ H x y v u Q I rx ry h
 obtain ⟨i,j,rfl,rfl,q⟩:=h
 obtain ⟨t,rfl⟩:=rx
 obtain ⟨t',rfl⟩:=ry
 exact rule i j t t' s _ _ ⟨.bl (g i j),H,I,rfl,q⟩
def CDiv (i j:Int):Prop:=0<j∧j<1073741824
def CPow (i j:Int):Prop:=0≤j∧j≤1000000∧i.natAbs<2 ^ 64
def CMul (i j:Int):Prop:=(-(2 ^ 64)<i∧i<2 ^ 64)∨(-(2 ^ 64)<j∧j<2 ^ 64)
theorem CMul.ok {i j:Int} (h:CMul i j):IntMulOk i j:=by
 rcases h with ⟨h1,h2⟩|⟨h1,h2⟩
 ·exact .of_left (intBits_le_64 h1 h2)
 ·exact .of_right (intBits_le_64 h1 h2)
theorem op_add:OpR X (binaryOp .Add) (rI0 fun i j=>.int (i+j)):=opI0 fun _ _ _ _ _ _ _ q=>add_int q
theorem op_sub:OpR X (binaryOp .Sub) (rI0 fun i j=>.int (i-j)):=opI0 fun _ _ _ _ _ _ _ q=>sub_int q
theorem op_mul:OpR X (binaryOp .Mult) (rI CMul fun i j=>.int (i*j)):=opI fun _ _ _ _ _ _ _ hc q=>mul_int q hc.ok
theorem op_fdiv:OpR X (binaryOp .FloorDiv) (rI CDiv fun i j=>.int (i / j)):=opI fun i j _ _ _ _ _ hc q=>by
 have h1:(0:Int)<j:=hc.1
 have h2:j<1073741824:=hc.2
 exact floordiv_int (by omega) (by rw [Int.fdiv_eq_ediv_of_nonneg i (by omega)]; exact q) (.inl (PyProof.noPylong_small (by omega)))
theorem op_mod:OpR X (binaryOp .Mod) (rI (fun _ j=>0<j) fun i j=>.int (i % j)):=opI fun i j _ _ _ _ _ hc q=>by
 have h1:(0:Int)<j:=hc
 exact mod_int' (by omega) (by rw [Int.fmod_eq_emod_of_nonneg i (by omega)]; exact q)
theorem op_pow:OpR X (binaryOp .Pow) (rI CPow fun i j=>.int (i ^ j.toNat)):=opI fun _ _ _ _ _ _ _ hc q=>pow_int_small hc.1 hc.2.1 hc.2.2 q
theorem unI {f:Value→Sem Value} {g:Int→Int}
  (rule:∀ (i:Int) (t:Tok) (s:Shared) (Q:Value→Shared→Prop) (E:Value→Shared→Prop),Q (.int (g i) s.toks) { s with toks:=s.toks+1 }→wpAny (model X.prog X.w) X.A (f (.int i t)) Q E s) :
  UnR X f (rU fun i=>.int (g i)):=by
 intro pins s σ H x v Q I rx h
 obtain ⟨i,rfl,q⟩:=h
 obtain ⟨t,rfl⟩:=rx
 exact rule i t s _ _ ⟨.int (g i),H,I.tok _,⟨_,rfl⟩,q⟩
theorem un_neg:UnR X (unaryOp .USub) (rU fun i=>.int (-i)):=unI fun _ _ _ _ _ q=>neg_int q
end
noncomputable def scal:V→V→Bool
 | .non,.non=>true | .non,.int _=>true | .int _,.non=>true | .non,.bl _=>true | .bl _,.non=>true | .non,.str _=>true | .str _,.non=>true
 | .int _,.int _=>true | .bl _,.bl _=>true | .str _,.str _=>true | .byt _,.byt _=>true
 | .int _,.str _=>true | .str _,.int _=>true | .bl _,.str _=>true | .str _,.bl _=>true
 | _,_=>false
noncomputable def rEq:R2:=fun x y H Q=>scal x y=true∧Q (.bl (decide (x=y))) H
noncomputable def rNe:R2:=fun x y H Q=>scal x y=true∧Q (.bl (!decide (x=y))) H
theorem dec_int {i j:Int}:decide (V.int i=V.int j)=(i == j):=by
 rw [Bool.eq_iff_iff]
 simp
theorem dec_bl {i j:Bool}:decide (V.bl i=V.bl j)=(i == j):=by
 rw [Bool.eq_iff_iff]
 simp
theorem dec_str {i j:Str}:decide (V.str i=V.str j)=(i == j):=by
 rw [Bool.eq_iff_iff]
 simp
theorem dec_byt {i j:Array UInt8}:decide (V.byt i=V.byt j)=(i.toList == j.toList):=by
 rw [Bool.eq_iff_iff]
 cases i
 cases j
 simp
section
variable {X:Cx}{a b c:Expr}{ta tb tc:TE}{pos:Pos}
theorem fin_bl {pins:List (Addr × Obj)} {σ:St} {H:Hp} {s:Shared} {Q:VK} {k k':Bool} (I:Inv X pins σ H s) (q:Q (.bl k) H) (e:k=k'):EP X pins σ Q (.bool k') s:=by
 subst e
 exact ⟨.bl k,H,I,rfl,q⟩
theorem op_eq:OpR X (compareOp .Eq) rEq:=by
 intro pins s σ H x y v u Q I rx ry h
 obtain ⟨hs,q⟩:=h
 cases x with
 | non =>
  cases rx
  cases y with
  | non=>cases ry; exact PySem.EqNone.eq_none_none (fin_bl I q (by simp))
  | bl j=>cases ry; exact PySem.EqNone.eq_none_bool (fin_bl I q (by simp))
  | int j=>obtain ⟨t',rfl⟩:=ry; exact PySem.EqNone.eq_none_int (fin_bl I q (by simp))
  | str j=>obtain ⟨t',rfl⟩:=ry; exact PySem.EqNone.eq_none_str (fin_bl I q (by simp))
  | _=>exact absurd (show false=true from hs) Bool.false_ne_true
 | bl i =>
  cases rx
  cases y with
  | non=>cases ry; exact PySem.EqNone.eq_bool_none (fin_bl I q (by simp))
  | bl j=>cases ry; exact eq_bool (fin_bl I q dec_bl)
  | str j=>obtain ⟨t',rfl⟩:=ry; exact PySem.EqMixed.eq_bool_str (fin_bl I q (by simp))
  | _=>exact absurd (show false=true from hs) Bool.false_ne_true
 | int i =>
  obtain ⟨t,rfl⟩:=rx
  cases y with
  | non=>cases ry; exact PySem.EqNone.eq_int_none (fin_bl I q (by simp))
  | int j=>obtain ⟨t',rfl⟩:=ry; exact eq_int (fin_bl I q dec_int)
  | str j=>obtain ⟨t',rfl⟩:=ry; exact PySem.EqMixed.eq_int_str (fin_bl I q (by simp))
  | _=>exact absurd (show false=true from hs) Bool.false_ne_true
 | str i =>
  obtain ⟨t,rfl⟩:=rx
  cases y with
  | non=>cases ry; exact PySem.EqNone.eq_str_none (fin_bl I q (by simp))
  | bl j=>cases ry; exact PySem.EqMixed.eq_str_bool (fin_bl I q (by simp))
  | int j=>obtain ⟨t',rfl⟩:=ry; exact PySem.EqMixed.eq_str_int (fin_bl I q (by simp))
  | str j=>obtain ⟨t',rfl⟩:=ry; exact eq_str (fin_bl I q dec_str)
  | _=>exact absurd (show false=true from hs) Bool.false_ne_true
 | byt i =>
  obtain ⟨t,rfl⟩:=rx
  cases y with
  | byt j=>obtain ⟨t',rfl⟩:=ry; exact PySem.W.eq_bytes (fin_bl I q dec_byt)
  | _=>exact absurd (show false=true from hs) Bool.false_ne_true
 | _=>cases y<;>exact absurd (show false=true from hs) Bool.false_ne_true
theorem op_ne:OpR X (compareOp .NotEq) rNe:=by
 intro pins s σ H x y v u Q I rx ry h
 obtain ⟨hs,q⟩:=h
 cases x with
 | non =>
  cases rx
  cases y with
  | non=>cases ry; exact PySem.EqNone.ne_none_none (fin_bl I q (by simp))
  | bl j=>cases ry; exact PySem.EqNone.ne_none_bool (fin_bl I q (by simp))
  | int j=>obtain ⟨t',rfl⟩:=ry; exact PySem.EqNone.ne_none_int (fin_bl I q (by simp))
  | str j=>obtain ⟨t',rfl⟩:=ry; exact PySem.EqNone.ne_none_str (fin_bl I q (by simp))
  | _=>exact absurd (show false=true from hs) Bool.false_ne_true
 | bl i =>
  cases rx
  cases y with
  | non=>cases ry; exact PySem.EqNone.ne_bool_none (fin_bl I q (by simp))
  | bl j=>cases ry; exact ne_bool (fin_bl I q (congrArg not dec_bl))
  | str j=>obtain ⟨t',rfl⟩:=ry; exact PySem.EqMixed.ne_bool_str (fin_bl I q (by simp))
  | _=>exact absurd (show false=true from hs) Bool.false_ne_true
 | int i =>
  obtain ⟨t,rfl⟩:=rx
  cases y with
  | non=>cases ry; exact PySem.EqNone.ne_int_none (fin_bl I q (by simp))
  | int j=>obtain ⟨t',rfl⟩:=ry; exact ne_int (fin_bl I q (congrArg not dec_int))
  | str j=>obtain ⟨t',rfl⟩:=ry; exact PySem.EqMixed.ne_int_str (fin_bl I q (by simp))
  | _=>exact absurd (show false=true from hs) Bool.false_ne_true
 | str i =>
  obtain ⟨t,rfl⟩:=rx
  cases y with
  | non=>cases ry; exact PySem.EqNone.ne_str_none (fin_bl I q (by simp))
  | bl j=>cases ry; exact PySem.EqMixed.ne_str_bool (fin_bl I q (by simp))
  | int j=>obtain ⟨t',rfl⟩:=ry; exact PySem.EqMixed.ne_str_int (fin_bl I q (by simp))
  | str j=>obtain ⟨t',rfl⟩:=ry; exact ne_str (fin_bl I q (congrArg not dec_str))
  | _=>exact absurd (show false=true from hs) Bool.false_ne_true
 | byt i =>
  obtain ⟨t,rfl⟩:=rx
  cases y with
  | byt j=>obtain ⟨t',rfl⟩:=ry; exact PySem.W.ne_bytes (fin_bl I q (congrArg not dec_byt))
  | _=>exact absurd (show false=true from hs) Bool.false_ne_true
 | _=>cases y<;>exact absurd (show false=true from hs) Bool.false_ne_true
theorem op_lt:OpR X (compareOp .Lt) (rI0 fun i j=>.bl (decide (i<j))):=opB0 fun _ _ _ _ _ _ _ q=>lt_int q
theorem op_le:OpR X (compareOp .LtE) (rI0 fun i j=>.bl (decide (i≤j))):=opB0 fun _ _ _ _ _ _ _ q=>le_int q
theorem op_gt:OpR X (compareOp .Gt) (rI0 fun i j=>.bl (decide (j<i))):=opB0 fun _ _ _ _ _ _ _ q=>gt_int q
theorem op_ge:OpR X (compareOp .GtE) (rI0 fun i j=>.bl (decide (j≤i))):=opB0 fun _ _ _ _ _ _ _ q=>ge_int q
theorem op_in_str:OpR X (compareOp .In) (fun x y H Q=>∃ i j,x=.str i∧y=.str j∧Q (.bl (!(Builtin.Str.occurrences j i 0 j.length 1).isEmpty)) H):=by
 intro pins s σ H x y v u Q I rx ry h
 obtain ⟨i,j,rfl,rfl,q⟩:=h
 obtain ⟨t,rfl⟩:=rx
 obtain ⟨t',rfl⟩:=ry
 exact in_str (fin_bl I q rfl)
theorem op_isN:OpR X (compareOp .Is) (fun x y H Q=>y=.non∧Q (.bl (decide (x=.non))) H):=by
 intro pins s σ H x y v u Q I rx ry h
 obtain ⟨rfl,q⟩:=h
 cases ry
 refine is_none_gen (fin_bl I q ?_)
 cases x<;>first
  | (cases rx; rfl)
  | (obtain ⟨t,rfl⟩:=rx; rfl)
theorem op_notN:OpR X (compareOp .IsNot) (fun x y H Q=>y=.non∧Q (.bl (!decide (x=.non))) H):=by
 intro pins s σ H x y v u Q I rx ry h
 obtain ⟨rfl,q⟩:=h
 cases ry
 refine isnot_none_gen (fin_bl I q ?_)
 cases x<;>first
  | (cases rx; rfl)
  | (obtain ⟨t,rfl⟩:=rx; rfl)
theorem nomark (b:Expr) {op:CmpOp} (h:op≠.In:=by decide) (h2:op≠.NotIn:=by decide):behindInMarks op b=false:=by
 have e1:(op == CmpOp.In)=false:=by cases op<;>first|rfl|exact absurd rfl h
 have e2:(op == CmpOp.NotIn)=false:=by cases op<;>first|rfl|exact absurd rfl h2
 cases b<;>simp [behindInMarks,e1,e2]
theorem pe_cmpR {op:CmpOp} {r:R2} (ho:OpR X (compareOp op) r) (ha:PE X a ta) (hb:PE X b tb) (hm:behindInMarks op b=false):PE X (.Compare a [op] [b] pos) (tOp r ta tb):=by
 intro pins s σ H Q I h
 exact wpAny_Compare1 (binT ha hb I h fun v u s2 x y H2 I2 rx ry q=>ho pins s2 σ H2 x y v u Q I2 rx ry q) hm
noncomputable def tTest (t:TE):TT:=fun σ H Q=>t σ H fun x H'=>∃ k,x=.bl k∧Q k H'
theorem pt_cmpR {op:CmpOp} {r:R2} (ho:OpR X (compareOp op) r) (ha:PE X a ta) (hb:PE X b tb) (hm:behindInMarks op b=false):PT X (.Compare a [op] [b] pos) (tTest (tOp r ta tb)):=by
 intro pins s σ H Q I h
 refine wpAny_isTrue_Compare1 (thn (ha pins s σ H _ I h) fun v s1 ⟨x,H1,I1,r1,q1⟩=>thn (hb pins s1 σ H1 _ I1 q1) fun u s2 ⟨y,H2,I2,r2,q2⟩ =>
  thn (ho pins s2 σ H2 x y v u _ I2 r1 r2 q2) fun c s3 ⟨z,H3,I3,r3,k,e,q3⟩=>?_) hm
 subst e
 cases r3
 exact wpAny_truthy_bool ⟨H3,I3,q3⟩
def tChain (r r':R2) (ta tb tc:TE):TE:=fun σ H Q=>ta σ H fun x H1=>tb σ H1 fun y H2=>r x y H2 fun z H3=>∃ k,z=.bl k ∧
 (if k=true then tc σ H3 fun w' H4=>r' y w' H4 Q else Q (.bl false) H3)
theorem pe_chain {op op':CmpOp} {r r':R2} (ho:OpR X (compareOp op) r) (ho':OpR X (compareOp op') r') (ha:PE X a ta) (hb:PE X b tb) (hc:PE X c tc)
  (hm:lastMarks [op,op'] [b,c]=false:=by with_unfolding_all rfl):PE X (.Compare a [op,op'] [b,c] pos) (tChain r r' ta tb tc):=by
 intro pins s σ H Q I h
 refine Compare_chain (thn (ha pins s σ H _ I h) fun v s1 ⟨x,H1,I1,r1,q1⟩=>chain_link (thn (hb pins s1 σ H1 _ I1 q1) fun u s2 ⟨y,H2,I2,r2,q2⟩ =>
  thn (ho pins s2 σ H2 x y v u _ I2 r1 r2 q2) fun d s3 ⟨z,H3,I3,r3,k,e,q3⟩=>?_)) hm
 subst e
 cases r3
 refine wpAny_truthy_bool ?_
 cases k with
 | false=>exact ite_ff ⟨.bl false,H3,I3,rfl,q3⟩
 | true=>exact ite_tt (chain_last (thn (hc pins s3 σ H3 _ I3 q3) fun w' s4 ⟨z',H4,I4,r4,q4⟩=>ho' pins s4 σ H4 y z' u w' Q I4 r2 r4 q4))
theorem pt_chain {op op':CmpOp} {r r':R2} (ho:OpR X (compareOp op) r) (ho':OpR X (compareOp op') r') (ha:PE X a ta) (hb:PE X b tb) (hc:PE X c tc)
  (hm:lastMarks [op,op'] [b,c]=false:=by with_unfolding_all rfl):PT X (.Compare a [op,op'] [b,c] pos) (tTest (tChain r r' ta tb tc)):=by
 intro pins s σ H Q I h
 refine isTrue_chain (thn (ha pins s σ H _ I h) fun v s1 ⟨x,H1,I1,r1,q1⟩=>test_link (thn (hb pins s1 σ H1 _ I1 q1) fun u s2 ⟨y,H2,I2,r2,q2⟩ =>
  thn (ho pins s2 σ H2 x y v u _ I2 r1 r2 q2) fun d s3 ⟨z,H3,I3,r3,k,e,q3⟩=>?_)) hm
 subst e
 cases r3
 refine wpAny_truthy_bool ?_
 cases k with
 | false =>
  obtain ⟨k',e',q'⟩:=q3
  cases e'
  exact ite_ff ⟨H3,I3,q'⟩
 | true =>
  refine ite_tt (test_last (thn (hc pins s3 σ H3 _ I3 q3) fun w' s4 ⟨z',H4,I4,r4,q4⟩=>thn (ho' pins s4 σ H4 y z' u w' _ I4 r2 r4 q4) fun d' s5 ⟨z2,H5,I5,r5,k2,e2,q5⟩=>?_))
  subst e2
  cases r5
  exact wpAny_truthy_bool ⟨H5,I5,q5⟩
def TruV (K:PySem.W.Frag) (x:V) (H:Hp) (k:Bool):Prop:=
 match x with
 | .non=>k=false
 | .bl b=>k=b
 | .int i=>k=(i != 0)
 | .str y=>y.length≤sizeLine∧k=((y.length:Int) != 0)
 | .byt y=>y.size≤sizeLine∧k=((y.size:Int) != 0)
 | .ref p=>(∃ xs,SqL K H p xs∧k=!xs.isEmpty)∨(∃ xs,SqT K H p xs∧k=!xs.isEmpty)∨∃ kvs,H p=some (.dK kvs)∧k=!kvs.isEmpty
 | _=>False
theorem isEmpty_kv {κ:Type} {kvs:List (κ × V)} {vs:List (κ × Value)} (r:KV kvs vs):(!vs.isEmpty)=!kvs.isEmpty:=by
 cases r<;>rfl
theorem isEmpty_of {xs:List V} {its:List Value} (r:Vals xs its):(!its.toArray.isEmpty)=!xs.isEmpty:=by
 cases r<;>simp
theorem line63:(sizeLine:Nat)<2 ^ 63:=by rw [sizeLine_eq]; decide
theorem tru_ok:TruR X (fun x H Q=>∃ k,TruV X.K x H k∧Q k H):=by
 intro pins s σ H x v Q I rx h
 obtain ⟨k,e,q⟩:=h
 have hl:=line63
 have hs:sizeLine=16777216:=sizeLine_eq
 cases x with
 | non =>
  cases rx
  have e':k=false:=e
  subst e'
  exact truthy_none ⟨H,I,q⟩
 | bl b =>
  cases rx
  have e':k=b:=e
  subst e'
  exact wpAny_truthy_bool ⟨H,I,q⟩
 | int i =>
  obtain ⟨t,rfl⟩:=rx
  have e':k=(i != 0):=e
  subst e'
  exact PySem.P.truthy_int ⟨H,I,q⟩
 | str y =>
  obtain ⟨t,rfl⟩:=rx
  obtain ⟨hy,e'⟩:y.length≤sizeLine∧k=((y.length:Int) != 0):=e
  subst e'
  exact PySem.P.truthy_str (by omega) ⟨H,I.tok _,q⟩
 | byt y =>
  obtain ⟨t,rfl⟩:=rx
  obtain ⟨hy,e'⟩:y.size≤sizeLine∧k=((y.size:Int) != 0):=e
  subst e'
  exact PySem.W.truthy_bytes (by omega) ⟨H,I.tok _,q⟩
 | ref p =>
  cases rx
  have e':(∃ xs,SqL X.K H p xs∧k=!xs.isEmpty)∨(∃ xs,SqT X.K H p xs∧k=!xs.isEmpty)∨∃ kvs,H p=some (.dK kvs)∧k=!kvs.isEmpty:=e
  rcases e' with ⟨xs,hx,e'⟩|⟨xs,hx,e'⟩|⟨kvs,hx,e'⟩
  ·subst e'
   obtain ⟨its,r,pl,hz⟩:=I.list hx
   have hlen:=r.length
   exact wpAny_truthy_list pl.isList (by simp only [List.size_toArray]; omega) ⟨H,I.tok _,by rw [isEmpty_of r]; exact q⟩
  ·subst e'
   obtain ⟨its,r,pl,hz⟩:=I.tuple hx
   have hlen:=r.length
   exact truthy_tuple pl (by simp only [List.size_toArray]; omega) ⟨H,I.tok _,by rw [isEmpty_of r]; exact q⟩
  ·subst e'
   obtain ⟨hz,hS,vs,r,m⟩:kvs.length≤sizeLine∧(p == sysModules)=false∧∃ vs,KV kvs vs∧s.heap.DictOf (mixKind X.prog X.w) p vs:=I.hok p _ hx
   have hlen:kvs.length=vs.length:=Paired.length r
   exact wpAny_truthy_dict hS m (by omega) ⟨H,I.tok _,by rw [isEmpty_kv r]; exact q⟩
 | _=>exact (show False from e).elim
theorem pt_truth (ha:PE X a ta) (he:∀ whole,isTrue a X.env whole=(do let v ← whole; standAt a.pos; holding [v] (truthy v))) :
  PT X a (fun σ H Q=>ta σ H fun x H'=>∃ k,TruV X.K x H' k∧Q k H'):=by
 intro pins s σ H Q I h
 exact isTrue_plain (thn (ha pins s σ H _ I h) fun v s1 ⟨x,H1,I1,r1,q1⟩=>tru_ok pins s1 σ H1 x v Q I1 r1 q1) (he _)
theorem op_add_str:OpR X (binaryOp .Add) (fun x y H Q=>∃ i j,x=.str i∧y=.str j∧i.length+j.length≤sizeLine∧Q (.str (i++j)) H):=by
 intro pins s σ H x y v u Q I rx ry h
 obtain ⟨i,j,rfl,rfl,hz,q⟩:=h
 obtain ⟨t,rfl⟩:=rx
 obtain ⟨t',rfl⟩:=ry
 exact add_str (fun t' tk=>⟨.str (i++j),H,I.tok _,⟨_,rfl⟩,q⟩) hz
theorem vals1 {x:V} {us:List Value} (r:Vals [x] us):∃ u,us=[u]∧RelV x u:=by
 cases r with
 | cons r1 r2=>cases r2; exact ⟨_,rfl,r1⟩
theorem vals2 {x y:V} {us:List Value} (r:Vals [x,y] us):∃ u w',us=[u,w']∧RelV x u∧RelV y w':=by
 cases r with
 | cons r1 r2 =>
  cases r2 with
  | cons r3 r4=>cases r4; exact ⟨_,_,rfl,r1,r3⟩
theorem call_max2 (hc:X.calm=true):CallR X (.builtin "max") (fun xs H Q=>∃ i j,xs=[.int i,.int j]∧Q (.int (if j > i then j else i)) H):=by
 intro pins s σ H xs us Q I r h
 obtain ⟨i,j,rfl,q⟩:=h
 obtain ⟨u,w',rfl,⟨t,rfl⟩,⟨t',rfl⟩⟩:=vals2 r
 refine max_two_ints (I.ok.hd hc) fun h' tk k=>⟨_,H,I.kept k,?_,q⟩
 by_cases hj:j > i
 ·rw [if_pos hj,if_pos hj]; exact ⟨_,rfl⟩
 ·rw [if_neg hj,if_neg hj]; exact ⟨_,rfl⟩
theorem call_min2 (hc:X.calm=true):CallR X (.builtin "min") (fun xs H Q=>∃ i j,xs=[.int i,.int j]∧Q (.int (if j<i then j else i)) H):=by
 intro pins s σ H xs us Q I r h
 obtain ⟨i,j,rfl,q⟩:=h
 obtain ⟨u,w',rfl,⟨t,rfl⟩,⟨t',rfl⟩⟩:=vals2 r
 refine min_two_ints (I.ok.hd hc) fun h' tk k=>⟨_,H,I.kept k,?_,q⟩
 by_cases hj:j<i
 ·rw [if_pos hj,if_pos hj]; exact ⟨_,rfl⟩
 ·rw [if_neg hj,if_neg hj]; exact ⟨_,rfl⟩
theorem call_int1:CallR X (.type "int") (fun xs H Q=>(∃ i,xs=[.int i]∧Q (.int i) H)∨∃ k,xs=[.bl k]∧Q (.int (if k then 1 else 0)) H):=by
 intro pins s σ H xs us Q I r h
 rcases h with ⟨i,rfl,q⟩|⟨k,rfl,q⟩
 ·obtain ⟨u,rfl,t,rfl⟩:=vals1 r
  exact call_int_int ⟨.int i,H,I,⟨_,rfl⟩,q⟩
 ·obtain ⟨u,rfl,r1⟩:=vals1 r
  cases r1
  exact call_int_bool ⟨.int (if k then 1 else 0),H,I.tok _,⟨_,rfl⟩,q⟩
theorem call_str_int:CallR X (.type "str") (fun xs H Q=>∃ i,xs=[.int i]∧i.natAbs.log2<1920∧Q (.str (toString i)) H):=by
 intro pins s σ H xs us Q I r h
 obtain ⟨i,rfl,hz,q⟩:=h
 obtain ⟨u,rfl,t,rfl⟩:=vals1 r
 exact PySem.P.str_of_int hz ⟨.str _,H,I.tok _,⟨_,rfl⟩,q⟩
end
end L2
namespace L2
open PySem PySem.Spec PyProof.Rows
structure ObjM (h:Heap) (x dx C:Addr) (mA:Str→Option Value):Prop where
 obj:h.get? x=some (PySem.W.instObj C dx)
 ns:h.Ns1 dx mA
 ne:dx≠x
theorem lookIn_ns {h:Heap} {dx:Addr} {mA:Str→Option Value} (n:h.Ns1 dx mA):∃ od,h.get? dx=some od∧∀ name,PySem.W.lookIn name od=some (mA name):=by
 obtain ⟨o,es,ep,ho,hd,hk,_,hm⟩:=n
 refine ⟨o,ho,fun name=>?_⟩
 have e:=hm name
 unfold nsFind findBy at e
 rw [← Array.find?_toList] at e
 unfold PySem.W.lookIn
 rw [hd]
 dsimp only
 split
 ·rename_i y q
  rw [q] at e
  exact congrArg some e
 ·rename_i q
  rw [q] at e
  have a:es.toList.any (·.refKey)=false:=by
   rw [List.any_eq_false]
   intro y hy
   obtain ⟨z,t,hkey⟩:=hk y (Array.mem_toList_iff.mp hy)
   simp [DictEntry.refKey,hkey]
  have a':¬ es.toList.any (·.refKey)=true:=by rw [a]; exact Bool.false_ne_true
  rw [if_neg a']
  exact congrArg some e
theorem ObjM.look {h:Heap} {x dx C:Addr} {mA:Str→Option Value} (I:ObjM h x dx C mA):∃ od,PySem.W.InstAt h x (PySem.W.instObj C dx) C (some od)∧∀ name,PySem.W.lookIn name od=some (mA name):=
 let ⟨od,ho,hl⟩:=lookIn_ns I.ns
 ⟨od,⟨I.obj,rfl,rfl,ho⟩,hl⟩
section
variable {prog:Program}{w:World}{A:Around}{E:Value→Shared→Prop}{s:Shared}{K:PySem.W.Frag}{x dx C f:Addr}{mA:Str→Option Value}{name:Str}{v:Value}
theorem get_map {expr:Bool} {Q:Value→Shared→Prop} (X:K.In s.heap) (I:ObjM s.heap x dx C mA) (hg:PySem.W.plainGet K C name=true) (hh:PySem.W.hasDictIn K C=true)
  (ha:PySem.W.findIn K (.ref C) name=some none) (hv:mA name=some v) (hv':PySem.W.handedIn v=true) (h:Q v { s with toks:=s.toks+1 }) :
  wpAny (model prog w) A (getAttr (.ref x) name expr) Q E s:=by
 obtain ⟨od,J,hl⟩:=I.look
 exact PySem.W.get_value X J (PySem.W.plainGet_of hg).1 (PySem.W.findObj_own hh ha rfl (by rw [hl,hv])) hv' h
theorem get_meth {pl:Sem Bool} {Q:Value × List Value→Shared→Prop} (X:K.In s.heap) (I:ObjM s.heap x dx C mA) (hg:PySem.W.plainGet K C name=true)
  (hf:PySem.W.findIn K (.ref C) name=some (some (.ref f))) (ht:PySem.W.isFn K (.ref f)=true) (hv:mA name=none) (h:Q (.ref f,[.ref x]) s) :
  wpAny (model prog w) A (getMethod (.ref x) name pl) Q E s:=by
 obtain ⟨od,J,hl⟩:=I.look
 exact PySem.W.method_fn X J (PySem.W.plainGet_of hg).1 (PySem.W.plainGet_of hg).2 hf (beq_iff_eq.mp ht) (by show (PySem.W.lookIn name od).map (·.isSome)=some false; rw [hl,hv]; rfl) h
theorem make_map {R:Result→Shared→Prop} {vs:List Value} {kw:List (Str × Value)} (X:K.In s.heap) (hm:PySem.W.makesIn K C=true)
  (hi:PySem.W.findIn K (.ref C) "__init__" = some (some (.ref f))) (hf:PySem.W.typeIn K (.ref f)=some (.type "function"))
  (h:codeAny (model prog w) (A.under (.builtin "type.__call__" ⟨.ref C::vs,kw⟩)) (.call (.ref f) ⟨.ref (s.heap.objs.size+1)::vs,kw⟩) (PySem.W.InitBack (s.heap.objs.size+1) R)
   {s with heap:=(s.heap.push PySem.W.emptyDict).push (PySem.W.instObj C s.heap.objs.size) }) :
  codeAny (model prog w) A (.call (.ref C) ⟨vs,kw⟩) R s:=by
 obtain ⟨hh,g,d,t,os⟩:=s
 exact PySem.W.make_core (PySem.W.makes_of X hm) (PySem.W.looks_findIn X hi) (fun self=>PySem.W.bind_fn X self hf) (.inl rfl) h
end
theorem RelO.some_of {v:V} {o:Option Value} (r:RelO (some v) o):∃ u,o=some u∧RelV v u:=by
 cases o with
 | none=>exact (show False from r).elim
 | some u=>exact ⟨u,rfl,r⟩
theorem RelO.none_of {o:Option Value} (r:RelO none o):o=none:=by
 cases o with
 | none=>rfl
 | some u=>exact (show False from r).elim
theorem handed_of {v:V} {u:Value} (r:RelV v u):PySem.W.handedIn u=true:=by
 cases v with
 | non=>cases (show u=Value.none from r); rfl
 | bl b=>cases (show u=Value.bool b from r); rfl
 | int i=>obtain ⟨t,e⟩:=(show ∃ t,u=Value.int i t from r); cases e; rfl
 | str x=>obtain ⟨t,e⟩:=(show ∃ t,u=Value.str x t from r); cases e; rfl
 | byt b=>obtain ⟨t,e⟩:=(show ∃ t,u=Value.bytes b t from r); cases e; rfl
 | flt b=>obtain ⟨t,e⟩:=(show ∃ t,u=Value.float b t from r); cases e; rfl
 | ref a=>cases (show u=Value.ref a from r); rfl
 | ty n=>cases (show u=Value.type n from r); rfl
section
variable {P:Program}{w:World}{H H':Hp}{h h':Heap}{a C dx:Addr}{fs fs':List (Str × V)}
theorem ins_get (hok:HOk P w H h) (e:H a=some (.ins C dx fs)):∃ mA,ObjM h a dx C mA∧(∀ f,RelO (fs.lookup f) (mA f))∧PySem.Within mA (fs.map (·.1))∧fs.length≤1000∧H dx=some (.own a):=by
 obtain ⟨d,z,ne,ob,mA,n,r,q⟩:=(show ObjOk P w H h a (.ins C dx fs) from hok a _ e)
 exact ⟨mA,⟨ob,n,ne⟩,r,q,z,d⟩
end
structure Cls (K:PySem.W.Frag) (C:Addr):Prop where
 pg:PySem.W.plainGet K C Str.empty=true
 hd:PySem.W.hasDictIn K C=true
 po:PySem.W.plainOver K C=true
 sa:PySem.W.findIn K (.ref C) "__setattr__" = some (some (.builtin "object.__setattr__"))
theorem Cls.get {K:PySem.W.Frag} {C:Addr} (c:Cls K C) (f:Str):PySem.W.plainGet K C f=true:=c.pg
def NoAttr (K:PySem.W.Frag) (C:Addr) (f:Str):Prop:=PySem.W.findIn K (.ref C) f=some none
structure Con (K:PySem.W.Frag) (C:Addr) (f:Str) (v:V) (u:Value):Prop where
 at_:PySem.W.findIn K (.ref C) f=some (some u)
 rel:RelV v u
 get:PySem.W.specialIn K u "__get__" = some none
 cp:PySem.W.copiedNames.contains f=false
structure Meth (K:PySem.W.Frag) (C:Addr) (m:Str) (f:Addr):Prop where
 at_:PySem.W.findIn K (.ref C) m=some (some (.ref f))
 fn:PySem.W.isFn K (.ref f)=true
 kp:PySem.W.keepIn K (.ref f)=true
section
variable {X:Cx}{pins:List (Addr × Obj)}{σ:St}{H:Hp}{s:Shared}{a C dx:Addr}{fs:List (Str × V)}{f:Str}{v:V}{A:Around}{E:Value→Shared→Prop}
theorem getattr_ok {b:Bool} {Q:Value→Shared→Prop} (I:Inv X pins σ H s) (e:H a=some (.ins C dx fs)) (c:Cls X.K C) (n:NoAttr X.K C f) (l:fs.lookup f=some v)
  (h:∀ u s',Inv X pins σ H s'→RelV v u→Q u s'):wpAny (model X.prog X.w) A (getAttr (.ref a) f b) Q E s:=by
 obtain ⟨mA,O,r,_,_,_⟩:=ins_get I.hok e
 obtain ⟨u,hu,ru⟩:=RelO.some_of (v:=v) (o:=mA f) (by rw [← l]; exact r f)
 exact get_map I.kIn O (c.get f) c.hd n hu (handed_of ru) (h u _ (I.tok _) ru)
theorem getmeth_ok {m:Str} {g:Addr} {pl:Sem Bool} {Q:Value × List Value→Shared→Prop} (I:Inv X pins σ H s) (e:H a=some (.ins C dx fs)) (c:Cls X.K C) (k:Meth X.K C m g) (l:fs.lookup m=none)
  (h:Q (.ref g,[.ref a]) s):wpAny (model X.prog X.w) A (getMethod (.ref a) m pl) Q E s:=by
 obtain ⟨mA,O,r,_,_,_⟩:=ins_get I.hok e
 have hn:mA m=none:=RelO.none_of (by rw [← l]; exact r m)
 exact get_meth I.kIn O (c.get m) k.at_ k.fn hn h
theorem Inv.made (I:Inv X pins σ H s):Inv X pins σ (upd (upd H s.heap.objs.size (.own (s.heap.objs.size+1))) (s.heap.objs.size+1) (.ins C s.heap.objs.size []))
  {s with heap:=(s.heap.push PySem.W.emptyDict).push (PySem.W.instObj C s.heap.objs.size) }:=by
 have e1:(s.heap.push PySem.W.emptyDict).get? s.heap.objs.size=some PySem.W.emptyDict:=Heap.get?_push_size s.heap rfl
 have e2:((s.heap.push PySem.W.emptyDict).push (PySem.W.instObj C s.heap.objs.size)).get? (s.heap.objs.size+1)=some (PySem.W.instObj C s.heap.objs.size):=by
  have:=Heap.get?_push_size (s.heap.push PySem.W.emptyDict) (o:=PySem.W.instObj C s.heap.objs.size) rfl
  rwa [Heap.size_push] at this
 have e3:(s.heap.push PySem.W.emptyDict).Ns s.heap.objs.size (fun _=>none):=⟨PySem.W.emptyDict,#[],_,e1,rfl,(fun e he=>absurd he (by simp)),fun _=>rfl⟩
 have I1:=I.laid (a:=s.heap.objs.size) (o:=.own (s.heap.objs.size+1)) (h':=s.heap.push PySem.W.emptyDict) (t':=s.toks) (fun b u q=>Heap.get?_push_of_some _ q) (Nat.le_refl _) ⟨_,e1⟩
 refine I1.laid (a:=s.heap.objs.size+1) (o:=.ins C s.heap.objs.size []) (t':=s.toks) (fun b u q=>Heap.get?_push_of_some _ q) (Nat.le_of_eq (Heap.size_push _ _)) ?_
 have ne:s.heap.objs.size≠s.heap.objs.size+1:=Nat.ne_of_lt (Nat.lt_succ_self _)
 refine ⟨by rw [upd_ne ne,upd_same],Nat.zero_le _,ne,e2,fun _=>none,(Heap.Ns1.of_empty e3).at fun o q=>Heap.get?_push_of_some _ q,fun _=>True.intro,fun y hy=>absurd rfl hy⟩
theorem attr_of {prog:Program} {w:World} {env:Env} {e:Expr} {f:Str} {pos:Pos} {s:Shared} {Q:Value→Shared→Prop} (hb:attributeBase e f env (eval e env)=eval e env)
  (h:wpAny (model prog w) A (eval e env) (fun o s₁=>wpAny (model prog w) A (getAttr o f true) Q E s₁) E s):wpAny (model prog w) A (eval (.Attribute e f pos) env) Q E s:=
 Attribute_any_ h (by rw [arm_eval_Attribute,hb])
end
def tFld (K:PySem.W.Frag) (ta:TE) (f:Str):TE:=fun σ H Q=>ta σ H fun x H1=>∃ a C dx fs v,x=.ref a∧H1 a=some (.ins C dx fs)∧Cls K C∧NoAttr K C f∧fs.lookup f=some v∧Q v H1
section
variable {X:Cx}{o e value:Expr}{f:Str}{pos pos' tpos:Pos}{ta tv:TE}
theorem pe_fld (he:PE X e ta) (hb:attributeBase e f X.env (eval e X.env)=eval e X.env):PE X (.Attribute e f pos) (tFld X.K ta f):=by
 intro pins s σ H Q I h
 refine attr_of hb (thn (he pins s σ H _ I h) fun u s1 ⟨x,H1,I1,rx,a,C,dx,fs,v,ex,ea,c,n,l,q⟩=>?_)
 subst ex
 obtain rfl:u=Value.ref a:=rx
 exact getattr_ok I1 ea c n l fun u' s2 I2 ru=>⟨v,H1,I2,ru,q⟩
end
section
variable {X:Cx}{pins:List (Addr × Obj)}{σ:St}{H:Hp}{s:Shared}{A:Around}{E:Value→Shared→Prop}{Q:Value→Shared→Prop}{c:Value}{b:Bool}
inductive TyOf (K:PySem.W.Frag) (H:Hp):V→Value→Prop where
 | non:TyOf K H .non (.type "NoneType")
 | bl (x:Bool):TyOf K H (.bl x) (.type "bool")
 | int (i:Int):TyOf K H (.int i) (.type "int")
 | str (x:Str):TyOf K H (.str x) (.type "str")
 | flt (x:UInt64):TyOf K H (.flt x) (.type "float")
 | lst {a:Addr} {xs:List V} (e:H a=some (.lst xs)):TyOf K H (.ref a) (.type "list")
 | frz {a:Addr} {o:Obj} {xs:List V} (e:H a=some (.frz o (.lst xs))):TyOf K H (.ref a) (.type "list")
 | tup {a:Addr} {xs:List V} (e:H a=some (.tup xs)):TyOf K H (.ref a) (.type "tuple")
 | dK {a:Addr} {kvs:List (Key × V)} (e:H a=some (.dK kvs)):TyOf K H (.ref a) (.type "dict")
 | dT {a:Addr} {kvs:List (List Key × V)} (e:H a=some (.dT kvs)):TyOf K H (.ref a) (.type "dict")
 | ins {a C dx:Addr} {fs:List (Str × V)} (e:H a=some (.ins C dx fs)) (cl:Cls K C) (ha:PySem.W.findIn K (.ref C) "__class__" = some (some (.builtin "object.__class__")))
   (hn:PySem.W.specialIn K (.builtin "object.__class__") "__get__" = some (some (.builtin "getset_descriptor.__get__"))) (htk:PySem.W.takesIn K (.builtin "object.__class__")=some true)
   (hm:PySem.W.mroIn K C (.type "object")=some true):TyOf K H (.ref a) (.ref C)
theorem isinst_ok {x:V} {u t:Value} (I:Inv X pins σ H s) (rx:RelV x u) (ty:TyOf X.K H x t) (e:PySem.W.kitOne X.K t c=some b) (h:∀ tk,Q (.bool b) { s with toks:=tk }) :
  wpAny (model X.prog X.w) A (call (.builtin "isinstance") [u,c]) Q E s:=by
 cases ty with
 | non=>cases (show u=Value.none from rx); exact PySem.W.kia_one PySem.W.kitx_none I.kIn True.intro e (fun z=>nomatch z) h
 | bl y=>cases (show u=Value.bool y from rx); exact PySem.W.kia_one PySem.W.kitx_bool I.kIn True.intro e (fun z=>nomatch z) h
 | int i=>obtain ⟨t,q⟩:=(show ∃ t,u=Value.int i t from rx); cases q; exact PySem.W.kia_one PySem.W.kitx_int I.kIn True.intro e (fun z=>nomatch z) h
 | str y=>obtain ⟨t,q⟩:=(show ∃ t,u=Value.str y t from rx); cases q; exact PySem.W.kia_one PySem.W.kitx_str I.kIn True.intro e (fun z=>nomatch z) h
 | flt y=>obtain ⟨t,q⟩:=(show ∃ t,u=Value.float y t from rx); cases q; exact PySem.W.kia_one PySem.W.kitx_float I.kIn True.intro e (fun z=>nomatch z) h
 | @lst a xs ea =>
  cases (show u=Value.ref a from rx)
  obtain ⟨_,_,n,_,h1⟩:=(show ObjOk X.prog X.w H s.heap a (.lst xs) from I.hok a _ ea)
  exact PySem.W.kia_one PySem.W.kitx_list I.kIn ⟨_,h1,rfl⟩ e (fun z=>nomatch z) h
 | @frz a ob xs ea =>
  cases (show u=Value.ref a from rx)
  obtain ⟨_,_,_,n,_,h1⟩:=(show ObjOk X.prog X.w H s.heap a (.frz ob (.lst xs)) from I.hok a _ ea)
  exact PySem.W.kia_one PySem.W.kitx_list I.kIn ⟨_,h1,rfl⟩ e (fun z=>nomatch z) h
 | @tup a xs ea =>
  cases (show u=Value.ref a from rx)
  obtain ⟨_,_,_,p⟩:=(show ObjOk X.prog X.w H s.heap a (.tup xs) from I.hok a _ ea)
  obtain ⟨o,h1,h2,_⟩:=p
  exact PySem.W.kia_one PySem.W.kitx_tuple I.kIn ⟨o,h1,h2⟩ e (fun z=>nomatch z) h
 | @dK a kvs ea =>
  cases (show u=Value.ref a from rx)
  obtain ⟨_,_,vs,_,p⟩:=(show ObjOk X.prog X.w H s.heap a (.dK kvs) from I.hok a _ ea)
  obtain ⟨o,es,ep,h1,h2,_⟩:=p
  exact PySem.W.kia_one PySem.W.kitx_dict I.kIn ⟨o,h1,h2.1⟩ e (fun z=>nomatch z) h
 | @dT a kvs ea =>
  cases (show u=Value.ref a from rx)
  obtain ⟨_,_,xs,_,o,es,ep,h1,h2,_⟩:=(show ObjOk X.prog X.w H s.heap a (.dT kvs) from I.hok a _ ea)
  exact PySem.W.kia_one PySem.W.kitx_dict I.kIn ⟨o,h1,h2.1⟩ e (fun z=>nomatch z) h
 | @ins a C dx fs ea cl ha hn htk hm =>
  cases (show u=Value.ref a from rx)
  obtain ⟨mA,O,_⟩:=ins_get I.hok ea
  obtain ⟨od,J,_⟩:=O.look
  exact PySem.W.kia_one (PySem.W.kitx_own (cl.get _) cl.hd ha hn htk hm) I.kIn J e (fun z=>nomatch z) h
end
end L2
namespace L2
open PySem PySem.Spec PyProof.Rows
structure Room (k:Nat) (A:Around):Prop where
 hd:A.handled=none
 dp:A.depth+3*k+5<recursionLimit
 un:A.units+16*k+200<cLine
theorem Room.mono {j k:Nat} {A:Around} (r:Room k A) (h:j≤k):Room j A:=⟨r.hd,by have:=r.dp; omega,by have:=r.un; omega⟩
theorem Room.deeper {k:Nat} {A:Around} (r:Room (k+1) A) (env:Env):Room k (A.deeper env):=
 ⟨r.hd,by have:=r.dp; show A.depth+1+3*k+5<_; omega,by have:=r.un; show A.units+3+16*k+200<_; omega⟩
theorem make_depth {A:Around} {C:Addr} {us:List Value} {kw:List (Str × Value)}:(A.under (.builtin "type.__call__" ⟨.ref C::us,kw⟩)).depth=A.depth+1:=by
 first|rfl|simp [Around.under,Code.weight,Code.isCreation,Code.isGuard,Code.isCaller,Code.frames,Code.isFrame,guardIds]
theorem make_units {A:Around} {C:Addr} {us:List Value} {kw:List (Str × Value)}:(A.under (.builtin "type.__call__" ⟨.ref C::us,kw⟩)).units=A.units+1:=by
 first|rfl|simp [Around.under,Code.cUnits,Code.frames,Code.isFrame]
theorem Room.make {k:Nat} {A:Around} (r:Room (k+1) A) (C:Addr) (us:List Value) (kw:List (Str × Value)):Room k (A.under (.builtin "type.__call__" ⟨.ref C::us,kw⟩)):=
 ⟨r.hd,by have:=r.dp; rw [make_depth]; omega,by have:=r.un; rw [make_units]; omega⟩
theorem Room.depth {k:Nat} {A:Around} (r:Room k A):A.depth<recursionLimit:=by have:=r.dp; omega
theorem Room.units {k:Nat} {A:Around} (r:Room k A):A.units+64<cLine:=by have:=r.un; omega
def tNil:TA:=fun _ H Q=>Q [] H
def tCons (ta:TE) (tr:TA):TA:=fun σ H Q=>ta σ H fun x H1=>tr σ H1 fun xs H2=>Q (x::xs) H2
section
variable {X:Cx}{e:Expr}{es:List Expr}{te:TE}{t:TA}{pos:Pos}
theorem pa_nil:PA X [] tNil:=fun _ _ _ _ H Q I h=>Calls.spliced_nil ⟨[],H,I,.nil,h⟩
theorem pa_cons (ha:PE X e te) (hr:PA X es t) (hs:starEach (e::es) X.env=(false,eval e X.env)::starEach es X.env:=by rfl):PA X (e::es) (tCons te t):=by
 intro pos pins s σ H Q I h
 rw [hs]
 show wpAny _ _ (spliced ((false,eval e X.env)::backTo pos (starEach es X.env))) _ _ s
 refine Calls.spliced_cons (thn (ha pins s σ H _ I h) fun u s1 ⟨x,H1,I1,r1,q1⟩=>?_)
 exact thn (hr pos pins s1 σ H1 _ I1 q1) fun us s2 ⟨xs,H2,I2,r2,q2⟩=>⟨x::xs,H2,I2,.cons r1 r2,q2⟩
def tTup (t:TA):TE:=fun σ H Q=>t σ H fun xs H1=>xs.length≤sizeLine∧∀ p,H1 p=none→Q (.ref p) (upd H1 p (.tup xs))
def tLst (t:TA):TE:=fun σ H Q=>t σ H fun xs H1=>xs.length≤sizeLine∧∀ p,H1 p=none→Q (.ref p) (upd H1 p (.lst xs))
theorem pe_tup {x1} (h:PA X es t):PE X (.Tuple es x1 pos) (tTup t):=by
 intro pins s σ H Q I hq
 refine wpAny_Tuple_spliced (thn (h pos pins s σ H _ I hq) fun us s1 ⟨xs,H1,I1,r,z,q⟩=>⟨by rw [← r.length]; exact z,?_⟩)
 have hf:H1 s1.heap.objs.size=none:=I1.hok.fresh (Nat.le_refl _)
 refine ⟨.ref s1.heap.objs.size,upd H1 s1.heap.objs.size (.tup xs),I1.laid (t':=s1.toks) (fun b u e=>Heap.get?_push_of_some _ e) (Nat.le_refl _) ?_,rfl,q _ hf⟩
 exact ⟨z,us,r,⟨_,Heap.get?_push_size _ rfl,rfl,_,rfl⟩⟩
theorem pe_lst (h:PA X es t):PE X (.List es pos) (tLst t):=by
 intro pins s σ H Q I hq
 refine wpAny_List_spliced (thn (h pos pins s σ H _ I hq) fun us s1 ⟨xs,H1,I1,r,z,q⟩=>⟨by rw [← r.length]; exact z,?_⟩)
 have hf:H1 s1.heap.objs.size=none:=I1.hok.fresh (Nat.le_refl _)
 refine ⟨.ref s1.heap.objs.size,upd H1 s1.heap.objs.size (.lst xs),I1.laid (t':=s1.toks) (fun b u e=>Heap.get?_push_of_some _ e) (Nat.le_refl _) ?_,rfl,q _ hf⟩
 exact ⟨z,us,0,r,Heap.get?_push_size _ rfl⟩
end
abbrev Sp:=List V→Hp→VK→XK→Prop
abbrev CXT:=List Env→Hp→Shared→XK→Value→Shared→Prop
structure Env0 (P:Program) (w:World) (K:PySem.W.Frag) (mg:Str→Option Value) (base:Heap) (A:Around) (outer:List Env) (s:Shared) (H:Hp):Prop where
 frames:A.frames=some outer
 mod:Mod K mg base
 bs:∀ b o,base.get? b=some o→s.heap.get? b=some o∧H b=none
 bsz:base.objs.size≤s.heap.objs.size
 funs:s.heap.FunFrames base outer
 frf:∀ b ∈ frs outer,H b=none
 hok:HOk P w H s.heap
 bare:AllBare s.gens
def CE (outer:List Env) (P:Program) (w:World) (H:Hp) (s:Shared) (Q:VK) (u:Value) (s':Shared):Prop:=
 ∃ v H',s'.os=s.os∧AllBare s'.gens∧Un (frs outer) [] H H' s.heap s'.heap∧HOk P w H' s'.heap∧RelV v u∧Q v H'
def CR (CX:CXT) (outer:List Env) (P:Program) (w:World) (H:Hp) (s:Shared) (Q:VK) (E:XK) (r:Result) (s':Shared):Prop:=
 match r with
 | .ok (.ret u)=>CE outer P w H s Q u s'
 | .ok _=>False
 | .error e=>CX outer H s E e s'
structure FnOk (P:Program) (w:World) (K:PySem.W.Frag) (mg:Str→Option Value) (base:Heap) (CX:CXT) (k:Nat) (f:Addr) (fd:FuncData) (ps:List Str) (sp:Sp):Prop where
 len:∀ vs H Q E,sp vs H Q E→vs.length=ps.length
 run:∀ (A:Around) (outer:List Env) (s:Shared) (H:Hp) (args:Args) (us:List Value) (vs:List V) (Q:VK) (E:XK),Room k A→Env0 P w K mg base A outer s H→BindsTo s fd args (ps.zip us)→Vals vs us→sp vs H Q E →
  codeAny (model P w) A (.call (.ref f) args) (CR CX outer P w H s Q E) s
theorem FnOk.mono {P:Program} {w:World} {K:PySem.W.Frag} {mg:Str→Option Value} {base:Heap} {CX:CXT} {j k:Nat} {f:Addr} {fd:FuncData} {ps:List Str} {sp:Sp} (F:FnOk P w K mg base CX j f fd ps sp) (h:j≤k) :
  FnOk P w K mg base CX k f fd ps sp:=⟨F.len,fun A outer s H args us vs Q E hr=>F.run A outer s H args us vs Q E (hr.mono h)⟩
theorem FnOk.imp {P:Program} {w:World} {K:PySem.W.Frag} {mg:Str→Option Value} {base:Heap} {CX:CXT} {k:Nat} {f:Addr} {fd:FuncData} {ps:List Str} {sp sp':Sp} (F:FnOk P w K mg base CX k f fd ps sp)
  (h:∀ vs H Q E,sp' vs H Q E→sp vs H Q E):FnOk P w K mg base CX k f fd ps sp':=
 ⟨fun vs H Q E q=>F.len vs H Q E (h _ _ _ _ q),fun A outer s H args us vs Q E hr he hb hv hs=>F.run A outer s H args us vs Q E hr he hb hv (h _ _ _ _ hs)⟩
theorem Env0.make {P:Program} {w:World} {K:PySem.W.Frag} {mg:Str→Option Value} {base:Heap} {A:Around} {outer:List Env} {s:Shared} {H:Hp} (e:Env0 P w K mg base A outer s H) (C:Addr) (us:List Value) (kw:List (Str × Value)) :
  Env0 P w K mg base (A.under (.builtin "type.__call__" ⟨.ref C::us,kw⟩)) outer s H:=⟨by first|exact e.frames|(simpa [Around.under,Code.envs,Code.isFrame,pushEnvs] using e.frames),e.mod,e.bs,e.bsz,e.funs,e.frf,e.hok,e.bare⟩
section
variable {X:Cx}{pins:List (Addr × Obj)}{σ:St}{H:Hp}{s s':Shared}
theorem Inv.env0 (I:Inv X pins σ H s):Env0 X.prog X.w X.K X.mg X.base X.A X.stack s H:=
 ⟨I.ok.frames,I.ok.mod,I.bs,Nat.le_trans I.ok.bsz I.sz,I.stack,I.stkFree,I.hok,I.bare⟩
theorem Inv.after {Q:VK} {u:Value} (I:Inv X pins σ H s) (h:CE X.stack X.prog X.w H s Q u s'):EP X pins σ Q u s':=by
 obtain ⟨v,H',os,bare,un,hok,r,q⟩:=h
 obtain ⟨hh,g,d,t,os'⟩:=s'
 obtain rfl:os'=s.os:=os
 exact ⟨v,H',I.call (h':=hh) (g':=g) (d':=d) (t':=t) (ch:=[]) un hok bare (fun b z=>absurd z (by simp)),r,q⟩
end
def tCall (sp:Sp) (dvs:List V) (E:XK) (t:TA):TE:=fun σ H Q=>t σ H fun vs H1=>sp (vs++dvs) H1 Q E
def Binds (K:PySem.W.Frag) (fd:FuncData) (ps:List Str) (ds:List Value):Prop:=
 ∀ (s:Shared) (us:List Value),K.In s.heap→(us++ds).length=ps.length→BindsTo s fd ⟨us,[]⟩ (ps.zip (us++ds))
theorem Binds.all {K:PySem.W.Frag} {fd:FuncData} {ps:List Str} (h:∀ us:List Value,us.length=ps.length→bindArgs fd ⟨us,[]⟩=pure (ps.zip us)):Binds K fd ps []:=fun s us _ hl=>by
 rw [List.append_nil] at hl ⊢
 exact .of_eq (h us hl)
def Passes (CX:CXT) (X:Cx) (E:XK):Prop:=∀ (pins:List (Addr × Obj)) (σ:St) (H:Hp) (s:Shared) (e:Value) (s':Shared),Inv X pins σ H s→CX X.stack H s E e s'→X.xe e s'
section
variable {X:Cx}{CX:CXT}{k:Nat}{f C:Addr}{fd:FuncData}{ps:List Str}{sp:Sp}{dvs:List V}{ds:List Value}{E:XK}{x m:Str}{p pos apos:Pos}{e o:Expr}{es:List Expr}{ta:TE}{t:TA}
theorem run_fn {pins:List (Addr × Obj)} {σ:St} {H:Hp} {s:Shared} {Q:VK} {us:List Value} {vs:List V} (F:FnOk X.prog X.w X.K X.mg X.base CX k f fd ps sp) (hr:Room k X.A) (hb:Binds X.K fd ps ds) (hd:Vals dvs ds) (hx:Passes CX X E)
  (I:Inv X pins σ H s) (r:Vals vs us) (h:sp (vs++dvs) H Q E):wpAny (model X.prog X.w) X.A (call (.ref f) us) (EP X pins σ Q) X.xe s:=by
 have r2:Vals (vs++dvs) (us++ds):=r.append hd
 have hl:(us++ds).length=ps.length:=by rw [← r2.length]; exact F.len _ _ _ _ h
 refine wpAny_call (codeAny_mono (F.run X.A X.stack s H ⟨us,[]⟩ (us++ds) (vs++dvs) Q E hr I.env0 (hb s us I.kIn hl) r2 h) fun r s' hq=>?_)
 cases r with
 | error e=>exact hx pins σ H s e s' I hq
 | ok fl =>
  cases fl with
  | ret u=>exact I.after hq
  | next=>exact False.elim hq
  | brk=>exact False.elim hq
  | cont=>exact False.elim hq
theorem pe_call (F:FnOk X.prog X.w X.K X.mg X.base CX k f fd ps sp) (hr:Room k X.A) (hg:Gl X x) (hm:X.mg x=some (.ref f)) (hk:PySem.W.keepIn X.K (.ref f)=true) (hb:Binds X.K fd ps ds) (hd:Vals dvs ds) (hx:Passes CX X E)
  (ha:PA X (e::es) t) (hdb:(x == ("__debug__":Str))=false:=by decide) (he:starEach (e::es) X.env=(false,eval e X.env)::starEach es X.env:=by rfl) (hpl:(backTo pos (starEach es X.env)).any (·.1)=false:=by rfl) :
  PE X (.Call (.Name x p) (e::es) [] pos) (tCall sp dvs E t):=by
 intro pins s σ H Q I h
 refine wpAny_Call_Name_kw (ld_glob I hg hm ?_ hdb)
 refine PySem.W.callWith_K (h₀:=X.base) I.ok.mod.kin hk (thn (ha pos pins s σ H _ I h) fun us s1 ⟨vs,H1,I1,r,q⟩=>⟨I1.kIn,?_⟩) he hpl
 exact run_fn F hr hb hd hx I1 r q
theorem pe_call0 (F:FnOk X.prog X.w X.K X.mg X.base CX k f fd ps sp) (hr:Room k X.A) (hg:Gl X x) (hm:X.mg x=some (.ref f)) (hk:PySem.W.keepIn X.K (.ref f)=true) (hb:Binds X.K fd ps ds) (hd:Vals dvs ds) (hx:Passes CX X E)
  (hdb:(x == ("__debug__":Str))=false:=by decide):PE X (.Call (.Name x p) [] [] pos) (tCall sp dvs E tNil):=by
 intro pins s σ H Q I h
 refine wpAny_Call_Name_kw (ld_glob I hg hm ?_ hdb)
 exact PySem.W.callWith_K0 I.kIn hk (run_fn (us:=[]) F hr hb hd hx I .nil h)
structure Mk (K:PySem.W.Frag) (C f:Addr):Prop where
 makes:PySem.W.makesIn K C=true
 init:PySem.W.findIn K (.ref C) "__init__" = some (some (.ref f))
 fn:PySem.W.isFn K (.ref f)=true
 kp:PySem.W.keepIn K (.ref C)=true
end
section
variable {X:Cx}{CX:CXT}{k:Nat}{f C:Addr}{fd:FuncData}{ps ks:List Str}{sp:Sp}{E:XK}{x m:Str}{p pos apos kpos:Pos}{e o:Expr}{es:List Expr}{kws:List Keyword}{te ta:TE}{t tk:TA}{nm:Option Str}
structure KBinds (K:PySem.W.Frag) (fd:FuncData) (ps ks:List Str) (g:List Value→List Value→List Value) (gV:List V→List V→List V):Prop where
 to:∀ (s:Shared) (us ws:List Value),K.In s.heap→(g us ws).length=ps.length→BindsTo s fd ⟨us,ks.zip ws⟩ (ps.zip (g us ws))
 rel:∀ {vs:List V} {us:List Value} {zs:List V} {ws:List Value},Vals vs us→Vals zs ws→Vals (gV vs zs) (g us ws)
variable {g:List Value→List Value→List Value}{gV:List V→List V→List V}
end
structure FnScope (N P:List Str) (sc:Scope):Prop where
 kind:sc.kind=.function
 co:sc.isCoroutine=false
 gen:sc.isGenerator=false
 nd:N.Nodup
 pre:N.take P.length=P
 par:∀ x ∈ P,sc.names.lookup x=some .local∨sc.names.lookup x=some .cell
 nofree:∀ y ∈ sc.names,y.2≠.free
theorem bindL_out {kindOf:Str→Option NameKind} {x:Str}:∀ {binds:List (Str × Value)} {m:Str→Option Value},(∀ v,(x,v) ∉ binds)→bindL kindOf binds m x=m x
 | [],_,_=>rfl
 | (n,v)::r,m,h=>by
  unfold bindL
  rw [bindL_out fun w hw=>h w (List.mem_cons_of_mem _ hw)]
  split
  ·have:x≠n:=by rintro rfl; exact h v List.mem_cons_self
   simp [this]
  ·rfl
theorem bindC_out {kindOf:Str→Option NameKind} {x:Str}:∀ {binds:List (Str × Value)} {m:Str→Option Value},(∀ v,(x,v) ∉ binds)→bindC kindOf binds m x=m x
 | [],_,_=>rfl
 | (n,v)::r,m,h=>by
  unfold bindC
  rw [bindC_out fun w hw=>h w (List.mem_cons_of_mem _ hw)]
  split
  ·rfl
  ·have:x≠n:=by rintro rfl; exact h v List.mem_cons_self
   simp [this]
theorem bindL_get {kindOf:Str→Option NameKind} {x:Str} {v:Value}:∀ {P:List Str} {vs:List Value} {i:Nat} {m:Str→Option Value},P.Nodup→P[i]?=some x→vs[i]?=some v→kindOf x=some .local →
  bindL kindOf (P.zip vs) m x=some v
 | [],_,_,_,_,h,_,_=>by simp at h
 | _::_,[],_,_,_,_,h,_=>by simp at h
 | p::P,w::vs,0,m,nd,h1,h2,hk=>by
  simp at h1 h2; subst h1; subst h2
  show bindL kindOf ((p,w)::P.zip vs) m p=_
  unfold bindL
  rw [bindL_out fun v hv=>(List.nodup_cons.mp nd).1 (List.of_mem_zip hv).1,if_pos hk]
  simp
 | p::P,w::vs,i+1,m,nd,h1,h2,hk=>by
  show bindL kindOf ((p,w)::P.zip vs) m x=_
  unfold bindL
  exact bindL_get (i:=i) (List.nodup_cons.mp nd).2 (by simpa using h1) (by simpa using h2) hk
theorem bindC_get {kindOf:Str→Option NameKind} {x:Str} {v:Value}:∀ {P:List Str} {vs:List Value} {i:Nat} {m:Str→Option Value},P.Nodup→P[i]?=some x→vs[i]?=some v→kindOf x≠some .local →
  bindC kindOf (P.zip vs) m x=some v
 | [],_,_,_,_,h,_,_=>by simp at h
 | _::_,[],_,_,_,_,h,_=>by simp at h
 | p::P,w::vs,0,m,nd,h1,h2,hk=>by
  simp at h1 h2; subst h1; subst h2
  show bindC kindOf ((p,w)::P.zip vs) m p=_
  unfold bindC
  rw [bindC_out fun v hv=>(List.nodup_cons.mp nd).1 (List.of_mem_zip hv).1,if_neg hk]
  simp
 | p::P,w::vs,i+1,m,nd,h1,h2,hk=>by
  show bindC kindOf ((p,w)::P.zip vs) m x=_
  unfold bindC
  exact bindC_get (i:=i) (List.nodup_cons.mp nd).2 (by simpa using h1) (by simpa using h2) hk
noncomputable def start (N:List Str) (vs:List V):St:=vs.map some++List.replicate (N.length-vs.length) none
noncomputable def cxOf (CX:CXT) (P:Program) (w:World) (K:PySem.W.Frag) (mg:Str→Option Value) (base:Heap) (N:List Str) (qual:Str) (scope:Scope) (f:Addr) (cd:Value) (A:Around) (outer:List Env) (s:Shared) (H:Hp) (E:XK):Cx where
 prog:=P
 w:=w
 K:=K
 mg:=mg
 base:=base
 A:=A.deeper (envOfC qual scope s.heap.objs.size f cd)
 N:=N
 s₀:=s
 H₀:=H
 env:=envOfC qual scope s.heap.objs.size f cd
 outer:=outer
 stack:=envOfC qual scope s.heap.objs.size f cd::outer
 ex:=[]
 calm:=true
 fn:=fun _=>true
 pn:=[]
 xe:=fun e s'=>wpAny (model P w) (A.deeper (envOfC qual scope s.heap.objs.size f cd)) (leaving (envOfC qual scope s.heap.objs.size f cd) e) (fun _ s''=>CX outer H s E e s'') (fun e' s''=>CX outer H s E e' s'') s'
theorem cell_has {sc:Scope} {n:Nat} {x:Str} (h:sc.names.lookup x=some .cell):∃ c,(cellsFrom n sc.names []).lookup x=some c:=by
 have q:=PySem.W.cellsFrom_some sc.names n [] (.inl h)
 exact Option.isSome_iff_exists.mp q
theorem inv_start {CX:CXT} {P:Program} {w:World} {K:PySem.W.Frag} {mg:Str→Option Value} {base:Heap} {N ps:List Str} {qual:Str} {scope:Scope} {f:Addr} {cd:Value} {A:Around} {outer:List Env} {s s1:Shared} {H:Hp} {E:XK} {us:List Value} {vs:List V}
  (S:FnScope N ps scope) (hd:A.handled=none) (e0:Env0 P w K mg base A outer s H) (hl:vs.length=ps.length) (r:Vals vs us)
  (x:InCallC s s.heap.objs.size (bindL (envOfC qual scope s.heap.objs.size f cd).kindOf (ps.zip us) fun _=>none) (cellsFrom (s.heap.objs.size+1) scope.names []) (bindC (envOfC qual scope s.heap.objs.size f cd).kindOf (ps.zip us) fun _=>none) s1) :
  Inv (cxOf CX P w K mg base N qual scope f cd A outer s H E) [] (start N vs) H s1:=by
 have hpl:ps.length≤N.length:=by have:=congrArg List.length S.pre; rw [List.length_take] at this; omega
 obtain ⟨h1,tk,rfl,hk⟩:=x.done
 have noA:∀ b:Addr,b ∉ (cxOf CX P w K mg base N qual scope f cd A outer s H E).ex:=fun b z=>absurd (show b ∈ ([]:List Addr) from z) (by simp)
 refine ⟨⟨e0.mod,S.kind,rfl,rfl,Nat.le_refl _,fun y z c h1 h2=>?_,fun y hy=>?_,fun y c _ h=>?_,fun _=>hd,Around.frames_deeper e0.frames,.inr ⟨rfl,rfl⟩,fun b z=>absurd z (noA b),e0.bs,e0.bsz,fun b _ _=>noA b,fun b z=>absurd z (noA b),e0.funs,e0.frf⟩,
  rfl,e0.bare,Un.kept hk,⟨_,x.toInCall.ns,fun i y v h1 h2 h3=>?_⟩,fun y c h=>⟨_,x.cell y c h⟩,e0.hok.fresh (Nat.le_refl _),fun y c h=>?_,fun p hp=>absurd (show p ∈ ([]:List (Addr × Obj)) from hp) (by simp),e0.hok.kept hk,?_⟩
 ·exact name_of_addr x.apart (PySem.mem_of_lookup h1) (PySem.mem_of_lookup h2)
 ·have hy:scope.names.lookup y=some .cell∨scope.names.lookup y=some .free:=hy
  rcases hy with hy|hy
  ·exact cell_has hy
  ·exact absurd rfl (S.nofree _ (PySem.mem_of_lookup hy))
 ·exact Nat.le_of_lt (x.above y c (PySem.mem_of_lookup h))
 ·have hi:i<vs.length:=by
   unfold start at h2
   by_cases hi:i<vs.length
   ·exact hi
   ·rw [List.getElem?_append_right (by simpa using hi)] at h2
    rw [List.getElem?_replicate] at h2
    split at h2<;>cases h2
  have ha:vs[i]?=some v:=by
   unfold start at h2
   rw [List.getElem?_append_left (by simpa using hi),List.getElem?_map] at h2
   cases e:vs[i]? with
   | none=>rw [e] at h2; cases h2
   | some a=>rw [e] at h2; cases h2; rfl
  obtain ⟨u,hu,rv⟩:=r.get ha
  have hp:ps[i]?=some y:=by
   rw [← S.pre,List.getElem?_take_of_lt (by omega)]; exact h1
  have ndP:ps.Nodup:=by rw [← S.pre]; exact S.nd.sublist (List.take_sublist _ _)
  refine ⟨u,rv,?_⟩
  rcases S.par y (List.mem_of_getElem? hp) with k|k
  ·exact .inl ⟨k,bindL_get ndP hp hu k⟩
  ·obtain ⟨c,e⟩:=cell_has (n:=s.heap.objs.size+1) k
   refine .inr ⟨.inl k,c,e,?_⟩
   have q:=x.cell y c e
   rw [bindC_get ndP hp hu (by show scope.names.lookup y≠_; rw [k]; decide)] at q
   exact q
 ·exact e0.hok.fresh (Nat.le_of_lt (x.above y c (PySem.mem_of_lookup h)))
 ·unfold start
  show _=N.length
  rw [List.length_append,List.length_map,List.length_replicate]
  omega
theorem fn_of {CX:CXT} {P:Program} {w:World} {K:PySem.W.Frag} {mg:Str→Option Value} {base:Heap} {k:Nat} {f:Addr} {name qual:Str} {params:Arguments} {body:List Stmt} {scope:Scope} {dV kV doc pm cdv ct oc:Value} {an od:Option Addr}
  {osl:Array (Option Value)} {N ps:List Str} {sp:Sp} (lk:K.lookup f=some ⟨oc,od,.func (PySem.W.fnOf name qual params body scope dV kV doc pm an cdv ct),osl⟩) (hcd:PySem.W.codeIn K cdv qual=true) (S:FnScope N ps scope)
  (len:∀ vs H Q E,sp vs H Q E→vs.length=ps.length)
  (hbody:∀ (A:Around) (outer:List Env) (s:Shared) (H:Hp) (vs:List V) (Q:VK) (E:XK),Room k (A.deeper (envOfC qual scope s.heap.objs.size f cdv))→sp vs H Q E →
   ∃ t,PSs (cxOf CX P w K mg base N qual scope f cdv A outer s H E) body t∧t { nx:=fun _ H'=>Q .non H',rt:=Q } (start N vs) H) :
  FnOk P w K mg base CX (k+1) f (PySem.W.fnOf name qual params body scope dV kV doc pm an cdv ct) ps sp:=by
 refine ⟨len,fun A outer s H args us vs Q E hr e0 hb r hsp=>?_⟩
 have hl:=len _ _ _ _ hsp
 have KX:K.In s.heap:=e0.mod.kin.keeps fun b o e=>(e0.bs b o e).1
 have lim:s.heap.NoLimit:=e0.mod.nolimit.keeps fun b o e=>(e0.bs b o e).1
 have hkind:∀ y ∈ ps.zip us,scope.names.lookup y.1=some .local∨(scope.names.lookup y.1=some .cell∧((cellsFrom (s.heap.objs.size+1) scope.names []).lookup y.1).isSome=true):=fun ⟨n,v⟩ hy=>by
  rcases S.par n (List.of_mem_zip hy).1 with q|q
  ·exact .inl q
  ·exact .inr ⟨q,PySem.W.cellsFrom_some _ _ _ (.inl q)⟩
 refine codeAny_call_function hr.depth (KX _ _ lk) rfl S.co S.gen rfl (PySem.W.codeRec_of KX hcd) (hb _ _ _ _ ?_)
 refine wpAny_newFunctionEnv_cells S.kind hkind fun env he s1 x=>?_
 subst he
 refine ⟨lim.keeps x.toInCall.keep,codeAny_func ?_⟩
 obtain ⟨t,ht,hq⟩:=hbody A outer s H vs Q E (hr.deeper _) hsp
 have I:Inv (cxOf CX P w K mg base N qual scope f cdv A outer s H E) [] (start N vs) H s1:=inv_start S hr.hd e0 hl r x
 refine wpAny_mono (ht [] s1 (start N vs) H _ I hq) (fun fl s' hs=>?_) fun e s' hs=>hs
 have fin:∀ {σ':St} {H':Hp} {v:V} {u:Value},Inv (cxOf CX P w K mg base N qual scope f cdv A outer s H E) [] σ' H' s'→RelV v u→Q v H'→CE outer P w H s Q u s':=
  fun {σ' H' v u} J rv q=>⟨v,H',J.os,J.bare,J.base,J.hok,rv,q⟩
 cases fl with
 | ret u =>
  obtain ⟨v,σ',H',J,rv,q⟩:=hs
  exact fin J rv q
 | next =>
  obtain ⟨σ',H',J,q⟩:=hs
  exact fin (v:=V.non) (u:=Value.none) J rfl q
 | brk =>
  obtain ⟨_,_,_,q⟩:=hs
  exact False.elim q
 | cont =>
  obtain ⟨_,_,_,q⟩:=hs
  exact False.elim q
end L2
namespace L2
open PySem PySem.Spec PyProof.Rows
section
variable {X:Cx}{x:Str}{p pos:Pos}{e:Expr}{es:List Expr}{t:TA}{id T:String}{r:List V→Hp→VK→Prop}
def tCB (r:List V→Hp→VK→Prop) (t:TA):TE:=fun σ H Q=>t σ H fun vs H1=>r vs H1 Q
theorem pe_callB (hc:CallR X (.builtin id) r) (hg:Gl X x) (hm:X.mg x=none) (hv:bootBuiltins x=some (.builtin id)) (ha:PA X (e::es) t) (hn:x≠"__name__":=by decide) (hdb:(x == ("__debug__":Str))=false:=by decide)
  (he:starEach (e::es) X.env=(false,eval e X.env)::starEach es X.env:=by rfl) (hpl:(backTo pos (starEach es X.env)).any (·.1)=false:=by rfl):PE X (.Call (.Name x p) (e::es) [] pos) (tCB r t):=by
 intro pins s σ H Q I h
 refine wpAny_Call_Name_kw (ld_blt I hg hm hv ?_ hn hdb)
 exact PyProof.Rows.callWith_builtin1 (thn (ha pos pins s σ H _ I h) fun us s1 ⟨vs,H1,I1,r1,q1⟩=>hc pins s1 σ H1 vs us Q I1 r1 q1) he hpl
theorem pe_callTy (hc:CallR X (.type T) r) (hg:Gl X x) (hm:X.mg x=none) (hv:bootBuiltins x=some (.type T)) (ha:PA X (e::es) t) (hn:x≠"__name__":=by decide) (hdb:(x == ("__debug__":Str))=false:=by decide)
  (he:starEach (e::es) X.env=(false,eval e X.env)::starEach es X.env:=by rfl) (hpl:(backTo pos (starEach es X.env)).any (·.1)=false:=by rfl):PE X (.Call (.Name x p) (e::es) [] pos) (tCB r t):=by
 intro pins s σ H Q I h
 refine wpAny_Call_Name_kw (ld_blt I hg hm hv ?_ hn hdb)
 exact PyProof.Rows.callWith_type1 (thn (ha pos pins s σ H _ I h) fun us s1 ⟨vs,H1,I1,r1,q1⟩=>hc pins s1 σ H1 vs us Q I1 r1 q1) he hpl
end
end L2
namespace HT
open PySem PyProof.Rows
section
open PySem.SeqAt
open PySem.AutoSeq1 (wpAny_loadPart')
open PySem.MeetsSeq PySem.MeetsSeq2 PySem.MeetsSeq3
end
section
variable {prog:Program}{w:World}{A:Around}{E:Value→Shared→Prop}{s:Shared}
theorem cat_tup {t b:Addr} {vs ws:List Value} {Q:Value→Shared→Prop} (ht:IsTup s.heap t vs.toArray) (hb:IsTup s.heap b ws.toArray) (hv:vs≠[])
  (h1:ws=[]→Q (.ref t) s) (h2:ws≠[]→Q (.ref s.heap.objs.size) { s with heap:=s.heap.push { cls:=.type "tuple",data:=.seq (vs++ws).toArray } })
  (hsz:vs.length+ws.length≤sizeLine):wpAny (model prog w) A (binaryOp .Add (.ref t) (.ref b)) Q E s:=by
 obtain ⟨⟨cls,dd,data,sl⟩,ho,hc,n,hd⟩:=id ht
 obtain ⟨⟨cls2,dd2,data2,sl2⟩,ho2,hc2,n2,hd2⟩:=id hb
 simp only at hc hd hc2 hd2
 subst hc hd hc2 hd2
 have e:vs.toArray++ws.toArray=(vs++ws).toArray:=by simp
 by_cases hw:ws=[]
 ·exact concat_meets ⟨_,ho,rfl⟩ ⟨_,ho2,rfl⟩ noFill_tuple_add seq_tuple_add PySem.F.slot_tuple_add PySem.F.entry_tuple_add (PySem.F.args_tuple_add_2 _ _)
   (tuple_addW1 t b vs.toArray ws.toArray n n2 dd dd2 sl sl2 (by simpa using hv) (by simp [hw])) ⟨ho,ho2,h1 hw⟩
 ·refine concat_meets ⟨_,ho,rfl⟩ ⟨_,ho2,rfl⟩ noFill_tuple_add seq_tuple_add PySem.F.slot_tuple_add PySem.F.entry_tuple_add (PySem.F.args_tuple_add_2 _ _)
   (tuple_addW2 t b vs.toArray ws.toArray n n2 dd dd2 sl sl2 (by simpa using hv) (by simpa using hw) (by rw [List.size_toArray,List.size_toArray]; exact hsz)) ⟨ho,ho2,?_⟩
  rw [e]
  exact h2 hw
noncomputable def sIx (n d:Nat):Option Int→Nat
 | none=>d
 | some v=>if v<0 then (v+(n:Int)).toNat else min v.toNat n
theorem sIx_le (n d:Nat) (hd:d≤n) (o:Option Int):sIx n d o≤n:=by
 cases o with
 | none=>exact hd
 | some v =>
  show (if v<0 then (v+(n:Int)).toNat else min v.toNat n)≤n
  by_cases hv:v<0
  ·rw [if_pos hv]; omega
  ·rw [if_neg hv]; exact Nat.min_le_right _ _
theorem clip_eq (v:Int) (n d:Nat):(if v<0 then max (v+(n:Int)) 0 else min v (n:Int))=((sIx n d (some v):Nat):Int):=by
 show (if v<0 then max (v+(n:Int)) 0 else min v (n:Int))=(((if v<0 then (v+(n:Int)).toNat else min v.toNat n):Nat):Int)
 by_cases hv:v<0
 ·simp only [if_pos hv]; omega
 ·simp only [if_neg hv]; omega
theorem adjust_gen (lo hi:Option Int) (n:Nat):Builtin.Slice.sliceAdjust lo hi 1 (n:Int)=(((sIx n 0 lo:Nat):Int),((sIx n n hi:Nat):Int)):=by
 have h1:¬ ((1:Int)<0):=by omega
 unfold Builtin.Slice.sliceAdjust
 simp only [h1,if_false]
 refine Prod.ext ?_ ?_
 ·cases lo with
  | none=>rfl
  | some v=>exact clip_eq v n 0
 ·cases hi with
  | none=>rfl
  | some v=>exact clip_eq v n n
theorem places_gen (i j:Nat):Builtin.Slice.slicePlaces (i:Int) (j:Int) 1=j-i:=by
 unfold Builtin.Slice.slicePlaces
 have h1:(1:Int) > 0:=by omega
 simp only [h1,if_true,Int.ediv_one]
 split<;>omega
theorem slicePart_ {v:Value} {o:Option Int} {Q:Option Int→Shared→Prop} (p:IsPart v o) (h:Q o s):wpAny (model prog w) A (Builtin.Slice.slicePartIndex v) Q E s:=by
 cases p with
 | none=>exact slicePart_none h
 | int i t=>exact slicePart_int h
theorem sliceApplied_gen {sl:Addr} {vl vu:Value} {lo hi:Option Int} {n:Nat} {Q:Int × Int × Nat→Shared→Prop} (hs:s.heap.IsSliceOf sl vl vu .none) (pl:IsPart vl lo) (pu:IsPart vu hi)
  (h:Q (((sIx n 0 lo:Nat):Int),1,sIx n n hi-sIx n 0 lo) s):wpAny (model prog w) A (Builtin.Slice.sliceApplied (.ref sl) (pure (n:Int))) Q E s:=by
 obtain ⟨os,hos,hcs,hds⟩:=id hs
 unfold Builtin.Slice.sliceApplied Builtin.Slice.sliceFields
 refine wpAny_bind (wpAny_bind (wpAny_field hos hds (x:=vl) rfl (wpAny_bind (wpAny_field hos hds (x:=vu) rfl (wpAny_bind (wpAny_field hos hds (x:=.none) rfl (wpAny_pure ?_)))))))
 refine wpAny_bind (slicePart_none ?_)
 show wpAny _ _ (if ((1:Int) == 0)=true then _ else _) _ _ s
 rw [if_neg (by decide)]
 refine wpAny_bind (slicePart_ pl (wpAny_bind (slicePart_ pu (wpAny_bind (wpAny_pure ?_)))))
 show wpAny _ _ (match Builtin.Slice.sliceAdjust lo hi 1 (n:Int) with|(lo,hi)=>pure (lo,(1:Int),Builtin.Slice.slicePlaces lo hi 1)) _ _ s
 rw [adjust_gen lo hi n]
 show wpAny _ _ (pure (((sIx n 0 lo:Nat):Int),(1:Int),Builtin.Slice.slicePlaces ((sIx n 0 lo:Nat):Int) ((sIx n n hi:Nat):Int) 1)) _ _ s
 rw [places_gen]
 exact wpAny_pure h
theorem pick_gen (xs:Array Value) (i k:Nat):((List.range k).filterMap fun (m:Nat)=>xs[((i:Int)+(m:Int)*1).toNat]?).toArray=((xs.toList.drop i).take k).toArray:=by
 have e:(fun (m:Nat)=>xs[((i:Int)+(m:Int)*1).toNat]?)=fun m=>xs[i+m]?:=by
  funext m
  have:((i:Int)+(m:Int)*1).toNat=i+m:=by omega
  rw [this]
 rw [e]
 have:=pick_run xs i k
 rw [List.filterMap_map] at this
 have e2:((fun x=>xs[x]?) ∘ fun x=>i+x)=fun m=>xs[i+m]?:=rfl
 rw [e2] at this
 rw [this]
theorem getItem_tuple_cut {t sl:Addr} {items:Array Value} {vl vu:Value} {lo hi:Option Int} {Q:Value→Shared→Prop} (ht:IsTup s.heap t items) (hs:s.heap.IsSliceOf sl vl vu .none) (pl:IsPart vl lo) (pu:IsPart vu hi)
  (hw:¬ (sIx items.size 0 lo=0∧sIx items.size items.size hi=items.size))
  (h:Q (.ref s.heap.objs.size) { s with heap:=s.heap.push { cls:=.type "tuple",data:=.seq ((items.toList.drop (sIx items.size 0 lo)).take (sIx items.size items.size hi-sIx items.size 0 lo)).toArray } })
  (hsz:items.size≤sizeLine):wpAny (model prog w) A (getItem (.ref t) (.ref sl)) Q E s:=by
 have htake:sizeOk (.seq ((items.toList.drop (sIx items.size 0 lo)).take (sIx items.size items.size hi-sIx items.size 0 lo)).toArray):=by
  show ((items.toList.drop (sIx items.size 0 lo)).take (sIx items.size items.size hi-sIx items.size 0 lo)).toArray.size≤sizeLine
  rw [List.size_toArray,List.length_take,List.length_drop,Array.length_toList]
  omega
 have hj:sIx items.size items.size hi≤items.size:=sIx_le _ _ (Nat.le_refl _) hi
 obtain ⟨os,hos,hcs,hds⟩:=id hs
 have hTs:s.TypeIs (.ref sl) "slice":=⟨os,hos,hcs⟩
 unfold getItem
 try with_reducible refine wpAny_holding ?_
 first|refine wpAny_bind (wpAny_pure ?_)|skip
 refine wpAny_bind (wpAny_sequenceKey ht.typeIs (by decide) ?_)
 refine wpAny_bind (wpAny_callSpecial?_slot (name:=Str.ofString "__getitem__") ht.typeIs PyProof.Rows.slot_tuple_getitem
  (wpAny_call_entry PyProof.Rows.slot_tuple_getitem ht.typeIs entry_tuple_getitem ?_ (args_tuple_getitem _ _)))
 show wpAny _ _ (Builtin.Tuple.tupleItemsOf (.ref t) >>= _) _ _ s
 refine wpAny_bind (tupleItemsOf_ ht ?_)
 refine wpAny_bind (wpAny_typeOf hTs ?_)
 rw [if_pos (by decide)]
 refine wpAny_bind (sliceApplied_gen hs pl pu ?_)
 have hno:¬ ((((sIx items.size 0 lo:Nat):Int) == 0&&(1:Int) == 1&&(sIx items.size items.size hi-sIx items.size 0 lo) == items.size)=true):=by
  intro q
  rw [Bool.and_eq_true,Bool.and_eq_true] at q
  have q1:((sIx items.size 0 lo:Nat):Int)=0:=eq_of_beq q.1.1
  have q2:sIx items.size items.size hi-sIx items.size 0 lo=items.size:=eq_of_beq q.2
  exact hw ⟨by omega,by omega⟩
 show wpAny _ _ (if (((sIx items.size 0 lo:Nat):Int) == 0&&(1:Int) == 1&&(sIx items.size items.size hi-sIx items.size 0 lo) == items.size)=true then _ else _) _ _ s
 rw [if_neg hno,pick_gen]
 first
  | exact wpAny_bind (m:=Builtin.Tuple.tupleExact _) (wpAny_newObj_type (wpAny_pure ⟨_,rfl,wpAny_pure h⟩) htake)
  | exact wpAny_bind (m:=Builtin.Tuple.tupleExact _) (wpAny_newObj_type (wpAny_bind (wpAny_pure (wpAny_pure ⟨_,rfl,wpAny_pure h⟩))) htake)
  | exact wpAny_bind (wpAny_bind (m:=Builtin.Tuple.tupleExact _) (wpAny_newObj_type (wpAny_pure (wpAny_pure ⟨_,rfl,wpAny_pure h⟩)) htake))
  | exact wpAny_bind (wpAny_bind (m:=Builtin.Tuple.tupleExact _) (wpAny_newObj_type (wpAny_pure ⟨_,rfl,wpAny_pure h⟩) htake))
end
end HT
namespace L2
open PySem PySem.Spec PyProof.Rows
abbrev TO:=St→Hp→(Option Int→Hp→Prop)→Prop
def PO (X:Cx) (e:Option Expr) (t:TO):Prop:=
 ∀ (pins:List (Addr × Obj)) (s:Shared) (σ:St) (H:Hp) (Q:Option Int→Hp→Prop),Inv X pins σ H s→t σ H Q →
  wpAny (model X.prog X.w) X.A (evalPart e X.env) (fun u s'=>∃ o H',Inv X pins σ H' s'∧IsPart u o∧Q o H') X.xe s
noncomputable def tNoPart:TO:=fun _ H Q=>Q none H
noncomputable def tPart (t:TE):TO:=fun σ H Q=>t σ H fun x H1=>∃ i,x=.int i∧Q (some i) H1
section
variable {X:Cx}{e:Expr}{te:TE}{lo hi:Option Expr}{tl th:TO}{pos p2:Pos}
theorem po_none:PO X none tNoPart:=by
 intro pins s σ H Q I h
 rw [evalPart_none]
 exact wpAny_pure ⟨none,H,I,.none,h⟩
theorem po_some (h:PE X e te):PO X (some e) (tPart te):=by
 intro pins s σ H Q I hw
 rw [evalPart_some]
 refine thn (h pins s σ H _ I hw) fun u s1 ⟨x,H1,I1,r1,q1⟩=>?_
 obtain ⟨i,rfl,q⟩:=q1
 obtain ⟨t,rfl⟩:=r1
 exact ⟨some i,H1,I1,.int i t,q⟩
def SlR (X:Cx) (r:V→Option Int→Option Int→Hp→VK→Prop):Prop:=
 ∀ (pins:List (Addr × Obj)) (s:Shared) (σ:St) (H:Hp) (x:V) (v vl vu:Value) (lo hi:Option Int) (sl:Addr) (Q:VK),Inv X pins σ H s→RelV x v→s.heap.IsSliceOf sl vl vu .none→IsPart vl lo→IsPart vu hi→r x lo hi H Q →
  ∃ T id,typeLookup (.type T) "__getitem__" = pure (some (.builtin id))∧s.TypeIs v T∧wpAny (model X.prog X.w) X.A (getItem v (.ref sl)) (EP X pins σ Q) X.xe s
def tSl (r:V→Option Int→Option Int→Hp→VK→Prop) (te:TE) (tl th:TO):TE:=fun σ H Q=>te σ H fun x H1=>tl σ H1 fun l H2=>th σ H2 fun u H3=>r x l u H3 Q
theorem pe_slice {r:V→Option Int→Option Int→Hp→VK→Prop} (hr:SlR X r) (he:PE X e te) (hl:PO X lo tl) (hu:PO X hi th):PE X (.Subscript e (.Slice lo hi none p2) pos) (tSl r te tl th):=by
 intro pins s σ H Q I h
 refine Subscript_ (thn (he pins s σ H _ I h) fun v s1 ⟨x,H1,I1,r1,q1⟩=>?_)
 refine wpAny_Slice (thn (hl pins s1 σ H1 _ I1 q1) fun vl s2 ⟨l,H2,I2,pl,q2⟩=>thn (hu pins s2 σ H2 _ I2 q2) fun vu s3 ⟨u,H3,I3,pu,q3⟩=>?_)
 rw [evalPart_none]
 refine wpAny_pure ?_
 have I4:Inv X pins σ H3 { s3 with heap:=s3.heap.push { cls:=.type "slice",data:=.fields #[vl,vu,.none] } }:=I3.kept (t':=s3.toks) fun b ob q=>Heap.get?_push_of_some _ q
 obtain ⟨T,id,hT,ht,hg⟩:=hr pins { s3 with heap:=s3.heap.push { cls:=.type "slice",data:=.fields #[vl,vu,.none] } } σ H3 x v vl vu l u s3.heap.objs.size Q I4 r1 (Heap.IsSliceOf.new ..) pl pu q3
 show wpAny (model X.prog X.w) X.A (subscriptTail e (.Slice lo hi none p2) v (.ref s3.heap.objs.size)) (EP X pins σ Q) X.xe { s3 with heap:=s3.heap.push { cls:=.type "slice",data:=.fields #[vl,vu,.none] } }
 exact tail_any (ops:=[.ref s3.heap.objs.size,v]) ht hT hg (by with_unfolding_all rfl)
noncomputable def cutV (xs:List V) (lo hi:Option Int):List V:=(xs.drop (HT.sIx xs.length 0 lo)).take (HT.sIx xs.length xs.length hi-HT.sIx xs.length 0 lo)
theorem cutV_length (xs:List V) (lo hi:Option Int):(cutV xs lo hi).length≤xs.length:=by
 unfold cutV
 rw [List.length_take,List.length_drop]
 omega
noncomputable def rSlT (K:PySem.W.Frag):V→Option Int→Option Int→Hp→VK→Prop:=fun x lo hi H Q=>∃ a xs,x=.ref a∧SqT K H a xs ∧
 ¬ (HT.sIx xs.length 0 lo=0∧HT.sIx xs.length xs.length hi=xs.length)∧∀ p,H p=none→Q (.ref p) (upd H p (.tup (cutV xs lo hi)))
theorem sl_tup:SlR X (rSlT X.K):=by
 intro pins s σ H x v vl vu lo hi sl Q I rx hs pl pu h
 obtain ⟨a,xs,rfl,hx,hw,q⟩:=h
 cases rx
 obtain ⟨its,r,ht,hz⟩:=I.tuple hx
 have hlen:its.toArray.size=xs.length:=by rw [List.size_toArray]; exact r.length.symm
 refine ⟨"tuple",_,PyProof.Rows.slot_tuple_getitem.lookup,ht.typeIs,?_⟩
 refine HT.getItem_tuple_cut ht hs pl pu (by rw [hlen]; exact hw) ?_ (by rw [hlen]; exact hz)
 rw [hlen]
 refine ⟨.ref s.heap.objs.size,_,I.laid (t':=s.toks) (o:=.tup (cutV xs lo hi)) (fun b ob q=>Heap.get?_push_of_some _ q) (Nat.le_refl _) ?_,rfl,q _ (I.hok.fresh (Nat.le_refl _))⟩
 exact ⟨Nat.le_trans (cutV_length xs lo hi) hz,_,(r.drop (HT.sIx xs.length 0 lo)).take (HT.sIx xs.length xs.length hi-HT.sIx xs.length 0 lo),IsTup.new _ _⟩
noncomputable def rCatT (K:PySem.W.Frag):R2:=fun x y H Q=>∃ a b xs ys,x=.ref a∧y=.ref b∧SqT K H a xs∧SqT K H b ys∧xs≠[]∧xs.length+ys.length≤sizeLine ∧
 (ys=[]→Q (.ref a) H)∧(ys≠[]→∀ p,H p=none→Q (.ref p) (upd H p (.tup (xs++ys))))
theorem Vals.nil_iff {xs:List V} {us:List Value} (r:Vals xs us):us=[]↔xs=[]:=by
 cases r with
 | nil=>simp
 | cons _ _=>simp
theorem op_catT:OpR X (binaryOp .Add) (rCatT X.K):=by
 intro pins s σ H x y v u Q I rx ry h
 obtain ⟨a,b,xs,ys,rfl,rfl,ha,hb,hx,hz,q1,q2⟩:=h
 cases rx
 cases ry
 obtain ⟨its,r1,p1,_⟩:=I.tuple ha
 obtain ⟨its2,r2,p2,_⟩:=I.tuple hb
 refine HT.cat_tup p1 p2 (fun z=>hx (r1.nil_iff.mp z)) (fun z=>⟨.ref a,H,I,rfl,q1 (r2.nil_iff.mp z)⟩) (fun z=>?_) (by rw [← r1.length,← r2.length]; exact hz)
 refine ⟨.ref s.heap.objs.size,_,I.laid (t':=s.toks) (o:=.tup (xs++ys)) (fun b ob q=>Heap.get?_push_of_some _ q) (Nat.le_refl _) ?_,rfl,q2 (fun w=>z (r2.nil_iff.mpr w)) _ (I.hok.fresh (Nat.le_refl _))⟩
 exact ⟨by rw [List.length_append]; exact hz,_,r1.append r2,IsTup.new _ _⟩
end
end L2
namespace L2
open PySem PySem.Spec PyProof.Rows
noncomputable def ixN (n:Nat) (i:Int):Option Nat:=if 0≤i then (if i<n then some i.toNat else none) else if -(n:Int)≤i then some (i+n).toNat else none
noncomputable def atI {α:Type} (xs:List α) (i:Int):Option α:=(ixN xs.length i).bind fun j=>xs[j]?
theorem ixN_seq {n:Nat} {i:Int} {j:Nat} (h:ixN n i=some j):seqIndex? i n=some j∧j<n∧-(n:Int)≤i∧i<n:=by
 unfold ixN at h
 by_cases h0:0≤i
 ·rw [if_pos h0] at h
  by_cases h1:i<n
  ·rw [if_pos h1] at h
   have e:i.toNat=j:=Option.some.inj h
   exact ⟨by rw [seqIndex_of h0 h1,e],by omega,by omega,h1⟩
  ·rw [if_neg h1] at h; cases h
 ·rw [if_neg h0] at h
  by_cases h1:-(n:Int)≤i
  ·rw [if_pos h1] at h
   have e:(i+n).toNat=j:=Option.some.inj h
   exact ⟨by rw [seqIndex_neg (by omega) h1,e],by omega,h1,by omega⟩
  ·rw [if_neg h1] at h; cases h
theorem atI_get {α:Type} {xs:List α} {i:Int} {v:α} (h:atI xs i=some v):∃ j,seqIndex? i xs.length=some j∧xs[j]?=some v∧j<xs.length∧-(xs.length:Int)≤i∧i<xs.length:=by
 unfold atI at h
 cases e:ixN xs.length i with
 | none=>rw [e] at h; cases h
 | some j =>
  rw [e] at h
  obtain ⟨h1,h2,h3,h4⟩:=ixN_seq e
  exact ⟨j,h1,h,h2,h3,h4⟩
theorem atI_nat {α:Type} {xs:List α} {j:Nat} {v:α} (h:xs[j]?=some v):atI xs (j:Int)=some v:=by
 have hj:j<xs.length:=(List.getElem?_eq_some_iff.mp h).1
 have e:ixN xs.length (j:Int)=some j:=by
  unfold ixN
  rw [if_pos (by omega),if_pos (by omega)]; simp
 unfold atI; rw [e]; exact h
def PlainIx (b:Expr):Prop:=∀ o i,subscripted b false o i=operate [o,i] (getItem o i)
def IxR (X:Cx) (r:R2):Prop:=
 ∀ (value slice:Expr) (pins:List (Addr × Obj)) (s:Shared) (σ:St) (H:Hp) (x y:V) (v u:Value) (Q:VK),Inv X pins σ H s→RelV x v→RelV y u→r x y H Q →
  subscripted slice false v u=operate [v,u] (getItem v u)→wpAny (model X.prog X.w) X.A (subscriptTail value slice v u) (EP X pins σ Q) X.xe s
def MtR (X:Cx) (id:String) (r:V→List V→Hp→VK→Prop):Prop:=
 ∀ (pins:List (Addr × Obj)) (s:Shared) (σ:St) (H:Hp) (x:V) (xs:List V) (v:Value) (us:List Value) (Q:VK),Inv X pins σ H s→RelV x v→Vals xs us→r x xs H Q →
  wpAny (model X.prog X.w) X.A (call (.builtin id) (v::us)) (EP X pins σ Q) X.xe s
section
variable {X:Cx}{a b:Expr}{ta tb:TE}{pos:Pos}
theorem IxR.or {r r':R2} (h:IxR X r) (h':IxR X r'):IxR X (fun x y H Q=>r x y H Q∨r' x y H Q):=by
 intro value slice pins s σ H x y v u Q I rx ry q hs
 rcases q with q|q
 ·exact h value slice pins s σ H x y v u Q I rx ry q hs
 ·exact h' value slice pins s σ H x y v u Q I rx ry q hs
theorem pe_ix {r:R2} (hr:IxR X r) (ha:PE X a ta) (hb:PE X b tb) (hs:PlainIx b):PE X (.Subscript a b pos) (tOp r ta tb):=by
 intro pins s σ H Q I h
 exact Subscript_ (binT ha hb I h fun v u s2 x y H2 I2 rx ry q=>hr a b pins s2 σ H2 x y v u Q I2 rx ry q (hs _ _))
noncomputable def rIxL (K:PySem.W.Frag):R2:=fun x y H Q=>∃ p xs i v,x=.ref p∧y=.int i∧SqL K H p xs∧atI xs i=some v∧Q v H
noncomputable def rIxT (K:PySem.W.Frag):R2:=fun x y H Q=>∃ p xs i v,x=.ref p∧y=.int i∧SqT K H p xs∧atI xs i=some v∧Q v H
noncomputable def rIxS:R2:=fun x y H Q=>∃ z i c,x=.str z∧y=.int i∧z.length≤sizeLine∧atI z.cps.toList i=some c∧Q (.str ⟨#[c]⟩) H
theorem ix_list:IxR X (rIxL X.K):=by
 intro value slice pins s σ H x y v u Q I rx ry h hs
 obtain ⟨p,xs,i,z,rfl,rfl,hq,he,q⟩:=h
 cases rx
 obtain ⟨t,rfl⟩:=ry
 obtain ⟨its,r,pl,hz⟩:=I.list hq
 obtain ⟨j,h1,h2,h3,h4,h5⟩:=atI_get he
 obtain ⟨w,ew,rw'⟩:=r.get h2
 have hl:=r.length
 have hn:=line63
 have fin:EP X pins σ Q w s:=⟨z,H,I,rw',q⟩
 by_cases h0:0≤i
 ·have hj:i.toNat=j:=by
   rw [seqIndex_of h0 h5] at h1
   exact Option.some.inj h1
  exact item_listR pl.isList h0 (by omega) (by rw [hj]; simpa using ew) fin hs
 ·have hj:(i+(its.toArray.size:Int)).toNat=j:=by
   rw [seqIndex_neg (by omega) h4] at h1
   rw [List.size_toArray,← hl]
   exact Option.some.inj h1
  exact subscriptTail_builtinR (x:=w) pl.isList.typeIs slot_list_getitem.lookup
   (wpAny_getItem_list_neg (Q:=fun r s'=>r=w∧EP X pins σ Q r s') pl.isList (by omega) (by rw [List.size_toArray]<;>omega) (by omega) (by rw [hj]; simpa using ew) ⟨rfl,fin⟩) hs
theorem ix_tup:IxR X (rIxT X.K):=by
 intro value slice pins s σ H x y v u Q I rx ry h hs
 obtain ⟨p,xs,i,z,rfl,rfl,hq,he,q⟩:=h
 cases rx
 obtain ⟨t,rfl⟩:=ry
 obtain ⟨its,r,pl,hz⟩:=I.tuple hq
 obtain ⟨j,h1,h2,h3,h4,h5⟩:=atI_get he
 obtain ⟨w,ew,rw'⟩:=r.get h2
 have hl:=r.length
 have hn:=line63
 have fin:EP X pins σ Q w s:=⟨z,H,I,rw',q⟩
 exact subscriptTail_builtinR (x:=w) pl.typeIs slot_tuple_getitem.lookup
  (getItem_tuple (j:=j) (Q:=fun r s'=>r=w∧EP X pins σ Q r s') pl (by omega) (by omega) (by rw [List.size_toArray,← hl]; exact h1) (by simpa using ew) ⟨rfl,fin⟩) hs
theorem ix_str:IxR X rIxS:=by
 intro value slice pins s σ H x y v u Q I rx ry h hs
 obtain ⟨z,i,c,rfl,rfl,hz,he,q⟩:=h
 obtain ⟨t,rfl⟩:=rx
 obtain ⟨t',rfl⟩:=ry
 obtain ⟨j,h1,h2,h3,h4,h5⟩:=atI_get he
 have hl:z.cps.toList.length=z.length:=by simp [Str.length]
 rw [hl] at h1 h4 h5
 have hn:=line63
 exact tail_any (typeIs_str s z t) slot_str_getitem.lookup (getItem_str (c:=c) (by
  have e1:decide (i < -(2 ^ 63:Int))=false:=decide_eq_false (by omega)
  have e2:decide (i ≥ 2 ^ 63)=false:=decide_eq_false (by omega)
  rw [e1,e2,Bool.or_false]) (by rw [h1]; simpa using h2) ⟨.str ⟨#[c]⟩,H,I.tok _,⟨_,rfl⟩,q⟩) hs
noncomputable def rIx (K:PySem.W.Frag):R2:=fun x y H Q=>rIxL K x y H Q∨rIxT K x y H Q∨rIxS x y H Q
theorem ix_seq:IxR X (rIx X.K):=ix_list.or (ix_tup.or ix_str)
theorem mapSeq_set (its:List Value) (n j:Nat) (u:Value):Obj.mapSeq (·.setIfInBounds j u) { cls:=.type "list",data:=.seq its.toArray n } = { cls:=.type "list",data:=.seq (its.set j u).toArray n }:=by
 simp [Obj.mapSeq]
theorem Inv.lst {pins:List (Addr × Obj)} {σ:St} {H:Hp} {s:Shared} {p:Addr} {xs:List V} (I:Inv X pins σ H s) (h:H p=some (.lst xs)) :
  ∃ (its:List Value) (n:Nat),Vals xs its∧s.heap.get? p=some { cls:=.type "list",data:=.seq its.toArray n }∧xs.length≤sizeLine:=by
 obtain ⟨z,its,n,r,e⟩:=I.hok p _ h
 exact ⟨its,n,r,e,z⟩
theorem Inv.lstUpd {pins:List (Addr × Obj)} {σ:St} {H:Hp} {s:Shared} {p:Addr} {xs ys:List V} {its its':List Value} {n n':Nat} {f:Obj→Obj} (I:Inv X pins σ H s) (h:H p=some (.lst xs))
  (ho:s.heap.get? p=some { cls:=.type "list",data:=.seq its.toArray n }) (hf:f { cls:=.type "list",data:=.seq its.toArray n } = { cls:=.type "list",data:=.seq its'.toArray n' }) (r:Vals ys its') (hz:ys.length≤sizeLine) (t:Nat) :
  Inv X pins σ (upd H p (.lst ys)) { s with heap:=s.heap.update p f,toks:=t }:=by
 have e:(s.heap.update p f).get? p=some { cls:=.type "list",data:=.seq its'.toArray n' }:=by
  rw [Heap.get?_update_self f ho (by rw [hf]<;>rfl),hf]
 refine I.write (x:=p) (e:=p) (by rw [h]; trivial) (.inl rfl) (fun b u hb q=>(Heap.get?_update_other _ _ (Ne.symm hb)).trans q) ⟨_,e⟩ ?_
 exact ⟨hz,its',n',r,e⟩
noncomputable def rSetL:V→V→V→Hp→(Hp→Prop)→Prop:=fun o i v H Q=>∃ p xs k j,o=.ref p∧i=.int k∧H p=some (.lst xs)∧ixN xs.length k=some j∧Q (upd H p (.lst (xs.set j v)))
theorem set_list:PSet X rSetL:=by
 intro pins s σ H o i v ov iv u Q I ro ri rv h
 obtain ⟨p,xs,k,j,rfl,rfl,hp,hj,q⟩:=h
 cases ro
 obtain ⟨t,rfl⟩:=ri
 obtain ⟨its,n,r,ho,hz⟩:=I.lst hp
 obtain ⟨h1,h2,h3,h4⟩:=ixN_seq hj
 have hl:=r.length
 have hn:=line63
 have I':Inv X pins σ (upd H p (.lst (xs.set j v))) { s with heap:=s.heap.update p (Obj.mapSeq (·.setIfInBounds j u)) }:=
  I.lstUpd hp ho (mapSeq_set its n j u) (r.set rv j) (by rw [List.length_set]; exact hz) s.toks
 by_cases h0:0≤k
 ·have hk:k.toNat=j:=by
   rw [seqIndex_of h0 h4] at h1
   exact Option.some.inj h1
  exact PySem.W.ki_setAt ho h0 (by omega) (by rw [List.size_toArray,← hl]; exact h4) (by rw [hk]; exact ⟨_,I',q⟩)
 ·have hk:(k+(its.toArray.size:Int)).toNat=j:=by
   rw [seqIndex_neg (by omega) h3] at h1
   rw [List.size_toArray,← hl]
   exact Option.some.inj h1
  exact PySem.W.ki_setBack ho (by omega) (by rw [List.size_toArray,← hl]; exact h3) (by omega) (by rw [hk]; exact ⟨_,I',q⟩)
theorem slice_bounds (lo hi:Option Int) (n:Nat):(sliceBounds lo hi none n).1=((HT.sIx n 0 lo:Nat):Int)∧(sliceBounds lo hi none n).2.1=((HT.sIx n n hi:Nat):Int)∧(sliceBounds lo hi none n).2.2=1:=by
 refine ⟨?_,?_,rfl⟩
 ·cases lo with
  | none=>simp [sliceBounds,HT.sIx]
  | some i =>
   simp only [sliceBounds,HT.sIx,Option.getD_none,show (1:Int) > 0 by decide,if_true]
   by_cases h:i<0
   ·simp only [h,if_true]<;>omega
   ·simp only [h,if_false]<;>omega
 ·cases hi with
  | none=>simp [sliceBounds,HT.sIx]
  | some i =>
   simp only [sliceBounds,HT.sIx,Option.getD_none,show (1:Int) > 0 by decide,if_true]
   by_cases h:i<0
   ·simp only [h,if_true]<;>omega
   ·simp only [h,if_false]<;>omega
theorem slicePick_cut (its:List Value) (lo hi:Option Int):slicePick its.toArray lo hi none=((its.drop (HT.sIx its.length 0 lo)).take (HT.sIx its.length its.length hi-HT.sIx its.length 0 lo)).toArray:=by
 obtain ⟨h1,h2,h3⟩:=slice_bounds lo hi its.toArray.size
 unfold slicePick
 rw [h1,h2,h3]
 simp only [sliceRange_one,pick_run,List.size_toArray]<;>rfl
noncomputable def rSlL (K:PySem.W.Frag):V→Option Int→Option Int→Hp→VK→Prop:=fun x lo hi H Q=>∃ a xs,x=.ref a∧SqL K H a xs∧∀ p,H p=none→Q (.ref p) (upd H p (.lst (cutV xs lo hi)))
theorem sl_list:SlR X (rSlL X.K):=by
 intro pins s σ H x v vl vu lo hi sl Q I rx hs pl pu h
 obtain ⟨a,xs,rfl,hx,q⟩:=h
 cases rx
 obtain ⟨its,r,ht,hz⟩:=I.list hx
 have hlen:=r.length
 refine ⟨"list",_,slot_list_getitem.lookup,ht.isList.typeIs,?_⟩
 refine wpAny_getItem_list_slice ht.isList hs pl pu .none (by simp) ?_ (by rw [List.size_toArray]<;>omega)
 rw [slicePick_cut,← hlen]
 refine ⟨.ref s.heap.objs.size,_,I.laid (t':=s.toks) (o:=.lst (cutV xs lo hi)) (fun b ob q=>Heap.get?_push_of_some _ q) (Nat.le_refl _) ?_,rfl,q _ (I.hok.fresh (Nat.le_refl _))⟩
 exact ⟨Nat.le_trans (cutV_length xs lo hi) hz,_,0,(r.drop (HT.sIx xs.length 0 lo)).take (HT.sIx xs.length xs.length hi-HT.sIx xs.length 0 lo),Heap.get?_push_size _ rfl⟩
theorem call_len_seq:CallR X (.builtin "len") (fun xs H Q=>∃ p ys,xs=[.ref p]∧(SqL X.K H p ys∨SqT X.K H p ys)∧Q (.int ys.length) H):=by
 intro pins s σ H xs us Q I r h
 obtain ⟨p,ys,rfl,hq,q⟩:=h
 obtain ⟨u,rfl,rx⟩:=vals1 r
 cases rx
 have hn:=line63
 rcases hq with hq|hq
 ·obtain ⟨its,r',pl,hz⟩:=I.list hq
  have hlen:=r'.length
  exact Calls.call_len_list pl.isList (by simp only [List.size_toArray]<;>omega) ⟨.int ys.length,H,I.tok _,⟨s.toks+1,by rw [List.size_toArray,hlen]⟩,q⟩
 ·obtain ⟨its,r',pl,hz⟩:=I.tuple hq
  have hlen:=r'.length
  exact len_tuple pl (by simp only [List.size_toArray]<;>omega) ⟨.int ys.length,H,I.tok _,⟨s.toks+1,by rw [List.size_toArray,hlen]⟩,q⟩
theorem call_len_str:CallR X (.builtin "len") (fun xs H Q=>∃ z,xs=[.str z]∧z.length≤sizeLine∧Q (.int z.length) H):=by
 intro pins s σ H xs us Q I r h
 obtain ⟨z,rfl,hz,q⟩:=h
 obtain ⟨u,rfl,t,rfl⟩:=vals1 r
 have hn:=line63
 exact len_str (by omega) ⟨.int z.length,H,I.tok _,⟨_,rfl⟩,q⟩
theorem call_list_of:CallR X (.type "list") (fun xs H Q=>∃ p ys,xs=[.ref p]∧(SqL X.K H p ys∨SqT X.K H p ys)∧∀ l,H l=none→Q (.ref l) (upd H l (.lst ys))):=by
 intro pins s σ H xs us Q I r h
 obtain ⟨p,ys,rfl,hq,q⟩:=h
 obtain ⟨u,rfl,rx⟩:=vals1 r
 cases rx
 have fin:∀ (its:List Value),Vals ys its→ys.length≤sizeLine→∀ (h':Heap) (c':Nat),(∀ b o',s.heap.get? b=some o'→h'.get? b=some o') →
   h'.get? s.heap.objs.size=some { cls:=.type "list",dict:=none,data:=.seq its.toArray c',slots:=#[] }→EP X pins σ Q (.ref s.heap.objs.size) { s with heap:=h' }:=fun its r' hz h' c' kp e =>
  ⟨.ref s.heap.objs.size,_,I.laid (t':=s.toks) kp (Nat.le_refl _) (show ObjOk X.prog X.w _ h' _ (.lst ys) from ⟨hz,its,c',r',e⟩),rfl,q _ (I.hok.fresh (Nat.le_refl _))⟩
 rcases hq with hq|hq
 ·obtain ⟨its,r',pl,hz⟩:=I.list hq
  have hlen:=r'.length
  obtain ⟨o,ho,hc,n,hd⟩:=pl.isList
  exact call_list_seq p (.inl rfl) ho hc hd (fun h' c' kp e=>fin its r' hz h' c' kp e) (by simp only [List.size_toArray]<;>omega)
 ·obtain ⟨its,r',pl,hz⟩:=I.tuple hq
  have hlen:=r'.length
  obtain ⟨o,ho,hc,n,hd⟩:=pl
  exact call_list_seq p (.inr rfl) ho hc hd (fun h' c' kp e=>fin its r' hz h' c' kp e) (by simp only [List.size_toArray]<;>omega)
theorem call_tuple_of:CallR X (.type "tuple") (fun xs H Q=>∃ p ys,xs=[.ref p]∧((SqL X.K H p ys∧∀ l,H l=none→Q (.ref l) (upd H l (.tup ys)))∨(SqT X.K H p ys∧Q (.ref p) H))):=by
 intro pins s σ H xs us Q I r h
 obtain ⟨p,ys,rfl,h⟩:=h
 obtain ⟨u,rfl,rx⟩:=vals1 r
 cases rx
 rcases h with ⟨hq,q⟩|⟨hq,q⟩
 ·obtain ⟨its,r',pl,hz⟩:=I.list hq
  have hlen:=r'.length
  refine call_tuple_list pl.isList (fun h' kp=>?_) (by simp only [List.size_toArray]<;>omega)
  have I1:Inv X pins σ H { s with heap:=h' }:=I.kept (t':=s.toks) kp
  have I2:Inv X pins σ (upd H h'.objs.size (.tup ys)) { s with heap:=h'.push { cls:=.type "tuple",data:=.seq its.toArray } }:=
   I1.laid (t':=s.toks) (fun b o e=>Heap.get?_push_of_some _ e) (Nat.le_refl _) (show ObjOk X.prog X.w _ _ _ (.tup ys) from ⟨hz,its,r',IsTup.new _ _⟩)
  exact ⟨.ref h'.objs.size,_,I2,rfl,q _ (I1.hok.fresh (Nat.le_refl _))⟩
 ·obtain ⟨its,r',pl,hz⟩:=I.tuple hq
  exact call_tuple_same pl ⟨.ref p,H,I,rfl,q⟩
def tyV (K:PySem.W.Frag) (T:String) (x:V) (H:Hp):Prop:=match x with
 | .str _=>T = "str"
 | .int _=>T = "int"
 | .ref p=>(T = "list"∧∃ xs,SqL K H p xs)∨(T = "tuple"∧∃ o,K.lookup p=some o∧o.cls=.type "tuple"∧o.dict=none) ∨
   (T = "dict"∧((∃ kvs,H p=some (.dK kvs))∨∃ kvs,H p=some (.dT kvs)))∨(T = "set"∧∃ S n,H p=some (.set S n))
 | _=>False
theorem tyV_is {pins:List (Addr × Obj)} {σ:St} {H:Hp} {s:Shared} {T:String} {x:V} {v:Value} (I:Inv X pins σ H s) (r:RelV x v) (ty:tyV X.K T x H) :
  s.TypeIs v T∧∀ a,v=.ref a→∃ ob,s.heap.get? a=some ob∧ob.dict=none:=by
 cases x with
 | str z =>
  obtain ⟨t,rfl⟩:=r
  cases (show T = "str" from ty)
  exact ⟨typeIs_str s z t,fun _ e=>nomatch e⟩
 | int i =>
  obtain ⟨t,rfl⟩:=r
  cases (show T = "int" from ty)
  exact ⟨typeIs_int s i t,fun _ e=>nomatch e⟩
 | ref p =>
  cases r
  rcases ty with ⟨rfl,xs,hq⟩|⟨rfl,o,hk,hc,hd⟩|⟨rfl,hk⟩|⟨rfl,S,n,hk⟩
  ·obtain ⟨its,_,pl,_⟩:=I.list hq
   refine ⟨pl.isList.typeIs,fun a e=>?_⟩
   cases e
   obtain ⟨o,n,e,c,hd,_⟩:=pl
   exact ⟨o,e,hd⟩
  ·refine ⟨⟨o,I.kIn p o hk,hc⟩,fun a e=>?_⟩
   cases e
   exact ⟨o,I.kIn _ o hk,hd⟩
  ·have z:∃ o,s.heap.get? p=some o∧o.ExactDict:=by
    rcases hk with ⟨kvs,hk⟩|⟨kvs,hk⟩
    ·obtain ⟨_,_,_,_,o,_,_,e,ex,_⟩:=I.hok p _ hk
     exact ⟨o,e,ex⟩
    ·obtain ⟨_,_,_,_,o,_,_,e,ex,_⟩:=I.hok p _ hk
     exact ⟨o,e,ex⟩
   obtain ⟨o,e,ex⟩:=z
   refine ⟨⟨o,e,ex.1⟩,fun a e2=>?_⟩
   cases e2
   exact ⟨o,e,ex.2.1⟩
  ·obtain ⟨o,_,_,_,e,ex,_⟩:=I.hok p _ hk
   refine ⟨⟨o,e,ex.1⟩,fun a e2=>?_⟩
   cases e2
   exact ⟨o,e,ex.2.1⟩
 | _=>exact False.elim ty
def tBM0 (K:PySem.W.Frag) (T:String) (r:V→List V→Hp→VK→Prop) (to:TE):TE:=fun σ H Q=>to σ H fun x H1=>tyV K T x H1∧r x [] H1 Q
def tBM (K:PySem.W.Frag) (T:String) (r:V→List V→Hp→VK→Prop) (to:TE) (t:TA):TE:=fun σ H Q=>to σ H fun x H1=>tyV K T x H1∧t σ H1 fun xs H2=>r x xs H2 Q
variable {o e:Expr}{es:List Expr}{to:TE}{t:TA}{name:Str}{apos cpos:Pos}{T id:String}{r:V→List V→Hp→VK→Prop}
theorem pe_bm0 (pa:PlainAttrs T) (slot:Slot T name id) (hty:typeOf (.builtin id)=pure (.type "method_descriptor")) (hm:MtR X id r) (ho:PE X o to)
  (hbase:attributeBase o name X.env (eval o X.env)=eval o X.env:=by rfl) (hline:(apos.endLine == cpos.line)=true:=by rfl):PE X (.Call (.Attribute o name apos) [] [] cpos) (tBM0 X.K T r to):=by
 intro pins s σ H Q I h
 refine wpAny_Call_method0_late hbase hline (thn (ho pins s σ H _ I h) fun v s1 ⟨x,H1,I1,r1,ty,q1⟩=>?_)
 obtain ⟨h1,h2⟩:=tyV_is I1 r1 ty
 exact ⟨T,id,pa,slot,hty,h1,h2,Calls.callWith_builtin rfl (PySem.evalArgs_none (hm pins s1 σ H1 x [] v [] Q I1 r1 .nil q1))⟩
theorem pe_bm (pa:PlainAttrs T) (slot:Slot T name id) (hty:typeOf (.builtin id)=pure (.type "method_descriptor")) (hm:MtR X id r) (ho:PE X o to) (ha:PA X (e::es) t)
  (hbase:attributeBase o name X.env (eval o X.env)=eval o X.env:=by rfl)
  (hfew:((backTo cpos (starEach (e::es) X.env)).all (fun x=>!x.1)&&(backToKw cpos (keywordEach [] X.env)).all (fun x=>x.1.isSome)
   && decide ((e::es).length+([]:List Keyword).length+(if ([]:List Keyword).isEmpty then 0 else 1)<30))=true:=by rfl)
  (hline:(apos.endLine == cpos.line)=true:=by rfl) (hs:starEach (e::es) X.env=(false,eval e X.env)::starEach es X.env:=by rfl) (hplain:(backTo cpos (starEach es X.env)).any (·.1)=false:=by rfl) :
  PE X (.Call (.Attribute o name apos) (e::es) [] cpos) (tBM X.K T r to t):=by
 intro pins s σ H Q I h
 refine wpAny_Call_method_late hbase hfew hline rfl (thn (ho pins s σ H _ I h) fun v s1 ⟨x,H1,I1,r1,ty,q1⟩=>?_)
 obtain ⟨h1,h2⟩:=tyV_is I1 r1 ty
 refine ⟨T,id,pa,slot,hty,h1,h2,?_⟩
 have hA:=ha cpos pins s1 σ H1 _ I1 q1
 rw [hs] at hA ⊢
 refine Calls.callWith_builtin (by show (false || (backTo cpos (starEach es X.env)).any (·.1))=false; rw [hplain]<;>rfl) (Calls.evalArgs_plain ?_)
 exact thn hA fun us s2 ⟨vs,H2,I2,r2,q2⟩=>hm pins s2 σ H2 x vs v us Q I2 r1 r2 q2
end
end L2
namespace L2
open PySem PySem.Spec PyProof.Rows
def MtM (X:Cx) (id:String) (r:V→List V→Hp→VK→Prop):Prop:=
 ∀ (pins:List (Addr × Obj)) (s:Shared) (σ:St) (H:Hp) (x:V) (xs:List V) (v:Value) (us:List Value) (Q:VK),Inv X pins σ H s→RelV x v→Vals xs us→r x xs H Q →
  wpAny (model X.prog X.w) X.A (call (.builtin id) (v::us)) (EP X pins σ Q) X.xe s
theorem Vals.one:∀ {x:V} {us:List Value},Vals [x] us→∃ u,us=[u]∧RelV x u
 | _,_,.cons r .nil=>⟨_,rfl,r⟩
theorem Vals.reverse {xs:List V} {us:List Value} (h:Vals xs us):Vals xs.reverse us.reverse:=by
 induction h with
 | nil=>exact .nil
 | cons r t ih=>rw [List.reverse_cons,List.reverse_cons]; exact Vals.append ih (.cons r .nil)
section
variable {X:Cx}{pins:List (Addr × Obj)}{σ:St}{H:Hp}{s:Shared}{l b:Addr}{xs ys zs:List V}
theorem Inv.lset {its its':List Value} {n:Nat} {f:Array Value→Array Value} {t':Nat} (I:Inv X pins σ H s) (hH:H l=some (.lst xs))
  (e:s.heap.get? l=some { cls:=.type "list",data:=.seq its.toArray n }) (hf:f its.toArray=its'.toArray) (hv:Vals ys its') (hz:ys.length≤sizeLine) :
  Inv X pins σ (upd H l (.lst ys)) { s with heap:=s.heap.update l (Obj.mapSeq f),toks:=t' }:=by
 have q:=PySem.IsL.update e f
 rw [hf] at q
 refine I.write (x:=l) (e:=l) (by rw [hH]; exact trivial) (.inl rfl) (fun b' u hb hu=>(Heap.get?_update_other s.heap (Obj.mapSeq f) (Ne.symm hb)).trans hu) ⟨_,q⟩ ?_
 exact ⟨hz,its',_,hv,q⟩
theorem Inv.lnew {its:List Value} {t':Nat} (I:Inv X pins σ H s) (hv:Vals ys its) (hz:ys.length≤sizeLine) :
  Inv X pins σ (upd H s.heap.objs.size (.lst ys)) { s with heap:=s.heap.push { cls:=.type "list",data:=.seq its.toArray },toks:=t' }:=
 I.laid (fun _ _ q=>Heap.get?_push_of_some _ q) (Nat.le_refl _) ⟨hz,its,0,hv,Heap.get?_push_size _ rfl⟩
theorem Inv.fresh (I:Inv X pins σ H s):H s.heap.objs.size=none:=I.hok.fresh (Nat.le_refl _)
theorem Inv.lstM (I:Inv X pins σ H s) (hH:H l=some (.lst xs)):xs.length≤sizeLine∧∃ (its:List Value) (n:Nat),Vals xs its∧xs.length=its.length∧s.heap.get? l=some { cls:=.type "list",data:=.seq its.toArray n }:=by
 obtain ⟨z,its,n,r,e⟩:=I.hok l _ hH
 exact ⟨z,its,n,r,r.length,e⟩
theorem notLongL {n:Nat} (h:n≤sizeLine):Builtin.List.listTooLong n=false:=by
 unfold Builtin.List.listTooLong
 exact decide_eq_false (by omega)
end
section
variable {X:Cx}
noncomputable def rAppend:V→List V→Hp→VK→Prop:=fun x vs H Q=>∃ l xs y,x=.ref l∧vs=[y]∧H l=some (.lst xs)∧xs.length<sizeLine∧Q .non (upd H l (.lst (xs++[y])))
theorem mt_append:MtM X "list.append" rAppend:=by
 intro pins s σ H x vs v us Q I rx rv h
 obtain ⟨l,xs,y,rfl,rfl,hH,hz,q⟩:=h
 cases rx
 obtain ⟨u,rfl,ru⟩:=rv.one
 obtain ⟨z,its,n,r,hl,e⟩:=I.lstM hH
 refine call_meets F.slot_list_append ⟨_,e,rfl⟩ F.entry_list_append (F.args_list_append_2 _ _) (PySem.list_append l its.toArray n u (by rw [List.size_toArray]; omega)) ⟨e,?_⟩
 refine ⟨.non,_,I.lset (its':=its++[u]) hH e (by simp) (r.append (.cons ru .nil)) ?_,rfl,q⟩
 rw [List.length_append,List.length_singleton]
 omega
noncomputable def rExtend:V→List V→Hp→VK→Prop:=fun x vs H Q=>∃ l b xs zs,x=.ref l∧vs=[.ref b]∧H l=some (.lst xs)∧H b=some (.lst zs)∧xs.length+zs.length≤sizeLine∧Q .non (upd H l (.lst (xs++zs)))
theorem mt_extend:MtM X "list.extend" rExtend:=by
 intro pins s σ H x vs v us Q I rx rv h
 obtain ⟨l,b,xs,zs,rfl,rfl,hH,hB,hz,q⟩:=h
 cases rx
 obtain ⟨u,rfl,ru⟩:=rv.one
 cases ru
 obtain ⟨z,its,n,r,hl,e⟩:=I.lstM hH
 obtain ⟨z2,its2,n2,r2,hl2,e2⟩:=I.lstM hB
 have hsz:its.toArray.size+its2.toArray.size≤sizeLine:=by rw [List.size_toArray,List.size_toArray]; omega
 have hlong:¬ (!its.toArray.isEmpty&&Builtin.List.listTooLong (its.toArray.size+its2.toArray.size))=true:=by
  rw [notLongL hsz,Bool.and_false]
  exact Bool.false_ne_true
 refine call_meets F.slot_list_extend ⟨_,e,rfl⟩ F.entry_list_extend (F.args_list_extend_2 _ _)
  (AutoSeq1.list_extend_list_list_0 l its.toArray n b its2.toArray n2 hlong (by rw [List.size_toArray]; omega) (by omega)) ⟨e,e2,?_⟩
 refine ⟨.non,_,I.lset (its':=its++its2) hH e (by simp) (r.append r2) ?_,rfl,q⟩
 rw [List.length_append]
 omega
noncomputable def rCat:R2:=fun x y H Q=>∃ l b xs zs,x=.ref l∧y=.ref b∧H l=some (.lst xs)∧H b=some (.lst zs)∧xs.length+zs.length≤sizeLine∧∀ p,H p=none→Q (.ref p) (upd H p (.lst (xs++zs)))
theorem op_cat:OpR X (binaryOp .Add) rCat:=by
 intro pins s σ H x y v u Q I rx ry h
 obtain ⟨l,b,xs,zs,rfl,rfl,hH,hB,hz,q⟩:=h
 cases rx
 cases ry
 obtain ⟨z,its,n,r,hl,e⟩:=I.lstM hH
 obtain ⟨z2,its2,n2,r2,hl2,e2⟩:=I.lstM hB
 refine PySem.P.add_list e e2 ?_ (by rw [List.size_toArray,List.size_toArray]; omega)
 have ea:its.toArray++its2.toArray=(its++its2).toArray:=by simp
 rw [ea]
 exact ⟨.ref _,_,I.lnew (t':=s.toks) (r.append r2) (by rw [List.length_append]; omega),rfl,q _ I.fresh⟩
end
section
variable {prog:Program}{w:World}{A:Around}{E:Value→Shared→Prop}{s:Shared}
end
section
variable {X:Cx}
end
end L2
namespace Att
open PySem PySem.W PySem.Calls PyProof.Rows
theorem ints_of_wellAll {P:Params} {h:Heap}:∀ (ns:List Int) (vs:List Value),WellAll P h vs (ns.map WData.int)→IntsAre vs ns:=by
 intro ns
 induction ns with
 | nil =>
  intro vs w
  rw [List.map_nil] at w
  cases w
  exact .nil
 | cons n ns ih =>
  intro vs w
  rw [List.map_cons] at w
  cases w with
  | cons a b =>
   cases a
   exact .cons _ _ (ih _ b)
theorem script_of {l:OpenLaw} {n:Nat} (hn:l.most=some n) {P:Params} {h:Heap} {args:List WData} {vals:List Value}
  (hpre:l.row.toRowW.claim.pre args=true) (hwl:WellAll P h vals args) :
  ∃ a vs ns,vals=[Value.ref a]∧args=[WData.list (ns.map WData.int)]∧h.get? a=some { cls:=.type "list",data:=.seq vs.toArray }∧IntsAre vs ns∧ns.length≤n:=by
 have hsh:WShape.hasAll [] args [.list .int]=true:=(pre_splitW hpre).1
 have hc:l.pre.holds [] { args:=args }=true:=(pre_splitW hpre).2
 obtain ⟨d,r,rfl,h1,h2⟩:=hasAllW_cons hsh
 obtain rfl:=hasAllW_nil h2
 obtain ⟨xs,rfl,h3⟩:=hasW_list h1
 obtain ⟨ns,rfl⟩:=items_int h3
 have hlen:ns.length≤n:=by
  unfold OpenLaw.pre at hc
  have h4:(WTm.not (.lt (.lit (.int (n:Int))) (.len (.arg 0)))).holds [] { args:=[.list (ns.map .int)] }=true:=by
   have h4:=(holds_andW hc).1
   rw [hn] at h4
   exact h4
  have h5:=condW_of h4 (w_not (w_lt w_lit (w_len_list (w_arg rfl))))
  rw [List.length_map] at h5
  refine Nat.le_of_not_lt fun q=>?_
  have q':(n:Int)<((ns.length:Nat):Int):=by omega
  first
   | (rw [decide_eq_true q'] at h5; exact absurd h5 (by decide))
   | (simp at h5; omega)
 cases hwl with
 | cons w1 w2 =>
  cases w2
  cases w1 with
  | list ho hall=>exact ⟨_,_,ns,rfl,rfl,ho,ints_of_wellAll ns _ hall,hlen⟩
theorem post_true (l:OpenLaw) (args:List WData):l.row.toRowW.claim.post args (.bool true) args=true:=
 postW_of (r:=l.row.toRowW) (X:=(true == true))
  (show WShape.has [] (.bool true) .bool=true by first|rfl|decide|simp [WShape.has,WShape.arms,WShape.armsAll])
  (show (WTm.eq .res (.lit (.bool true))).value [] { args:=args,res:=some (.bool true),after:=args }=some (.bool (true == true)) from w_eq_bool (w_res rfl) w_lit) rfl
theorem attach_call {l:OpenLaw} {n:Nat} {q:Program} {loose:List Str} {XP:(Str→Option Value)→Heap→Prop} {YP:World→Heap→Prop} {d:DefRec}
  (hn:l.most=some n) (hdf:d.params.defaults=[])
  (call:∀ (w:World) (s₀ s₁:Shared) (mg mb:Str→Option Value) (fa:Addr) (o:Obj) (pm cd doc:Value) (a:Addr) (vs:List Value) (ns:List Int),
   Ground q loose [] XP w s₀ mg mb s₁.heap→YP w s₁.heap →
   s₁.heap.get? fa=some o→o.data=.func (docDef d.name d.params d.body d.scope pm cd doc)→s₁.heap.CodeRec cd d.name→mg d.name=some (.ref fa) →
   s₁.heap.get? a=some { cls:=.type "list",data:=.seq vs.toArray }→IntsAre vs ns→ns.length≤n→s₁.gens=#[] →
   codeAny (model l.prog w) callerA (.call (.ref fa) ⟨[.ref a],[]⟩) (fun r s'=>r=.ok (.ret (.bool true))∧OldK s₁.heap s'.heap∧s'.os=s₁.os∧AllBare s'.gens) s₁) :
  WalkO q loose XP YP l.row.toRowW d [] (fun f vs=>PySem.call f vs):=by
 intro w s₀ s₁ mg mb G Y fa o pm cd doc dV kV ho hd hcd hD hmg hg args vals as hpre hlay hrd hwl hlo
 obtain rfl:dV=.none:=Dflts.none hD hdf
 obtain rfl:kV=.none:=Dflts.noKw hD
 obtain ⟨a,vs,ns,rfl,rfl,hobj,hints,hlen⟩:=script_of hn hpre hwl
 refine enter_call (codeAny_mono (call w s₀ s₁ mg mb fa o pm cd doc a vs ns G Y ho (fd_plain hd) hcd hmg hobj hints hlen hg) fun r s' hq=>?_)
 obtain ⟨rfl,h2,h3,h4⟩:=hq
 exact ⟨.inl ⟨.bool true,.bool true,[],rfl,fun _=>rfl,.bool true,post_true l _,fun _=>⟨List.Pairwise.nil,fun _ hm=>(nomatch hm)⟩⟩,h2,h3,h4⟩
section
variable {prog:Program}{w:World}{A:Around}{E:Value→Shared→Prop}{s:Shared}{K:Frag}
end
end Att
namespace L2
open PySem PySem.Spec PyProof.Rows
theorem vals_ints:∀ {vs:List Value} {ns:List Int},IntsAre vs ns→Vals (ns.map V.int) vs
 | _,_,.nil=>.nil
 | _,_,.cons n t h=>.cons ⟨t,rfl⟩ (vals_ints h)
def Only (H:Hp):Prop:=∀ b,H b=none∨∃ o xs,H b=some (.frz o (.lst xs))
theorem law_call {P:Program} {w:World} {K:PySem.W.Frag} {mg mb:Str→Option Value} {CX:CXT} {k:Nat} {fa a:Addr} {fd:FuncData} {x:Str} {sp:Sp} {s₁:Shared} {vs:List Value} {ns:List Int}
  (KX:K.In s₁.heap) (hns:s₁.heap.Ns mainGlobals mg) (hb:s₁.heap.Ns builtinsNs mb) (hbb:∀ x:Str,x≠"__name__"→mb x=bootBuiltins x) (hlim:s₁.heap.NoLimit) (hg:s₁.gens=#[])
  (ha:s₁.heap.get? a=some { cls:=.type "list",data:=.seq vs.toArray }) (hi:IntsAre vs ns) (hl:ns.length≤sizeLine) (hr:Room k callerA)
  (F:∀ base:Heap,K.In base→base.Ns mainGlobals mg→FnOk P w K mg base CX k fa fd [x] sp) (hbind:∀ (s:Shared) (u:Value),BindsTo s fd ⟨[u],[]⟩ [(x,u)])
  (hsp:∀ H:Hp,Only H→SqL K H a (ns.map V.int)→sp [.ref a] H (fun v _=>v=.bl true) fun _ _ _=>False)
  (hCX:∀ H e s',CX [] H s₁ (fun _ _ _=>False) e s'→False) :
  codeAny (model P w) callerA (.call (.ref fa) ⟨[.ref a],[]⟩) (fun r s'=>r=.ok (.ret (.bool true))∧OldK s₁.heap s'.heap∧s'.os=s₁.os∧AllBare s'.gens) s₁:=by
 have rv:=vals_ints hi
 have lenV:=hi.length
 have core:∀ H:Hp,Only H→SqL K H a (ns.map V.int)→HOk P w H s₁.heap→(∀ b,H b≠none→b=a)→(H a≠none→K.lookup a=none) →
   codeAny (model P w) callerA (.call (.ref fa) ⟨[.ref a],[]⟩) (fun r s'=>r=.ok (.ret (.bool true))∧OldK s₁.heap s'.heap∧s'.os=s₁.os∧AllBare s'.gens) s₁:=by
  intro H hO hS hok hA hK
  have base_of:∀ {b:Addr} {o:Obj},s₁.heap.get? b=some o→H b=none→(hidT s₁.heap H).get? b=some o:=fun e n=>hidT_get e n
  have noA:∀ {b:Addr} {o:Obj} {es:Array DictEntry} {ep:Nat},s₁.heap.get? b=some o→o.data=.dict es ep→H b=none:=fun {b o es ep} e d=>by
   cases q:H b with
   | none=>rfl
   | some u =>
    have e':b=a:=hA b (by rw [q]; simp)
    subst e'
    rw [ha] at e; cases e
    have d':Data.seq vs.toArray _=Data.dict es ep:=d
    cases d'
  have nsK:∀ {b:Addr} {m:Str→Option Value},s₁.heap.Ns b m→(hidT s₁.heap H).Ns b m:=fun {b m} ⟨o,es,ep,e,d,r⟩=>⟨o,es,ep,base_of e (noA e d),d,r⟩
  have hKb:K.In (hidT s₁.heap H):=fun b o e=>base_of (KX b o e) (by
   cases q:H b with
   | none=>rfl
   | some u =>
    have e':b=a:=hA b (by rw [q]; simp)
    subst e'
    rw [hK (by rw [q]; simp)] at e; cases e)
  have hM:Mod K mg (hidT s₁.heap H):=⟨hKb,nsK hns,⟨mb,nsK hb,hbb⟩,let ⟨mc,h1,h2⟩:=hlim; ⟨mc,nsK h1,h2⟩⟩
  have e0:Env0 P w K mg (hidT s₁.heap H) callerA [] s₁ H:=⟨rfl,hM,fun b o e=>of_hidT e,Nat.le_of_eq (hidT_size _ _),trivial,fun b hb=>absurd (show b ∈ ([]:List Addr) from hb) (by simp),hok,.of_eq hg⟩
  refine codeAny_mono ((F _ hKb (nsK hns)).run callerA [] s₁ H ⟨[.ref a],[]⟩ [.ref a] [.ref a] _ _ hr e0 (hbind s₁ (.ref a)) (.cons rfl .nil) (hsp H hO hS)) fun r s' h=>?_
  cases r with
  | error e=>exact (hCX H e s' h).elim
  | ok fl =>
   cases fl with
   | next=>exact False.elim h
   | brk=>exact False.elim h
   | cont=>exact False.elim h
   | ret u =>
    obtain ⟨v,H',os,bare,un,hok',r',q⟩:=h
    have q':v=.bl true:=q
    subst q'
    obtain rfl:u=Value.bool true:=r'
    refine ⟨rfl,OldK.of_keep fun b o e=>?_,os,bare⟩
    cases q:H b with
    | none=>exact un.keep b o e q (by intro z; exact absurd (show b ∈ ([]:List Addr) from z) (by simp)) (by simp)
    | some u =>
     rcases hO b with z|⟨ob,xs,z⟩
     ·rw [q] at z; cases z
     ·have z2:=un.frzs b ob _ z
      obtain ⟨e1,_⟩:=hok b _ z
      obtain ⟨e2,_⟩:=hok' b _ z2
      rw [e] at e1; cases e1
      exact e2
 cases hk:K.lookup a with
 | some o =>
  have e:=KX a o hk
  rw [ha] at e
  cases e
  refine core (fun _=>none) (fun _=>.inl rfl) (.inr ⟨_,vs.toArray,_,hk,rfl,rfl,rfl,by rw [List.size_toArray,lenV]; exact hl,by simpa using rv⟩) (fun b u z=>by have z':(none:Option HO)=some u:=z; cases z') (fun b z=>absurd rfl z) fun z=>absurd rfl z
 | none =>
  refine core (fun b=>if b=a then some (.frz { cls:=.type "list",data:=.seq vs.toArray } (.lst (ns.map V.int))) else none) (fun b=>?_) (.inl (.inr ⟨{ cls:=.type "list",data:=.seq vs.toArray },if_pos rfl⟩)) (fun b u z=>?_) (fun b z=>?_) fun _=>hk
  ·by_cases hb:b=a
   ·exact .inr ⟨_,_,if_pos hb⟩
   ·exact .inl (if_neg hb)
  ·by_cases hb:b=a
   ·have z':=(if_pos hb).symm.trans z
    cases z'
    subst hb
    exact ⟨ha,by rw [List.length_map]; exact hl,vs,_,rv,ha⟩
   ·have z':=(if_neg hb).symm.trans z
    cases z'
  ·by_cases hb:b=a
   ·exact hb
   ·exact absurd (if_neg hb) z
end L2
namespace L2
open PySem PySem.Spec PyProof.Rows
theorem walk_of {l:PySem.W.OpenLaw} {n k:Nat} {q:Program} {loose:List Str} {XP:(Str→Option Value)→Heap→Prop} {YP:World→Heap→Prop} {d:DefRec} {K:Params→PySem.W.Frag} {CX:World→CXT} {sp:World→Sp} {x:Str}
  (hn:l.most=some n) (hn2:n≤sizeLine) (hdf:d.params.defaults=[]) (hr:Room k callerA)
  (hY:∀ (w:World) (h:Heap),YP w h→(K w.params).In h)
  (F:∀ (w:World) (mg:Str→Option Value) (fa:Addr) (h:Heap),(K w.params).In h→h.Ns mainGlobals mg→mg d.name=some (.ref fa) →
   ∃ fd:FuncData,(∀ (s:Shared) (u:Value),BindsTo s fd ⟨[u],[]⟩ [(x,u)]) ∧
    ∀ base:Heap,(K w.params).In base→base.Ns mainGlobals mg→FnOk l.prog w (K w.params) mg base (CX w) k fa fd [x] (sp w))
  (hsp:∀ (w:World) (H:Hp) (a:Addr) (ns:List Int),ns.length≤n→Only H→SqL (K w.params) H a (ns.map V.int)→sp w [.ref a] H (fun v _=>v=.bl true) fun _ _ _=>False)
  (hCX:∀ (w:World) (H:Hp) (s:Shared) (e:Value) (s':Shared),CX w [] H s (fun _ _ _=>False) e s'→False) :
  PySem.W.WalkO q loose XP YP l.row.toRowW d [] (fun f vs=>PySem.call f vs):=by
 refine Att.attach_call hn hdf fun w s₀ s₁ mg mb fa o pm cd doc a vs ns G Y ho hd hcd hmg hobj hints hlen hg=>?_
 have KX:=hY w _ Y
 obtain ⟨fd,hb,hF⟩:=F w mg fa _ KX G.T.g hmg
 exact law_call KX G.T.g G.T.b G.T.builtins G.T.nolimit hg hobj hints (Nat.le_trans hlen hn2) hr hF hb (fun H hO hS=>hsp w H a ns hlen hO hS) fun H e s'=>hCX w H s₁ e s'
end L2
namespace L2
open PySem PySem.Spec PyProof.Rows
noncomputable def defArgs (s:Stmt):Arguments:=match s with
 | .FunctionDef _ a _ _ _ _ _ _ _ _=>a
 | _=>{ posonlyargs:=[],args:=[],vararg:=none,kwonlyargs:=[],kw_defaults:=[],kwarg:=none,defaults:=[] }
noncomputable def defBody (s:Stmt):List Stmt:=match s with
 | .FunctionDef _ _ b _ _ _ _ _ _ _=>b
 | _=>[]
noncomputable def defScope (s:Stmt):Scope:=match s with
 | .FunctionDef _ _ _ _ _ _ sc _ _ _=>sc
 | _=>{ kind:=.function,names:=[],isGenerator:=false,isCoroutine:=false }
abbrev CX0:CXT:=fun _ _ _ _ _ _=>False
abbrev E0:XK:=fun _ _ _=>False
structure Fun (K:PySem.W.Frag) (x qual:Str) (st:Stmt) (f:Addr) (fd:FuncData):Prop where
 ex:∃ (oc:Value) (od:Option Addr) (kV doc pm:Value) (an:Option Addr) (cdv ct:Value) (osl:Array (Option Value)),
  fd=PySem.W.fnOf x qual (defArgs st) (defBody st) (defScope st) .none kV doc pm an cdv ct∧K.lookup f=some ⟨oc,od,.func fd,osl⟩∧PySem.W.codeIn K cdv qual=true
 kp:PySem.W.keepIn K (.ref f)=true
section
variable {P:Program}{w:World}{K:PySem.W.Frag}{mg:Str→Option Value}{base:Heap}
theorem Fun.binds {x qual:Str} {st:Stmt} {f:Addr} {fd:FuncData} {ps:List Str} (F:Fun K x qual st f fd)
  (h:∀ (kV doc pm:Value) (an:Option Addr) (cdv ct:Value) (us:List Value),us.length=ps.length→bindArgs (PySem.W.fnOf x qual (defArgs st) (defBody st) (defScope st) .none kV doc pm an cdv ct) ⟨us,[]⟩=pure (ps.zip us)):Binds K fd ps []:=by
 obtain ⟨oc,od,kV,doc,pm,an,cdv,ct,osl,rfl,lk,hcd⟩:=F.ex
 exact .all (h kV doc pm an cdv ct)
end
theorem hu_of {A:Around} {k:Nat} (hr:Room k A):A.units+1<cLine:=Nat.lt_of_le_of_lt (Nat.add_le_add_left (by decide:1≤64) _) hr.units
section
variable {X:Cx}
theorem pv (i:Nat) {x:Str} {pos:Pos} (hN:X.N[i]?=some x:=by rfl) (hv:Vis X.env.scope x:=by first|exact Or.inl rfl|exact Or.inr (Or.inl rfl)|exact Or.inr (Or.inr rfl)) (hd:(x == ("__debug__":Str))=false:=by decide)
  (hcd:(x == ("__classdict__":Str))=false:=by decide):PE X (.Name x pos) (tVar i):=pe_var hN hv hd hcd
end
theorem iteF {A B:Prop} (h:B):if false=true then A else B:=by
 rw [if_neg Bool.false_ne_true]
 exact h
theorem iteT {A B:Prop} (h:A):if true=true then A else B:=by
 rw [if_pos rfl]
 exact h
theorem iteNS {c A B:Prop} [Decidable c] (hc:c) (h:B):if (!decide c)=true then A else B:=by
 rw [decide_eq_true hc]
 exact iteF h
def Same (H H':Hp):Prop:=∀ b o,H b=some o→H' b=some o
theorem Same.refl (H:Hp):Same H H:=fun _ _ h=>h
theorem Same.trans {H H1 H2:Hp} (a:Same H H1) (b:Same H1 H2):Same H H2:=fun c o h=>b c o (a c o h)
theorem Same.free {H H':Hp} (e:Same H H') {l:Addr} (h:H' l=Option.none):H l=Option.none:=by
 cases q:H l with
 | none=>rfl
 | some o =>
  rw [e l o q] at h
  cases h
end L2
namespace L2
open PySem PySem.Spec PyProof.Rows
end L2
namespace L2
open PySem PySem.Spec PyProof.Rows
end L2
namespace L2
open PySem PySem.Spec PyProof.Rows
end L2
namespace L2
open PySem PySem.Spec PyProof.Rows
end L2
namespace L2
open PySem PySem.Spec PyProof.Rows
end L2
namespace L2
open PySem PySem.Spec PyProof.Rows
end L2
namespace L2
open PySem PySem.Spec PyProof.Rows
end L2
namespace L2
open PySem PySem.Spec PyProof.Rows
end L2
namespace L2
open PySem PySem.Spec PyProof.Rows
end L2
namespace L2
open PySem PySem.Spec PyProof.Rows
end L2
namespace L2
open PySem PySem.Spec PyProof.Rows
section
variable {κ:Type}[DecidableEq κ]
noncomputable def valV (kvs:List (κ × V)) (k:κ):Option V:=(kvs.find? fun kv=>decide (kv.1=k)).map (·.2)
noncomputable def putK (kvs:List (κ × V)) (k:κ) (v:V):List (κ × V):=
 if (kvs.any fun kv=>decide (kv.1=k))=true then kvs.map (fun kv=>if kv.1=k then (kv.1,v) else kv) else kvs++[(k,v)]
noncomputable def dropK (kvs:List (κ × V)) (k:κ):List (κ × V):=kvs.filter fun kv=>decide (kv.1≠k)
theorem valV_pos {p:κ × V} {r:List (κ × V)} {k:κ} (e:p.1=k):valV (p::r) k=some p.2:=by simp [valV,List.find?_cons,e]
theorem valV_neg {p:κ × V} {r:List (κ × V)} {k:κ} (e:¬ p.1=k):valV (p::r) k=valV r k:=by simp [valV,List.find?_cons,e]
theorem valV_any (k:κ):∀ kvs:List (κ × V),(kvs.any fun kv=>decide (kv.1=k))=(valV kvs k).isSome
 | []=>rfl
 | p::r=>by
  rw [List.any_cons]
  by_cases e:p.1=k
  ·simp only [valV_pos e,decide_eq_true e,Bool.true_or,Option.isSome_some]
  ·rw [valV_neg e,decide_eq_false e,Bool.false_or]; exact valV_any k r
theorem length_putK (kvs:List (κ × V)) (k:κ) (v:V):(putK kvs k v).length≤kvs.length+1:=by
 unfold putK
 split
 ·rw [List.length_map]; omega
 ·rw [List.length_append,List.length_cons,List.length_nil]; omega
theorem RelO.isSome_eq {o:Option V} {u:Option Value} (r:RelO o u):o.isSome=u.isSome:=by
 cases o with
 | none=>cases u with
  | none=>rfl
  | some _=>exact (show False from r).elim
 | some _=>cases u with
  | none=>exact (show False from r).elim
  | some _=>rfl
theorem RelO.getD {o:Option V} {u:Option Value} {d:V} {d':Value} (r:RelO o u) (rd:RelV d d'):RelV (o.getD d) (u.getD d'):=by
 cases o with
 | none=>cases u with
  | none=>exact rd
  | some _=>exact (show False from r).elim
 | some _=>cases u with
  | none=>exact (show False from r).elim
  | some _=>exact r
theorem KV.val {kvs:List (κ × V)} {vs:List (κ × Value)} (r:KV kvs vs) (k:κ):RelO (valV kvs k) (valueAt vs k):=by
 unfold KV at r
 induction r with
 | nil=>exact True.intro
 | @cons p q ps qs h t ih =>
  obtain ⟨h1,h2⟩:=h
  by_cases e:p.1=k
  ·have e':q.1=k:=h1.symm.trans e
   have b:valueAt (q::qs) k=some q.2:=by simp [valueAt,List.find?_cons,e']
   rw [valV_pos e,b]; exact h2
  ·have e':¬ q.1=k:=fun z=>e (h1.trans z)
   have b:valueAt (q::qs) k=valueAt qs k:=by simp [valueAt,List.find?_cons,e']
   rw [valV_neg e,b]; exact ih
theorem KV.any {kvs:List (κ × V)} {vs:List (κ × Value)} (r:KV kvs vs) (k:κ):(kvs.any fun kv=>decide (kv.1=k))=vs.any fun kv=>decide (kv.1=k):=by
 unfold KV at r
 induction r with
 | nil=>rfl
 | cons h t ih=>rw [List.any_cons,List.any_cons,ih,h.1]
theorem KV.repl {kvs:List (κ × V)} {vs:List (κ × Value)} (r:KV kvs vs) (k:κ) {y:V} {u:Value} (ry:RelV y u) :
  KV (kvs.map fun kv=>if kv.1=k then (kv.1,y) else kv) (vs.map fun kv=>if kv.1=k then (kv.1,u) else kv):=by
 unfold KV at r ⊢
 induction r with
 | nil=>exact .nil
 | @cons p q ps qs h t ih =>
  rw [List.map_cons,List.map_cons]
  refine .cons ?_ ih
  obtain ⟨h1,h2⟩:=h
  by_cases e:p.1=k
  ·rw [if_pos e,if_pos (h1.symm.trans e)]; exact ⟨h1,ry⟩
  ·rw [if_neg e,if_neg (fun z=>e (h1.trans z))]; exact ⟨h1,h2⟩
theorem KV.put {kvs:List (κ × V)} {vs:List (κ × Value)} (r:KV kvs vs) (k:κ) {y:V} {u:Value} (ry:RelV y u):KV (putK kvs k y) (stored vs k u):=by
 unfold putK stored
 rw [r.any k]
 by_cases e:(vs.any fun kv=>decide (kv.1=k))=true
 ·rw [if_pos e,if_pos e]; exact r.repl k ry
 ·rw [if_neg e,if_neg e]; exact Paired.snoc r ⟨rfl,ry⟩
theorem KV.drop {kvs:List (κ × V)} {vs:List (κ × Value)} (r:KV kvs vs) (k:κ):KV (dropK kvs k) (without vs k):=by
 unfold KV at r ⊢
 unfold dropK without
 induction r with
 | nil=>exact .nil
 | @cons p q ps qs h t ih =>
  obtain ⟨h1,h2⟩:=h
  rw [List.filter_cons,List.filter_cons]
  by_cases e:p.1=k
  ·have a:¬ decide (p.1≠k)=true:=by simp [e]
   have b:¬ decide (q.1≠k)=true:=by simp [h1.symm.trans e]
   rw [if_neg a,if_neg b]; exact ih
  ·have e':¬ q.1=k:=fun z=>e (h1.trans z)
   have a:decide (p.1≠k)=true:=by simp [e]
   have b:decide (q.1≠k)=true:=by simp [e']
   rw [if_pos a,if_pos b]; exact .cons ⟨h1,h2⟩ ih
theorem KV.length {kvs:List (κ × V)} {vs:List (κ × Value)} (r:KV kvs vs):kvs.length=vs.length:=Paired.length r
end
theorem kV_is {P:Program} {w:World} {k:Key} {u:Value} (r:RelV (kV k) u):(mixKind P w).is k u=true:=by
 cases k with
 | inl i=>obtain ⟨t,e⟩:=(show ∃ t,u=Value.int i t from r); subst e; exact mixKind_int P w i t
 | inr x=>obtain ⟨t,e⟩:=(show ∃ t,u=Value.str x t from r); subst e; exact mixKind_str P w x t
theorem items_are {P:Program} {w:World}:∀ {ks:List Key} {us:List Value},Vals (ks.map kV) us→ItemsAre (mixKind P w) ks us
 | [],_,r=>by rw [List.map_nil] at r; cases r; exact .nil
 | k::ks,_,r=>by
  rw [List.map_cons] at r
  cases r with
  | cons h t=>exact .cons (kV_is h) (items_are t)
abbrev KT (H:Hp):List (List Key × V)→List (List Key × Addr × Value)→Prop:=Paired fun p q=>p.1=q.1∧H q.2.1=some (.tup (p.1.map kV))∧RelV p.2 q.2.2
theorem KT.val {H:Hp} {kvs:List (List Key × V)} {xs:List (List Key × Addr × Value)} (r:KT H kvs xs) (k:List Key):RelO (valV kvs k) ((atKey xs k).map (·.2)):=by
 induction r with
 | nil=>exact True.intro
 | @cons p q ps qs h t ih =>
  obtain ⟨h1,_,h2⟩:=h
  by_cases e:p.1=k
  ·have e':q.1=k:=h1.symm.trans e
   have b:atKey (q::qs) k=some q.2:=by simp [atKey,List.find?_cons,e']
   rw [valV_pos e,b]; exact h2
  ·have e':¬ q.1=k:=fun z=>e (h1.trans z)
   have b:atKey (q::qs) k=atKey qs k:=by simp [atKey,List.find?_cons,e']
   rw [valV_neg e,b]; exact ih
theorem KT.repl {H:Hp} {kvs:List (List Key × V)} {xs:List (List Key × Addr × Value)} (r:KT H kvs xs) (k:List Key) {y:V} {u:Value} (ry:RelV y u) :
  KT H (kvs.map fun kv=>if kv.1=k then (kv.1,y) else kv) (xs.map (putAt k u)):=by
 induction r with
 | nil=>exact .nil
 | @cons p q ps qs h t ih =>
  rw [List.map_cons,List.map_cons]
  refine .cons ?_ ih
  obtain ⟨h1,h2,h3⟩:=h
  unfold putAt
  by_cases e:p.1=k
  ·rw [if_pos e,if_pos (h1.symm.trans e)]; exact ⟨h1,h2,ry⟩
  ·rw [if_neg e,if_neg (fun z=>e (h1.trans z))]; exact ⟨h1,h2,h3⟩
theorem KT.put {H:Hp} {kvs:List (List Key × V)} {xs:List (List Key × Addr × Value)} (r:KT H kvs xs) (k:List Key) {b:Addr} {y:V} {u:Value} (hb:H b=some (.tup (k.map kV))) (ry:RelV y u) :
  KT H (putK kvs k y) (storedH xs k b u):=by
 have e:(kvs.any fun kv=>decide (kv.1=k))=(atKey xs k).isSome:=by
  rw [valV_any,(r.val k).isSome_eq,Option.isSome_map]
 unfold putK storedH
 rw [e]
 by_cases q:(atKey xs k).isSome=true
 ·rw [if_pos q,if_pos q]; exact r.repl k ry
 ·rw [if_neg q,if_neg q]; exact Paired.snoc r ⟨rfl,hb,ry⟩
theorem KT.keeps {H H':Hp} {kvs:List (List Key × V)} {xs:List (List Key × Addr × Value)} (r:KT H kvs xs) (ht:∀ b ys,H b=some (.tup ys)→H' b=some (.tup ys)):KT H' kvs xs:=
 Paired.mapP r fun _ _ z=>⟨z.1,ht _ _ z.2.1,z.2.2⟩
section
variable {P:Program}{w:World}{H:Hp}{h:Heap}{a:Addr}
theorem rd_of {u:HO} (ok:HOk P w H h) (e:Rd H a u):ObjOk P w H h a u:=e.ok ok
theorem dk_rd {kvs:List (Key × V)} (ok:HOk P w H h) (e:Rd H a (.dK kvs)):kvs.length≤sizeLine∧(a == sysModules)=false∧∃ vs,KV kvs vs∧h.DictOf (mixKind P w) a vs:=
 show ObjOk P w H h a (.dK kvs) from rd_of ok e
theorem dk_of {kvs:List (Key × V)} (ok:HOk P w H h) (e:H a=some (.dK kvs)):kvs.length≤sizeLine∧(a == sysModules)=false∧∃ vs,KV kvs vs∧h.DictOf (mixKind P w) a vs:=dk_rd ok (.inl e)
theorem key_of {ks:List Key} (ok:HOk P w H h) (e:H a=some (.tup (ks.map kV))):(tupleKind (mixKind P w)).is h ks a:=by
 obtain ⟨_,its,r,o,h1,h2,n,h3⟩:=(show ObjOk P w H h a (.tup (ks.map kV)) from ok a _ e)
 exact ⟨o,its.toArray,n,h1,h2,h3,by simpa using items_are r⟩
theorem dt_rd {kvs:List (List Key × V)} (ok:HOk P w H h) (e:Rd H a (.dT kvs)):kvs.length≤sizeLine∧(a == sysModules)=false ∧
  ∃ xs,KT H kvs xs∧h.DictOfH (tupleKind (mixKind P w)) a xs:=by
 obtain ⟨z,y,xs,r,o,es,ep,h1,h2,h3,h4,h5⟩:=(show ObjOk P w H h a (.dT kvs) from rd_of ok e)
 refine ⟨z,y,xs,r,o,es,ep,h1,h2,h3,h4,fun x hx=>?_,h5⟩
 have all:∀ {l:List (List Key × V)} {m:List (List Key × Addr × Value)},KT H l m→∀ x ∈ m,(tupleKind (mixKind P w)).is h x.1 x.2.1:=by
  intro l m q
  induction q with
  | nil=>intro x hx; exact nomatch hx
  | @cons p q ps qs hq t ih =>
   intro x hx
   rcases List.mem_cons.mp hx with e|hx
   ·subst e
    exact key_of ok (by rw [← hq.1]; exact hq.2.1)
   ·exact ih x hx
 exact all r x hx
theorem dt_of {kvs:List (List Key × V)} (ok:HOk P w H h) (e:H a=some (.dT kvs)):kvs.length≤sizeLine∧(a == sysModules)=false ∧
  ∃ xs,KT H kvs xs∧h.DictOfH (tupleKind (mixKind P w)) a xs:=dt_rd ok (.inl e)
end
def DGet (H:Hp) (a:Addr) (y:V) (r:Option V):Prop:=
 (∃ kvs k,Rd H a (.dK kvs)∧y=kV k∧r=valV kvs k)∨∃ kvs k b,Rd H a (.dT kvs)∧y=.ref b∧H b=some (.tup (k.map kV))∧r=valV kvs k
def DPut (H:Hp) (a:Addr) (y v:V) (H':Hp):Prop:=
 (∃ kvs k,H a=some (.dK kvs)∧y=kV k∧kvs.length<sizeLine∧H'=upd H a (.dK (putK kvs k v))) ∨
 ∃ kvs k b,H a=some (.dT kvs)∧y=.ref b∧H b=some (.tup (k.map kV))∧kvs.length<sizeLine∧H'=upd H a (.dT (putK kvs k v))
theorem DGet.k {H:Hp} {a:Addr} {kvs:List (Key × V)} {k:Key} (e:H a=some (.dK kvs)):DGet H a (kV k) (valV kvs k):=.inl ⟨kvs,k,.inl e,rfl,rfl⟩
theorem DPut.k {H:Hp} {a:Addr} {kvs:List (Key × V)} {k:Key} {v:V} (e:H a=some (.dK kvs)) (hl:kvs.length<sizeLine):DPut H a (kV k) v (upd H a (.dK (putK kvs k v))):=.inl ⟨kvs,k,e,rfl,hl,rfl⟩
section
variable {X:Cx}{pins:List (Addr × Obj)}{σ:St}{H:Hp}{s:Shared}{a:Addr}{y v:V}{u r:Value}{o:Option V}{A:Around}{E:Value→Shared→Prop}
theorem Inv.big (I:Inv X pins σ H s):sysModules<s.heap.objs.size:=by
 have h:mainGlobals<s.heap.objs.size:=(I.mod.glob.keeps I.bk).lt
 exact Nat.lt_trans (by decide) h
theorem d_getItem {Q:Value→Shared→Prop} (hu:A.units+1<cLine) (I:Inv X pins σ H s) (g:DGet H a y (some v)) (ry:RelV y u) (h:∀ w' s',Inv X pins σ H s'→RelV v w'→Q w' s') :
  wpAny (model X.prog X.w) A (getItem (.ref a) u) Q E s:=by
 rcases g with ⟨kvs,k,e,ey,l⟩|⟨kvs,k,b,e,ey,eb,l⟩
 ·subst ey
  obtain ⟨z,hd,vs,rel,dd⟩:=dk_rd I.hok e
  obtain ⟨w',hw,rw'⟩:=RelO.some_of (v:=v) (o:=valueAt vs k) (by rw [l]; exact rel.val k)
  exact wpAny_getItem_of (kV_is ry) dd.mapOf hw (h w' _ (I.tok _) rw')
 ·subst ey
  cases (show u=Value.ref b from ry)
  obtain ⟨z,hd,xs,rel,dd⟩:=dt_rd I.hok e
  obtain ⟨w',hw,rw'⟩:=RelO.some_of (v:=v) (o:=(atKey xs k).map (·.2)) (by rw [l]; exact rel.val k)
  obtain ⟨p,hp,hp2⟩:=Option.map_eq_some_iff.mp hw
  refine wpAny_getItem_heap (tupleKind_room_in1 hu) (key_of I.hok eb) dd hp ?_
  rw [hp2]
  exact h w' _ (I.tok _) rw'
theorem d_write {h':Heap} {t':Nat} {ob:HO} (I:Inv X pins σ H s) (mu:Mut (H a)) (hs:Heap.SameBut a s.heap h') (he:∃ q,h'.get? a=some q) (new:ObjOk X.prog X.w (upd H a ob) h' a ob) :
  Inv X pins σ (upd H a ob) { s with heap:=h',toks:=t' }:=
 I.write (x:=a) (e:=a) mu (.inl rfl) (fun b q hb z=>(hs.2 b hb).trans z) he new
theorem dk_new {P:Program} {w:World} {H':Hp} {h':Heap} {kvs:List (Key × V)} {vs:List (Key × Value)} (z:kvs.length≤sizeLine) (hd:(a == sysModules)=false) (rel:KV kvs vs) (dd:h'.DictOf (mixKind P w) a vs) :
  ObjOk P w H' h' a (.dK kvs):=⟨z,hd,vs,rel,dd⟩
theorem d_setItem {H':Hp} {Q:Unit→Shared→Prop} (hu:A.units+1<cLine) (I:Inv X pins σ H s) (g:DPut H a y v H') (ry:RelV y u) (rv:RelV v r) (h:∀ s',Inv X pins σ H' s'→Q () s') :
  wpAny (model X.prog X.w) A (setItem (.ref a) u r) Q E s:=by
 rcases g with ⟨kvs,k,e,ey,l,eH⟩|⟨kvs,k,b,e,ey,eb,l,eH⟩
 ·subst ey eH
  obtain ⟨z,hd,vs,rel,dd⟩:=dk_of I.hok e
  have hz:vs.length≤sizeLine:=by rw [← rel.length]; exact z
  have hl:(putK kvs k v).length≤sizeLine:=by have:=length_putK kvs k v; omega
  refine wpAny_setItem_pairs (hsz:=hz) (kV_is ry) dd fun h' dd' hs=>h _ ?_
  have he:∃ q,h'.get? a=some q:=let ⟨q,_,_,hq,_⟩:=dd'; ⟨q,hq⟩
  exact d_write I (by rw [e]; exact True.intro) hs he (dk_new hl hd (rel.put k rv) dd')
 ·subst ey eH
  cases (show u=Value.ref b from ry)
  obtain ⟨z,hd,xs,rel,dd⟩:=dt_of I.hok e
  have hz:xs.length≤sizeLine:=by rw [← Paired.length rel]; exact z
  have hl:(putK kvs k v).length≤sizeLine:=by have:=length_putK kvs k v; omega
  refine wpAny_setItem_heap (hsz:=hz) (tupleKind_room_in1 hu) (key_of I.hok eb) dd fun h' dd' hs=>h _ ?_
  obtain ⟨q,es,ep,hq,h2,h3,h4,_,h5⟩:=dd'
  refine d_write I (by rw [e]; exact True.intro) hs ⟨q,hq⟩ ⟨hl,hd,_,(rel.put k eb rv).keeps fun c ys ec=>?_,q,es,ep,hq,h2,h3,h4,h5⟩
  rw [upd_ne (ne_of ec e (fun z=>nomatch z))]
  exact ec
end
section
variable {X:Cx}{pins:List (Addr × Obj)}{σ:St}{H:Hp}{s:Shared}{a:Addr}{kvs:List (Key × V)}{k:Key}{u:Value}{A:Around}{E:Value→Shared→Prop}
end
def NoSl (i:Expr):Prop:=∀ ov iv,subscripted i false ov iv=operate [ov,iv] (getItem ov iv)
theorem subD_of {prog:Program} {w:World} {A:Around} {E:Value→Shared→Prop} {s:Shared} {env:Env} {value slice:Expr} {pos:Pos} {T id:String} {Q:Value→Shared→Prop}
  (hl:typeLookup (.type T) "__getitem__" = pure (some (.builtin id))) (hs:NoSl slice)
  (h:wpAny (model prog w) A (eval value env) (fun o s₁=>wpAny (model prog w) A (eval slice env) (fun i s₂=>s₂.TypeIs o T∧wpAny (model prog w) A (getItem o i) Q E s₂) E s₁) E s) :
  wpAny (model prog w) A (eval (.Subscript value slice pos) env) Q E s:=by
 refine Subscript_ (wpAny_mono h (fun o s₁ h₁=>wpAny_mono h₁ (fun i s₂ h₂=>?_) fun _ _ x=>x) fun _ _ x=>x)
 obtain ⟨hT,h₂⟩:=h₂
 unfold subscriptTail
 refine wpAny_bind ?_
 rw [getitemInPython_of_ne hT.not_modules]
 refine wpAny_bind (wpAny_specialOf hT hl ?_)
 have fin:wpAny (model prog w) A (subscripted slice false o i) (fun r s₃=>wpAny (model prog w) A (letTemporaryGo value o r >>= fun _=>pure r) Q E s₃) E s₂:=by
  rw [hs o i]
  exact wpAny_operating (wpAny_mono h₂ (fun r s₃ h₃=>wpAny_bind (wpAny_letTemporaryGo (wpAny_pure h₃))) fun _ _ x=>x)
 first
  | exact wpAny_pure (wpAny_bind fin)
  | exact wpAny_bind (wpAny_pure (wpAny_bind fin))
  | exact wpAny_bind fin
theorem dict_typeIs {X:Cx} {pins:List (Addr × Obj)} {σ:St} {H:Hp} {s:Shared} {a:Addr} {y:V} {o:Option V} (I:Inv X pins σ H s) (g:DGet H a y o):s.TypeIs (.ref a) "dict":=by
 rcases g with ⟨kvs,k,e,_,_⟩|⟨kvs,k,b,e,_,_,_⟩
 ·obtain ⟨_,_,vs,_,dd⟩:=dk_rd I.hok e
  exact dd.typeIs
 ·obtain ⟨_,_,xs,_,dd⟩:=dt_rd I.hok e
  exact dd.typeIs
def tDGet (td ty:TE):TE:=fun σ H Q=>td σ H fun x H1=>ty σ H1 fun y H2=>∃ a v,x=.ref a∧DGet H2 a y (some v)∧Q v H2
def sDPut (td ty tv:TE):TS:=fun D σ H=>tv σ H fun v H1=>td σ H1 fun x H2=>ty σ H2 fun y H3=>∃ a H4,x=.ref a∧DPut H3 a y v H4∧D.nx σ H4
section
variable {X:Cx}{o i e value:Expr}{pos pos' tpos:Pos}{td ty tv:TE}
theorem pe_dget (hu:X.A.units+1<cLine) (ho:PE X o td) (hi:PE X i ty) (hs:NoSl i):PE X (.Subscript o i pos) (tDGet td ty):=by
 intro pins s σ H Q I h
 refine subD_of PySem.F.slot_dict_getitem.lookup hs (thn (ho pins s σ H _ I h) fun u s1 ⟨x,H1,I1,rx,q1⟩=>thn (hi pins s1 σ H1 _ I1 q1) fun iv s2 ⟨y,H2,I2,ry,a,v,ex,g,q2⟩=>?_)
 subst ex
 obtain rfl:u=Value.ref a:=rx
 exact ⟨dict_typeIs I2 g,d_getItem hu I2 g ry fun w' s3 I3 rw'=>⟨v,H2,I3,rw',q2⟩⟩
theorem ps_dput (hu:X.A.units+1<cLine) (ho:PE X o td) (hi:PE X i ty) (hv:PE X value tv) (hs:swapsWith value (some (.Subscript o i pos')) pos.line X.env=pure false) :
  PS X (.Assign [.Subscript o i pos'] value pos) (sDPut td ty tv):=by
 intro pins s σ H D I h
 refine wpAny_Assign_Subscript (thn (hv pins s σ H _ I h) fun r s1 ⟨v,H1,I1,rv,q1⟩=>thn (ho pins s1 σ H1 _ I1 q1) fun u s2 ⟨x,H2,I2,rx,q2⟩=>thn (hi pins s2 σ H2 _ I2 q2) fun iv s3 ⟨y,H3,I3,ry,a,H4,ex,g,q3⟩=>?_) hs
 subst ex
 obtain rfl:u=Value.ref a:=rx
 exact d_setItem hu I3 g ry rv fun s4 I4=>⟨σ,H4,I4,q3⟩
end
theorem dk_empty {P:Program} {w:World} {H:Hp} (h:Heap) (hb:sysModules<h.objs.size):ObjOk P w H (h.push { cls:=.type "dict",data:=.dict #[] }) h.objs.size (.dK []):=
 ⟨Nat.zero_le _,beq_eq_false_iff_ne.mpr (Ne.symm (Nat.ne_of_lt hb)),[],.nil,Heap.DictOf.new h⟩
def tDNewK:TE:=fun _ H Q=>∀ p,H p=none→Q (.ref p) (upd H p (.dK []))
section
variable {X:Cx}{pos:Pos}
theorem pe_dnewK:PE X (.Dict [] [] pos) tDNewK:=fun pins s σ H Q I h =>
 wpAny_Dict_empty ⟨.ref s.heap.objs.size,_,I.laid (a:=s.heap.objs.size) (o:=.dK []) (t':=s.toks) (fun _ _ q=>Heap.get?_push_of_some _ q) (Nat.le_refl _) (dk_empty s.heap I.big),rfl,h _ (I.hok.fresh (Nat.le_refl _))⟩
end
structure M1 (X:Cx) (o:Expr) (m:Str) (apos:Pos) (e:Expr) (cpos:Pos):Prop where
 base:attributeBase o m X.env (eval o X.env)=eval o X.env
 few:((backTo cpos (starEach [e] X.env)).all (fun x=>!x.1)&&(backToKw cpos (keywordEach [] X.env)).all (fun x=>x.1.isSome)
  && decide (([e]:List Expr).length+([]:List Keyword).length+(if ([]:List Keyword).isEmpty then 0 else 1)<30))=true
 line:(apos.endLine == cpos.line)=true
 trees:backTo cpos (starEach [e] X.env)=[(false,eval e X.env)]
structure M2 (X:Cx) (o:Expr) (m:Str) (apos:Pos) (e f:Expr) (cpos:Pos):Prop where
 base:attributeBase o m X.env (eval o X.env)=eval o X.env
 few:((backTo cpos (starEach [e,f] X.env)).all (fun x=>!x.1)&&(backToKw cpos (keywordEach [] X.env)).all (fun x=>x.1.isSome)
  && decide (([e,f]:List Expr).length+([]:List Keyword).length+(if ([]:List Keyword).isEmpty then 0 else 1)<30))=true
 line:(apos.endLine == cpos.line)=true
 trees:backTo cpos (starEach [e,f] X.env)=[(false,eval e X.env),(false,eval f X.env)]
section
variable {X:Cx}{pins:List (Addr × Obj)}{σ:St}{H:Hp}{s:Shared}{a:Addr}{y d:V}{u r:Value}{o:Option V}{A:Around}{E:Value→Shared→Prop}
end
section
variable {X:Cx}{o e f:Expr}{apos cpos:Pos}{td ty tx:TE}
end
section
variable {X:Cx}{pins:List (Addr × Obj)}{σ:St}{H:Hp}{s:Shared}{a:Addr}{kvs:List (Key × V)}{A:Around}{E:Value→Shared→Prop}
end
section
variable {X:Cx}{pins:List (Addr × Obj)}{σ:St}{H:Hp}{s:Shared}{a:Addr}{y:V}{u:Value}{A:Around}{E:Value→Shared→Prop}
end
end L2
namespace Att
open PySem PySem.W PySem.Calls PyProof.Rows
end Att
namespace L2
open PySem PySem.Spec PyProof.Rows
end L2
namespace L2
open PySem PySem.Spec PyProof.Rows
end L2
namespace L2
open PySem PySem.Spec PyProof.Rows
section
variable {X:Cx}
end
section
variable {κ:Type}[DecidableEq κ]
end
end L2
namespace Toy
open PySem L2
open PySem.W (fnOf)
noncomputable def top (i:Nat):Stmt:=PySem.Challenge.pw_leaffold_k14_read.main.body.getD i (.Pass ⟨0,0,0,0⟩)
noncomputable def dF (n q:Str) (s:Stmt) (m:Str) (t c:Nat):FuncData:=fnOf n q (L2.defArgs s) (L2.defBody s) (L2.defScope s) .none .none .none (.str m t) none (.ref c) .none
noncomputable def oF (f:FuncData):Obj:=⟨.type "function",none,.func f,#[]⟩
noncomputable def oC (x:Array Value):Obj:=⟨.type "code",none,.fields x,#[]⟩
noncomputable def en (P:Params) (x:Str) (t:Nat) (v:Value):DictEntry:=⟨PyData.keyHash P x,.str x t,v⟩
noncomputable def j (i:Int):Value:=.int i 0
noncomputable def l (a:Nat):Value:=.ref a
noncomputable def cF (t:Nat):Value:=.str "/claim/cut.py" t
noncomputable def fd_13z:FuncData:=dF "read" "read" (top 16) "leaffold.words" 341 130
noncomputable def fd_9z:FuncData:=dF "read_fold" "read_fold" (top 17) "leaffold.words" 341 137
noncomputable def fd_5z:FuncData:=dF "read_crease" "read_crease" (top 18) "leaffold.words" 341 142
noncomputable def fd_2z:FuncData:=dF "_law_cell_at" "_law_cell_at" (top 20) "law_leaffold_k14_read" 372 149
noncomputable def fd_8z:FuncData:=dF "_law_whole" "_law_whole" (top 21) "law_leaffold_k14_read" 372 156
noncomputable def fd_0z:FuncData:=dF "_law_same_folds" "_law_same_folds" (top 22) "law_leaffold_k14_read" 372 163
noncomputable def fd_6z:FuncData:=dF "_law_row_by" "_law_row_by" (top 23) "law_leaffold_k14_read" 372 170
noncomputable def fd_4z:FuncData:=dF "_law_written" "_law_written" (top 24) "law_leaffold_k14_read" 372 177
noncomputable def fd_7z:FuncData:=dF "_law_spoilt" "_law_spoilt" (top 25) "law_leaffold_k14_read" 372 184
noncomputable def fd_3z:FuncData:=dF "_law_word_of" "_law_word_of" (top 26) "law_leaffold_k14_read" 372 191
noncomputable def fd_1z:FuncData:=dF "_law_refused" "_law_refused" (top 27) "law_leaffold_k14_read" 372 198
noncomputable def fd_14z:FuncData:=dF "law" "law" (top 28) "law_leaffold_k14_read" 372 203
noncomputable def KK (P:Params):PySem.W.Frag:=[(3,⟨(.type "dict"),none,(.dict #[en P "__name__" 165 (.str "law_leaffold_k14_read" 372),en P "__doc__" 166 .none,en P "__package__" 167 .none,en P "__loader__" 168 (.builtin "__main__.__loader__#opaque"),en P "__spec__" 169 .none,en P "__annotations__" 170 (.ref 6),en P "__builtins__" 171 (.ref 4),en P "__file__" 173 (cF 172),en P "__cached__" 174 .none,en P "LeafError" 206 (.ref 24),en P "NoSheet" 222 (.ref 37),en P "NoFold" 238 (.ref 49),en P "NoPlace" 254 (.ref 61),en P "Ajar" 270 (.ref 73),en P "Severed" 286 (.ref 85),en P "Bolted" 302 (.ref 97),en P "Loose" 318 (.ref 109),en P "NoWord" 334 (.ref 121),en P "UPRIGHT_SIDES" 337 (.ref 124),en P "LEVEL_SIDES" 340 (.ref 125),en P "WAYS" 347 (.ref 126),en P "FIGURES" 349 (.str "0123456789" 348),en P "MOST_FIGURES" 351 (.int 9 350),en P "read" 357 (.ref 131),en P "read_fold" 365 (.ref 138),en P "read_crease" 371 (.ref 143),en P "_law_cell_at" 381 (.ref 150),en P "_law_whole" 388 (.ref 157),en P "_law_same_folds" 398 (.ref 164),en P "_law_row_by" 410 (.ref 171),en P "_law_written" 418 (.ref 178),en P "_law_spoilt" 430 (.ref 185),en P "_law_word_of" 438 (.ref 192),en P "_law_refused" 446 (.ref 199),en P "law" 452 (.ref 204)] 35),#[]⟩),
 (23,⟨(.type "dict"),none,(.dict #[en P "__module__" 196 (.str "leaffold.errors" 187),en P "__firstlineno__" 200 (.int 2 199),en P "__static_attributes__" 201 (.ref 22),en P "__weakref__" 203 (.ref 25),en P "__doc__" 204 .none] 3),#[]⟩),
 (24,⟨(.type "type"),none,(.cls ⟨"LeafError",[(.type "ValueError")],[(.ref 24),(.type "ValueError"),(.type "Exception"),(.type "BaseException"),(.type "object")],23,"LeafError",true,[],[(.ref 37),(.ref 49),(.ref 61),(.ref 73),(.ref 85),(.ref 97),(.ref 109),(.ref 121)],false,none,false⟩),#[(some (.ref 15)),none,(some (.str "LeafError" 189)),(some (.str "LeafError" 197)),(some (.builtin "ValueError.__new__")),(some (.bool true))]⟩),
 (36,⟨(.type "dict"),none,(.dict #[en P "__module__" 214 (.str "leaffold.errors" 187),en P "__firstlineno__" 218 (.int 4 217),en P "__static_attributes__" 219 (.ref 35),en P "__doc__" 220 .none] 2),#[]⟩),
 (37,⟨(.type "type"),none,(.cls ⟨"NoSheet",[(.ref 24)],[(.ref 37),(.ref 24),(.type "ValueError"),(.type "Exception"),(.type "BaseException"),(.type "object")],36,"NoSheet",true,[],[],false,none,false⟩),#[(some (.ref 28)),none,(some (.str "NoSheet" 207)),(some (.str "NoSheet" 215)),(some (.builtin "ValueError.__new__")),(some (.bool true))]⟩),
 (48,⟨(.type "dict"),none,(.dict #[en P "__module__" 230 (.str "leaffold.errors" 187),en P "__firstlineno__" 234 (.int 6 233),en P "__static_attributes__" 235 (.ref 47),en P "__doc__" 236 .none] 2),#[]⟩),
 (49,⟨(.type "type"),none,(.cls ⟨"NoFold",[(.ref 24)],[(.ref 49),(.ref 24),(.type "ValueError"),(.type "Exception"),(.type "BaseException"),(.type "object")],48,"NoFold",true,[],[],false,none,false⟩),#[(some (.ref 40)),none,(some (.str "NoFold" 223)),(some (.str "NoFold" 231)),(some (.builtin "ValueError.__new__")),(some (.bool true))]⟩),
 (60,⟨(.type "dict"),none,(.dict #[en P "__module__" 246 (.str "leaffold.errors" 187),en P "__firstlineno__" 250 (.int 8 249),en P "__static_attributes__" 251 (.ref 59),en P "__doc__" 252 .none] 2),#[]⟩),
 (61,⟨(.type "type"),none,(.cls ⟨"NoPlace",[(.ref 24)],[(.ref 61),(.ref 24),(.type "ValueError"),(.type "Exception"),(.type "BaseException"),(.type "object")],60,"NoPlace",true,[],[],false,none,false⟩),#[(some (.ref 52)),none,(some (.str "NoPlace" 239)),(some (.str "NoPlace" 247)),(some (.builtin "ValueError.__new__")),(some (.bool true))]⟩),
 (72,⟨(.type "dict"),none,(.dict #[en P "__module__" 262 (.str "leaffold.errors" 187),en P "__firstlineno__" 266 (.int 10 265),en P "__static_attributes__" 267 (.ref 71),en P "__doc__" 268 .none] 2),#[]⟩),
 (73,⟨(.type "type"),none,(.cls ⟨"Ajar",[(.ref 24)],[(.ref 73),(.ref 24),(.type "ValueError"),(.type "Exception"),(.type "BaseException"),(.type "object")],72,"Ajar",true,[],[],false,none,false⟩),#[(some (.ref 64)),none,(some (.str "Ajar" 255)),(some (.str "Ajar" 263)),(some (.builtin "ValueError.__new__")),(some (.bool true))]⟩),
 (84,⟨(.type "dict"),none,(.dict #[en P "__module__" 278 (.str "leaffold.errors" 187),en P "__firstlineno__" 282 (.int 12 281),en P "__static_attributes__" 283 (.ref 83),en P "__doc__" 284 .none] 2),#[]⟩),
 (85,⟨(.type "type"),none,(.cls ⟨"Severed",[(.ref 24)],[(.ref 85),(.ref 24),(.type "ValueError"),(.type "Exception"),(.type "BaseException"),(.type "object")],84,"Severed",true,[],[],false,none,false⟩),#[(some (.ref 76)),none,(some (.str "Severed" 271)),(some (.str "Severed" 279)),(some (.builtin "ValueError.__new__")),(some (.bool true))]⟩),
 (96,⟨(.type "dict"),none,(.dict #[en P "__module__" 294 (.str "leaffold.errors" 187),en P "__firstlineno__" 298 (.int 14 297),en P "__static_attributes__" 299 (.ref 95),en P "__doc__" 300 .none] 2),#[]⟩),
 (97,⟨(.type "type"),none,(.cls ⟨"Bolted",[(.ref 24)],[(.ref 97),(.ref 24),(.type "ValueError"),(.type "Exception"),(.type "BaseException"),(.type "object")],96,"Bolted",true,[],[],false,none,false⟩),#[(some (.ref 88)),none,(some (.str "Bolted" 287)),(some (.str "Bolted" 295)),(some (.builtin "ValueError.__new__")),(some (.bool true))]⟩),
 (108,⟨(.type "dict"),none,(.dict #[en P "__module__" 310 (.str "leaffold.errors" 187),en P "__firstlineno__" 314 (.int 16 313),en P "__static_attributes__" 315 (.ref 107),en P "__doc__" 316 .none] 2),#[]⟩),
 (109,⟨(.type "type"),none,(.cls ⟨"Loose",[(.ref 24)],[(.ref 109),(.ref 24),(.type "ValueError"),(.type "Exception"),(.type "BaseException"),(.type "object")],108,"Loose",true,[],[],false,none,false⟩),#[(some (.ref 100)),none,(some (.str "Loose" 303)),(some (.str "Loose" 311)),(some (.builtin "ValueError.__new__")),(some (.bool true))]⟩),
 (120,⟨(.type "dict"),none,(.dict #[en P "__module__" 326 (.str "leaffold.errors" 187),en P "__firstlineno__" 330 (.int 18 329),en P "__static_attributes__" 331 (.ref 119),en P "__doc__" 332 .none] 2),#[]⟩),
 (121,⟨(.type "type"),none,(.cls ⟨"NoWord",[(.ref 24)],[(.ref 121),(.ref 24),(.type "ValueError"),(.type "Exception"),(.type "BaseException"),(.type "object")],120,"NoWord",true,[],[],false,none,false⟩),#[(some (.ref 112)),none,(some (.str "NoWord" 319)),(some (.str "NoWord" 327)),(some (.builtin "ValueError.__new__")),(some (.bool true))]⟩),
 (124,⟨(.type "tuple"),none,(.seq #[(.str "west" 335),(.str "east" 336)] 0),#[]⟩),
 (125,⟨(.type "tuple"),none,(.seq #[(.str "north" 338),(.str "south" 339)] 0),#[]⟩),
 (126,⟨(.type "dict"),none,(.dict #[en P "over" 343 (.bool true),en P "under" 344 (.bool false)] 2),#[]⟩),
 (130,oC #[.str "read" 352,.str "read" 353,cF 354,j 26,j 1,j 0,j 0,j 3,l 127,(.bool true),j 181,l 128,.none,.none,.none,l 129,j 355,j 26,cF 356]),
 (131,oF fd_13z),
 (137,oC #[.str "read_fold" 358,.str "read_fold" 359,cF 360,j 30,j 1,j 0,j 0,j 3,l 132,(.bool true),j 181,l 133,.none,l 134,l 135,l 136,j 363,j 30,cF 364]),
 (138,oF fd_9z),
 (142,oC #[.str "read_crease" 366,.str "read_crease" 367,cF 368,j 35,j 1,j 0,j 0,j 3,l 139,(.bool true),j 181,l 140,.none,.none,.none,l 141,j 369,j 35,cF 370]),
 (143,oF fd_5z),
 (149,oC #[.str "_law_cell_at" 374,.str "_law_cell_at" 375,cF 376,j 42,j 2,j 0,j 0,j 3,l 144,(.bool true),j 181,l 145,.none,l 146,l 147,l 148,j 379,j 42,cF 380]),
 (150,oF fd_2z),
 (156,oC #[.str "_law_whole" 382,.str "_law_whole" 383,cF 384,j 46,j 1,j 0,j 0,j 3,l 151,(.bool true),j 181,l 152,.none,l 153,l 154,l 155,j 386,j 46,cF 387]),
 (157,oF fd_8z),
 (163,oC #[.str "_law_same_folds" 389,.str "_law_same_folds" 390,cF 391,j 48,j 2,j 0,j 0,j 3,l 158,(.bool true),j 181,l 159,.none,l 160,l 161,l 162,j 396,j 48,cF 397]),
 (164,oF fd_0z),
 (170,oC #[.str "_law_row_by" 399,.str "_law_row_by" 400,cF 401,j 58,j 3,j 0,j 0,j 3,l 165,(.bool true),j 181,l 166,.none,l 167,l 168,l 169,j 408,j 58,cF 409]),
 (171,oF fd_6z),
 (177,oC #[.str "_law_written" 411,.str "_law_written" 412,cF 413,j 64,j 1,j 0,j 0,j 3,l 172,(.bool true),j 181,l 173,.none,l 174,l 175,l 176,j 416,j 64,cF 417]),
 (178,oF fd_4z),
 (184,oC #[.str "_law_spoilt" 419,.str "_law_spoilt" 420,cF 421,j 67,j 2,j 0,j 0,j 3,l 179,(.bool true),j 181,l 180,.none,l 181,l 182,l 183,j 428,j 67,cF 429]),
 (185,oF fd_7z),
 (191,oC #[.str "_law_word_of" 431,.str "_law_word_of" 432,cF 433,j 83,j 1,j 0,j 0,j 3,l 186,(.bool true),j 181,l 187,.none,l 188,l 189,l 190,j 436,j 83,cF 437]),
 (192,oF fd_3z),
 (198,oC #[.str "_law_refused" 439,.str "_law_refused" 440,cF 441,j 89,j 1,j 0,j 0,j 3,l 193,(.bool true),j 181,l 194,.none,l 195,l 196,l 197,j 444,j 89,cF 445]),
 (199,oF fd_1z),
 (203,oC #[.str "law" 447,.str "law" 448,cF 449,j 95,j 1,j 0,j 0,j 3,l 200,(.bool true),j 181,l 201,.none,.none,.none,l 202,j 450,j 95,cF 451]),
 (204,oF fd_14z)]
noncomputable def aas:List Addr:=[3,23,24,36,37,48,49,60,61,72,73,84,85,96,97,108,109,120,121,124,125,126,130,131,137,138,142,143,149,150,156,157,163,164,170,171,177,178,184,185,191,192,198,199,203,204]
theorem kk_as:∀ P,aas=(KK P).map (·.1):=fun _=>by kernel_rfl
abbrev lw:PySem.W.OpenLaw:=PySem.Challenge.rw_leaffold_k14_read
abbrev HH:PySem.W.Hook:=PySem.W.kHook KK aas kk_as
open PySem.W PyProof.Rows
noncomputable def vw:Program:=view lw.prog [1,2,3,4,5,6,7,8,9,10,11,13,14,15,16,17,18,20,21,22,23,24,25,26,27,28]
abbrev Xt (s:Shared):Bool:=xlAt vw [] s&&recOk (RowW.records (OpenRow.toRowW (OpenLaw.row lw))) s
set_option maxHeartbeats 0 in
theorem left_of_boot {p q:Program} {loose:List Str} {Xt:Shared→Bool} {α:Type} {Yf:Shared→α} {Ya:World→α} {N:Nat} {g0:Bool} (open_:∀ w:World,(fencedOpening treeTable p w N).map (fun s=>(s.heap,s.gens,s.drawn,s.toks))=some (boot_heap w.params,Array.mk [],boot_drawn,boot_toks))
  (h:∀ (w:World) (os:OsState),(topFrom treeTable p w N ⟨boot_heap w.params,Array.mk [],boot_drawn,boot_toks,os⟩).map (fun s=>(openSeen q loose (importedModules p.main.body) Xt g0 s,Yf s))=some (openGood q loose,Ya w)):LeftO p q loose Xt Yf Ya N g0:=fun w=>by
 obtain ⟨⟨hp,gs,d,k,os⟩,e,e'⟩:=Option.map_eq_some_iff.mp (open_ w)
 obtain ⟨rfl,rfl,rfl,rfl⟩:hp=boot_heap w.params∧gs=Array.mk []∧d=boot_drawn∧k=boot_toks:=by simpa using e'
 unfold openEnds
 rw [e]
 exact h w os
set_option maxHeartbeats 0 in
theorem leftF (w:World) (os:OsState):(topFrom treeTable lw.prog (w.withFollow "special-get-raises" false) 4834 ⟨boot_heap (w.withFollow "special-get-raises" false).params,Array.mk [],boot_drawn,boot_toks,os⟩).map (fun s=>(openSeen vw (["WAYS"]:List Str) (importedModules lw.prog.main.body) Xt true s,Hook.obs HH s))=some (openGood vw (["WAYS"]:List Str),Hook.val HH (w.withFollow "special-get-raises" false)):=by
 unfold topFrom
 rewrite [Fast.te14082659384304107361,Fast.te4187177175401517315]
 kernel_rfl
set_option maxHeartbeats 0 in
theorem leftT (w:World) (os:OsState):(topFrom treeTable lw.prog (w.withFollow "special-get-raises" true) 4834 ⟨boot_heap (w.withFollow "special-get-raises" true).params,Array.mk [],boot_drawn,boot_toks,os⟩).map (fun s=>(openSeen vw (["WAYS"]:List Str) (importedModules lw.prog.main.body) Xt true s,Hook.obs HH s))=some (openGood vw (["WAYS"]:List Str),Hook.val HH (w.withFollow "special-get-raises" true)):=by
 unfold topFrom
 rewrite [Fast.te14082659384304107361,Fast.te4187177175401517315]
 kernel_rfl
theorem left:LeftO lw.prog vw (["WAYS"]:List Str) Xt (Hook.obs HH) (Hook.val HH) 4834:=by
 refine left_of_boot (boot_open rfl rfl fun s=>rfl) fun w os=>?_
 have e:=World.withFollow_self w "special-get-raises"
 cases hb:w.params.followText "special-get-raises" with
 | false =>
  rw [hb] at e
  have h:=leftF w os
  rw [e] at h
  exact h
 | true =>
  rw [hb] at e
  have h:=leftT w os
  rw [e] at h
  exact h
end Toy
namespace Z
open PySem
inductive D where
 | non
 | bl (b:Bool)
 | int (i:Int)
 | str (x:Str)
 | lst (xs:List D)
 | tup (xs:List D)
 | obj (c:Str) (fs:List (Str × D))
 | exc (c:Str)
 | dct (kvs:List (Int × D))
 /-- a list that is read alone: the script,a list of the module -/
 | frz (xs:List D)
noncomputable def valI (kvs:List (Int × D)) (k:Int):Option D:=(kvs.find? fun kv=>decide (kv.1=k)).map (·.2)
noncomputable def putI (kvs:List (Int × D)) (k:Int) (d:D):List (Int × D):=if kvs.any (fun kv=>decide (kv.1=k)) then kvs.map (fun kv=>if kv.1=k then (kv.1,d) else kv) else kvs++[(k,d)]
inductive Lit where
 | non|bl (b:Bool)|int (i:Int)|str (x:Str)
noncomputable def Lit.d:Lit→D
 | .non=>.non
 | .bl b=>.bl b
 | .int i=>.int i
 | .str x=>.str x
inductive Rs where
 | ok (d:D)
 | er (c:Str)
mutual
/-- Python's == on plain trees -/
noncomputable def deq:D→D→Bool
 | .non,.non=>true
 | .bl a,.bl b=>a == b
 | .bl a,.int b=>(if a then 1 else 0) == b
 | .int a,.bl b=>a == (if b then 1 else 0)
 | .int a,.int b=>a == b
 | .str a,.str b=>a == b
 | .lst a,.lst b=>deqs a b
 | .tup a,.tup b=>deqs a b
 | _,_=>false
noncomputable def deqs:List D→List D→Bool
 | [],[]=>true
 | x::xs,y::ys=>deq x y&&deqs xs ys
 | _,_=>false
end
noncomputable def okS (x:Str):Bool:=x.cps.all (· < 0x110000)
noncomputable def flat:Nat→D→Bool
 | _,.non=>true
 | _,.bl _=>true
 | _,.int _=>true
 | _,.str x=>okS x
 | n+1,.lst xs=>xs.all (flat n)
 | n+1,.tup xs=>xs.all (flat n)
 | _,_=>false
noncomputable def plain (d:D):Bool:=flat 8 d
noncomputable def tru:D→Option Bool
 | .non=>some false
 | .bl b=>some b
 | .int i=>some (i != 0)
 | .lst xs=>some (!xs.isEmpty)
 | .tup xs=>some (!xs.isEmpty)
 | .frz xs=>some (!xs.isEmpty)
 | _=>none
inductive O2 where
 | add|sub|mul|fdiv|mod|pow|eq|ne|lt|le|gt|ge|isin|notin|is|isnot
noncomputable def big:Nat:=1000000
noncomputable def ixN (n:Nat) (i:Int):Option Nat:=if 0≤i then (if i<n then some i.toNat else none) else if -(n:Int)≤i then some (i+n).toNat else none
noncomputable def atI {α:Type} (xs:List α) (i:Int):Option α:=(ixN xs.length i).bind fun j=>xs[j]?
noncomputable def sIx (n d:Nat):Option Int→Nat
 | none=>d
 | some v=>if v<0 then (v+(n:Int)).toNat else min v.toNat n
noncomputable def cut {α:Type} (xs:List α) (lo hi:Option Int):List α:=(xs.drop (sIx xs.length 0 lo)).take (sIx xs.length xs.length hi-sIx xs.length 0 lo)
noncomputable def isD:D→D→Option Bool
 | .non,.non=>some true
 | .bl _,.non=>some false
 | .int _,.non=>some false
 | .str _,.non=>some false
 | .lst _,.non=>some false
 | .tup _,.non=>some false
 | .obj _ _,.non=>some false
 | .bl a,.bl b=>some (a == b)
 | _,_=>none
noncomputable def oAdd:D→D→Option D
 | .int i,.int j=>some (.int (i+j))
 | .str x,.str y=>if x.length+y.length≤big then some (.str (x++y)) else none
 | .lst xs,.lst ys=>if xs.length+ys.length≤big then some (.lst (xs++ys)) else none
 | .tup xs,.tup ys=>if xs.length+ys.length≤big then some (.tup (xs++ys)) else none
 | _,_=>none
noncomputable def oSub:D→D→Option D
 | .int i,.int j=>some (.int (i-j))
 | _,_=>none
noncomputable def oMul:D→D→Option D
 | .int i,.int j=>if (-(2 ^ 64)<i∧i<2 ^ 64)∨(-(2 ^ 64)<j∧j<2 ^ 64) then some (.int (i*j)) else none
 | _,_=>none
noncomputable def oDiv:D→D→Option D
 | .int i,.int j=>if 0<j∧j<1073741824 then some (.int (i / j)) else none
 | _,_=>none
noncomputable def oMod:D→D→Option D
 | .int i,.int j=>if 0<j then some (.int (i % j)) else none
 | _,_=>none
noncomputable def oPow:D→D→Option D
 | .int i,.int j=>if 0≤j∧j≤1000∧i.natAbs<2 ^ 64 then some (.int (i ^ j.toNat)) else none
 | _,_=>none
noncomputable def oEq (a b:D):Option D:=if plain a&&plain b then some (.bl (deq a b)) else none
noncomputable def oNe (a b:D):Option D:=if plain a&&plain b then some (.bl (!deq a b)) else none
noncomputable def oLt:D→D→Option D
 | .int i,.int j=>some (.bl (decide (i<j)))
 | _,_=>none
noncomputable def oLe:D→D→Option D
 | .int i,.int j=>some (.bl (decide (i≤j)))
 | _,_=>none
noncomputable def oGt:D→D→Option D
 | .int i,.int j=>some (.bl (decide (j<i)))
 | _,_=>none
noncomputable def oGe:D→D→Option D
 | .int i,.int j=>some (.bl (decide (j≤i)))
 | _,_=>none
noncomputable def oIn (a:D):D→Option D
 | .lst ys=>if plain a&&ys.all plain then some (.bl (ys.any fun y=>deq y a)) else none
 | .tup ys=>if plain a&&ys.all plain then some (.bl (ys.any fun y=>deq y a)) else none
 | .str y=>match a with | .str x=>some (.bl (!(Builtin.Str.occurrences y x 0 y.length 1).isEmpty))|_=>none
 | _=>none
noncomputable def oNotIn (a:D):D→Option D
 | .lst ys=>if plain a&&ys.all plain then some (.bl (!ys.any fun y=>deq y a)) else none
 | .tup ys=>if plain a&&ys.all plain then some (.bl (!ys.any fun y=>deq y a)) else none
 | _=>none
noncomputable def oIs (a b:D):Option D:=(isD a b).map .bl
noncomputable def oIsNot (a b:D):Option D:=(isD a b).map fun k=>.bl (!k)
noncomputable def op2 (o:O2) (a b:D):Option D:=match o with
 | .add=>oAdd a b
 | .sub=>oSub a b
 | .mul=>oMul a b
 | .fdiv=>oDiv a b
 | .mod=>oMod a b
 | .pow=>oPow a b
 | .eq=>oEq a b
 | .ne=>oNe a b
 | .lt=>oLt a b
 | .le=>oLe a b
 | .gt=>oGt a b
 | .ge=>oGe a b
 | .isin=>oIn a b
 | .notin=>oNotIn a b
 | .is=>oIs a b
 | .isnot=>oIsNot a b
inductive BF where
 | len|int|list|tuple|max|min|str|sorted|any
 | all
noncomputable def intsD:List D→Option (List Int)
 | []=>some []
 | .int i::r=>(intsD r).map (i :: ·)
 | _::_=>none
noncomputable def maxI:Int→List Int→Int
 | m,[]=>m
 | m,x::r=>maxI (if x > m then x else m) r
noncomputable def minI:Int→List Int→Int
 | m,[]=>m
 | m,x::r=>minI (if x<m then x else m) r
noncomputable def fLen:List D→Option D
 | [.lst xs]=>some (.int xs.length)
 | [.tup xs]=>some (.int xs.length)
 | [.frz xs]=>some (.int xs.length)
 | [.str x]=>if x.length≤big then some (.int x.length) else none
 | _=>none
noncomputable def fInt:List D→Option D
 | [.int i]=>some (.int i)
 | [.bl b]=>some (.int (if b then 1 else 0))
 | [.str x]=>if x.length≤640 then (PySem.intText? x).map .int else none
 | _=>none
noncomputable def strsD:List D→Option (List Str)
 | []=>some []
 | .str x::r=>(strsD r).map (x :: ·)
 | _::_=>none
noncomputable def boolsD:List D→Option (List Bool)
 | []=>some []
 | .bl x::r=>(boolsD r).map (x :: ·)
 | _::_=>none
noncomputable def fAll:List D→Option D
 | [.lst xs]=>(boolsD xs).map fun bs=>.bl (bs.all id)
 | _=>none
noncomputable def txtD:D→Option Str
 | .str x=>some x
 | .int i=>if i.natAbs.log2<1920 then some (toString i) else none
 | _=>none
noncomputable def fStr:List D→Option D
 | [.int i]=>if i.natAbs.log2<1920 then some (.str (toString i)) else none
 | _=>none
noncomputable def fJoin:List D→Option D
 | [.str sep,.lst xs]=>(strsD xs).bind fun ys=>if (ys.map (·.length)).sum+ys.length*sep.length≤big then some (.str (Txt.join sep ys)) else none
 | _=>none
noncomputable def fSplit:List D→Option D
 | [.str x,.str y]=>if (y.length == 0)=false∧x.length+2≤big then some (.lst ((Txt.split x y).map .str)) else none
 | _=>none
noncomputable def fStarts:List D→Option D
 | [.str x,.str y]=>some (.bl (Txt.startswith x y))
 | _=>none
noncomputable def fUpper:List D→Option D
 | [.str x]=>if x.length≤1000 then some (.str (Txt.upper x)) else none
 | _=>none
noncomputable def slTxt (x:Str):Option Int→Option Int→Option D
 | none,some j=>if x.length≤big then some (.str (Txt.slice x none (some j))) else none
 | _,_=>none
noncomputable def fRepl (y z:Str):D→Option D
 | .str x=>if x.length≤100000∧z.length≤14 then some (.str (Txt.replace x y z)) else none
 | _=>none
noncomputable def smD (m:Str) (ds:List D):Option D:=if m = "join" then fJoin ds else if m = "split" then fSplit ds else if m = "startswith" then fStarts ds else if m = "upper" then fUpper ds else none
noncomputable def catD:Str→List D→Option Str
 | out,[]=>some out
 | out,d::r=>(txtD d).bind fun y=>if (out++y).length≤big then catD (out++y) r else none
noncomputable def fList:List D→Option D
 | [.lst xs]=>some (.lst xs)
 | [.tup xs]=>some (.lst xs)
 | [.frz xs]=>some (.lst xs)
 | _=>none
noncomputable def fTuple:List D→Option D
 | [.lst xs]=>some (.tup xs)
 | [.tup xs]=>some (.tup xs)
 | _=>none
noncomputable def fMax:List D→Option D
 | [.int i,.int j]=>some (.int (if j > i then j else i))
 | [.lst xs]=>match intsD xs with|some (i::r)=>some (.int (maxI i r))|_=>none
 | _=>none
noncomputable def fMin:List D→Option D
 | [.int i,.int j]=>some (.int (if j<i then j else i))
 | [.lst xs]=>match intsD xs with|some (i::r)=>some (.int (minI i r))|_=>none
 | _=>none
noncomputable def pairsD:List D→Option (List (Int × Int))
 | []=>some []
 | .tup [.int a,.int b]::r=>(pairsD r).map ((a,b) :: ·)
 | _::_=>none
noncomputable def dPair (p:Int × Int):D:=.tup [.int p.1,.int p.2]
noncomputable def pLt (x y:Int × Int):Bool:=decide (x.1<y.1) || (x.1 == y.1&&decide (x.2<y.2))
noncomputable def insP (x:Int × Int):List (Int × Int)→List (Int × Int)
 | []=>[x]
 | y::r=>if pLt x y then x::y::r else y::insP x r
noncomputable def sortP:List (Int × Int)→List (Int × Int)
 | []=>[]
 | x::r=>insP x (sortP r)
noncomputable def canSort (ps:List (Int × Int)):Bool:=decide (ps.length≤64)&&decide ps.Nodup
noncomputable def sortD (ds:List D):Option (List D):=match pairsD ds with
 | some ps=>if canSort ps then some ((sortP ps).map dPair) else none
 | none=>match intsD ds with
  | some is=>if canSort (is.map fun i=>(i,0)) then some ((sortP (is.map fun i=>(i,0))).map fun p=>.int p.1) else none
  | none=>none
noncomputable def fSorted:List D→Option D
 | [.lst xs]=>(sortD xs).map .lst
 | _=>none
noncomputable def bf (b:BF) (ds:List D):Option D:=match b with
 | .sorted=>fSorted ds
 | .len=>fLen ds
 | .int=>fInt ds
 | .list=>fList ds
 | .tuple=>fTuple ds
 | .max=>fMax ds
 | .min=>fMin ds
 | .str=>fStr ds
 | .all=>fAll ds
 | _=>none
inductive Src where
 | seq|rng|rev|enum|rvr
noncomputable def rangeD (lo hi:Int):List D:=(List.range (hi-lo).toNat).map fun (k:Nat)=>D.int (lo+k)
noncomputable def enumD:Nat→List D→List D
 | _,[]=>[]
 | k,x::r=>.tup [.int k,x]::enumD (k+1) r
noncomputable def small62 (i:Int):Bool:=decide (-(2 ^ 62)≤i)&&decide (i<2 ^ 62)
noncomputable def charsD (x:Str):List D:=x.cps.toList.map fun c=>.str ⟨#[c]⟩
noncomputable def itSeq:D→Option (List D)
 | .lst xs=>some xs
 | .str x=>if x.length≤big then some (charsD x) else none
 | .tup xs=>some xs
 | .frz xs=>some xs
 | _=>none
noncomputable def itRng:List D→Option (List D)
 | [.int j]=>if small62 j&&decide (j.toNat≤big) then some (rangeD 0 j) else none
 | [.int i,.int j]=>if small62 i&&small62 j&&decide ((j-i).toNat≤big) then some (rangeD i j) else none
 | _=>none
noncomputable def itRvr:List D→Option (List D)
 | [.int j]=>if decide (0≤j)&&decide (j.toNat≤big) then some (rangeD 0 j).reverse else none
 | _=>none
noncomputable def itRev:D→Option (List D)
 | .lst xs=>some xs.reverse
 | _=>none
noncomputable def itEnum:D→Option (List D)
 | .lst xs=>some (enumD 0 xs)
 | _=>none
noncomputable def items (k:Src) (d:D):Option (List D):=match k with
 | .seq=>itSeq d
 | .rng=>match d with
  | .tup as=>itRng as
  | _=>none
 | .rev=>itRev d
 | .enum=>itEnum d
 | .rvr=>match d with
  | .tup as=>itRvr as
  | _=>none
set_option genSizeOf false
set_option genInjectivity false
inductive IE where
 | var (i:Nat)
 | lit (l:Lit)
 | glo (x:Str)
 | bin (o:O2) (a b:IE)
 | neg (a:IE)
 | and (a b:IE)
 | or (a b:IE)
 | not (a:IE)
 | tr (a:IE)
 | ite (c a b:IE)
 | chain (o o':O2) (a b c:IE)
 | nil
 | cons (e es:IE)
 | tup (es:IE)
 | lst (es:IE)
 | ix (a i:IE)
 | ixm (x:Nat) (i:IE)
 | lenm (x:Nat)
 | sortm (x:Nat)
 | sl (a:IE) (bl:Bool) (lo:IE) (bh:Bool) (hi:IE)
 | slm (x:Nat) (bl:Bool) (lo:IE) (bh:Bool) (hi:IE)
 | fld (a:IE) (f:Str)
 | call (f:Str) (es:IE)
 | meth (o:IE) (m:Str) (es:IE)
 | mk (c:Str) (es:IE)
 | bcall (b:BF) (es:IE)
 | isi (a:IE) (t:Str)
 | walk (k:Src) (a:IE)
 | comp (n:Nat) (fr:List (Nat × Nat)) (tg:List Nat) (tp:Bool) (k:Src) (src test elt:IE)
 /-- in,not in a dict of texts that the module holds -/
 | inC (neg:Bool) (x:Str) (a:IE)
 /-- an item of such a dict; a text with parts in braces -/
 | ixC (x:Str) (a:IE)
 | fst (es:IE)
 /-- a.replace(y,z) if b > i else e -/
 | repl (b:IE) (i:Int) (a:IE) (y z:Str) (e:IE)
set_option genInjectivity true
inductive Sl where
 | un
 | im (d:D)
 | mu (d:D)
structure GS where
 fn:Str→List D→Option Rs
 ff:Str→Bool
 me:Str→Str→List D→Option Rs
 mf:Str→Str→Bool
 mo:Str→List D→Option Rs
 cst:Str→Option D
 sub:Str→Str→Bool
 fl:Str→List Str
 /-- the classes of errors that are known; the word that a def tells of an error -/
 xn:Str→Bool
 wd:Str→Str→Option Str
 /-- dicts of texts -/
 dk:Str→Option (List (Str × D))
noncomputable def isiD (G:GS) (t:Str):D→Option Bool
 | .non=>if t = "int"∨t = "bool"∨t = "str"∨t = "list"∨t = "tuple" then some false else none
 | .bl _=>if t = "int"∨t = "bool" then some true else if t = "str"∨t = "list"∨t = "tuple" then some false else none
 | .int _=>if t = "int" then some true else if t = "bool"∨t = "str"∨t = "list"∨t = "tuple" then some false else none
 | .str _=>if t = "str" then some true else if t = "int"∨t = "bool"∨t = "list"∨t = "tuple" then some false else none
 | .lst _=>if t = "list" then some true else if t = "int"∨t = "bool"∨t = "str"∨t = "tuple" then some false else none
 | .tup _=>if t = "tuple" then some true else if t = "int"∨t = "bool"∨t = "str"∨t = "list" then some false else none
 | _=>none
noncomputable def slot (ρ:List Sl) (i:Nat):Option D:=match ρ[i]? with
 | some (.im d)=>some d
 | _=>none
noncomputable def slotL (ρ:List Sl) (i:Nat):Option (List D):=match ρ[i]? with
 | some (.im (.lst ds))=>some ds
 | some (.mu (.lst ds))=>some ds
 | _=>none
noncomputable def okOf:Option Rs→Option D
 | some (.ok d)=>some d
 | _=>none
noncomputable def argsOf:Option D→Option (List D)
 | some (.tup ds)=>some ds
 | _=>none
noncomputable def intOf:Option D→Option Int
 | some (.int b)=>some b
 | _=>none
noncomputable def frame (n:Nat) (fr:List (Nat × Nat)) (ρ:List Sl):List Sl:=(List.range n).map fun i=>match fr.lookup i with
 | some j=>ρ.getD j .un
 | none=>.un
noncomputable def bindEach:List Nat→List D→List Sl→Option (List Sl)
 | [],[],ρ=>some ρ
 | i::is,d::ds,ρ=>bindEach is ds (ρ.set i (.im d))
 | _,_,_=>none
noncomputable def bindT (tg:List Nat) (tp:Bool) (d:D) (ρ:List Sl):Option (List Sl):=
 if tp then (match d with | .tup ds=>bindEach tg ds ρ|_=>none) else bindEach tg [d] ρ
noncomputable def compGo (f:D→Option (Option D)):List D→Option (List D)
 | []=>some []
 | d::r=>do
  let o ← f d
  let t ← compGo f r
  match o with
  | some y=>some (y::t)
  | none=>some t
noncomputable def part (b:Bool) (o:Option D):Option (Option Int):=if b then (intOf o).map some else some none
noncomputable def ev (G:GS):IE→List Sl→Option D
 | .var i,ρ=>slot ρ i
 | .lit l,_=>some l.d
 | .glo x,_=>G.cst x
 | .bin o a b,ρ=>do op2 o (← ev G a ρ) (← ev G b ρ)
 | .neg a,ρ=>do match ← ev G a ρ with | .int i=>some (.int (-i))|_=>none
 | .and a b,ρ=>do match ← ev G a ρ with | .bl true=>(match ← ev G b ρ with | .bl k=>some (.bl k)|_=>none) | .bl false=>some (.bl false)|_=>none
 | .or a b,ρ=>do match ← ev G a ρ with | .bl false=>(match ← ev G b ρ with | .bl k=>some (.bl k)|_=>none) | .bl true=>some (.bl true)|_=>none
 | .not a,ρ=>do match ← ev G a ρ with | .bl k=>some (.bl (!k))|_=>none
 | .tr a,ρ=>do (tru (← ev G a ρ)).map .bl
 | .ite c a b,ρ=>do match ← ev G c ρ with | .bl true=>ev G a ρ | .bl false=>ev G b ρ|_=>none
 | .chain o o' a b c,ρ=>do
  let y ← ev G b ρ
  match ← op2 o (← ev G a ρ) y with
  | .bl true=>op2 o' y (← ev G c ρ)
  | .bl false=>some (.bl false)
  | _=>none
 | .nil,_=>some (.tup [])
 | .cons e es,ρ=>do
  let d ← ev G e ρ
  match ← ev G es ρ with
  | .tup ds=>some (.tup (d::ds))
  | _=>none
 | .tup es,ρ=>(argsOf (ev G es ρ)).map .tup
 | .lst es,ρ=>(argsOf (ev G es ρ)).map .lst
 | .ix a i,ρ=>do
  match ← ev G a ρ,← ev G i ρ with
  | .lst xs,.int k=>atI xs k
  | .tup xs,.int k=>atI xs k
  | .frz xs,.int k=>atI xs k
  | .dct kvs,.int k=>valI kvs k
  | _,_=>none
 | .ixm x i,ρ=>do atI (← slotL ρ x) (← intOf (ev G i ρ))
 | .lenm x,ρ=>do some (.int (← slotL ρ x).length)
 | .sortm x,ρ=>do fSorted [.lst (← slotL ρ x)]
 | .sl a bl lo bh hi,ρ=>do
  let d ← ev G a ρ
  let l ← part bl (ev G lo ρ)
  let h ← part bh (ev G hi ρ)
  match d with
  | .lst xs=>some (.lst (cut xs l h))
  | .str x=>slTxt x l h
  | .frz xs=>some (.lst (cut xs l h))
  | .tup xs=>if sIx xs.length 0 l=0∧sIx xs.length xs.length h=xs.length then none else some (.tup (cut xs l h))
  | _=>none
 | .slm x bl lo bh hi,ρ=>do
  let xs ← slotL ρ x
  let l ← part bl (ev G lo ρ)
  let h ← part bh (ev G hi ρ)
  some (.lst (cut xs l h))
 | .fld a f,ρ=>do match ← ev G a ρ with | .obj c fs=>if (G.fl c).contains f then fs.lookup f else none|_=>none
 | .call f es,ρ=>do okOf (G.fn f (← argsOf (ev G es ρ)))
 | .meth o m es,ρ=>do match ← ev G o ρ with | .obj c fs=>(if (fs.lookup m).isNone then (argsOf (ev G es ρ)).bind fun as=>okOf (G.me c m (.obj c fs::as)) else none) | .str x=>(argsOf (ev G es ρ)).bind fun as=>smD m (.str x::as)|_=>none
 | .mk c es,ρ=>do okOf (G.mo c (← argsOf (ev G es ρ)))
 | .bcall b es,ρ=>do bf b (← argsOf (ev G es ρ))
 | .isi a t,ρ=>do (isiD G t (← ev G a ρ)).map .bl
 | .walk k a,ρ=>do (items k (← ev G a ρ)).map .lst
 | .comp n fr tg tp k src test elt,ρ=>do
  let ds ← items k (← ev G src ρ)
  (compGo (fun d=>do
   let ρ1 ← bindT tg tp d (frame n fr ρ)
   match ← ev G test ρ1 with
   | .bl true=>(ev G elt ρ1).map some
   | .bl false=>some none
   | _=>none) ds).map .lst
 | .ixC x a,ρ=>do match ← ev G a ρ with | .str s=>(G.dk x).bind fun kvs=>kvs.lookup s|_=>none
 | .fst es,ρ=>(argsOf (ev G es ρ)).bind fun ds=>(catD Str.empty ds).map .str
 | .repl b i a y z e,ρ=>do match ← ev G b ρ with | .int k=>(if i<k then (ev G a ρ).bind (fRepl y z) else ev G e ρ)|_=>none
 | .inC neg x a,ρ=>do match ← ev G a ρ with | .str s=>(G.dk x).map fun kvs=>.bl (neg != (kvs.lookup s).isSome)|_=>none
noncomputable def evR (G:GS):IE→List Sl→Option Rs
 | .call f es,ρ=>(argsOf (ev G es ρ)).bind (G.fn f)
 | .meth o m es,ρ=>match ev G o ρ with
  | some (.obj c fs)=>if (fs.lookup m).isNone then (argsOf (ev G es ρ)).bind fun as=>G.me c m (.obj c fs::as) else none
  | _=>none
 | _,_=>none
inductive HR where
 | lit (l:Lit)
 | word (f:Str)
 | weq (f:Str) (x:Str)
noncomputable def hrD (G:GS) (c:Str):HR→Option D
 | .lit l=>some l.d
 | .word f=>(G.wd f c).map .str
 | .weq f x=>(G.wd f c).map fun y=>.bl (y == x)
noncomputable def errGo (f:D→Option Rs):List D→Option Str
 | []=>none
 | d::r=>(f d).bind fun o=>match o with
  | .ok _=>errGo f r
  | .er k=>some k
noncomputable def evX (G:GS):IE→List Sl→Option Str
 | .comp n fr tg tp k src (.lit (.bl true)) elt,ρ=>(ev G src ρ).bind fun s=>(items k s).bind fun ds=>errGo (fun d=>(bindT tg tp d (frame n fr ρ)).bind fun ρ1=>evR G elt ρ1) ds
 | .tup (.cons a (.cons b (.cons e .nil))),ρ=>(ev G a ρ).bind fun _=>(ev G b ρ).bind fun _=>(evR G e ρ).bind fun o=>match o with
  | .ok _=>none
  | .er k=>some k
 | _,_=>none
set_option genInjectivity false
inductive IS where
 | nop
 | seq (a b:IS)
 | ret (fr:Bool) (e:IE)
 | retx (fr:Bool) (e:IE)
 | retm (x:Nat)
 | retn
 | set (x:Nat) (e:IE)
 | setm (x:Nat) (e:IE)
 | setd (x:Nat)
 | sett (tg:List Nat) (e:IE)
 | par (x y:Nat) (a b:IE)
 | iff (c:IE) (a b:IS)
 | loop (tg:List Nat) (tp:Bool) (k:Src) (src:IE) (body:IS)
 | whl (c:IE) (body:IS)
 | app (x:Nat) (e:IE)
 | put (x:Nat) (k e:IE)
 | drop (e:IE)
 | frz (xs:List Nat) (st:IS)
 | rse (c:Str)
 | tryx (ce:IE) (hc:Str) (hb:Option Nat) (r:HR)
set_option genInjectivity true
inductive Out where
 | nx (ρ:List Sl)
 | rt (d:D)
 | bk (ρ:List Sl)
 | ct (ρ:List Sl)
 | er (c:Str)
noncomputable def forGo (bind:D→List Sl→Option (List Sl)) (body:List Sl→Option Out):List D→List Sl→Option Out
 | [],ρ=>some (.nx ρ)
 | d::r,ρ=>do
  let ρ1 ← bind d ρ
  match ← body ρ1 with
  | .nx ρ2=>forGo bind body r ρ2
  | .ct ρ2=>forGo bind body r ρ2
  | .bk ρ2=>some (.nx ρ2)
  | o=>some o
noncomputable def whileGo (test:List Sl→Option D) (body:List Sl→Option Out):Nat→List Sl→Option Out
 | 0,_=>none
 | n+1,ρ=>do
  match ← test ρ with
  | .bl true=>(match ← body ρ with
   | .nx ρ2=>whileGo test body n ρ2
   | .ct ρ2=>whileGo test body n ρ2
   | .bk ρ2=>some (.nx ρ2)
   | o=>some o)
  | .bl false=>some (.nx ρ)
  | _=>none
noncomputable def freeze1 (i:Nat) (ρ:List Sl):List Sl:=match ρ[i]? with
 | some (.mu d)=>ρ.set i (.im d)
 | _=>ρ
noncomputable def freeze:List Nat→List Sl→List Sl
 | [],ρ=>ρ
 | i::r,ρ=>freeze r (freeze1 i ρ)
noncomputable def view1:Sl→Sl
 | .mu d=>.im d
 | s=>s
noncomputable def view (ρ:List Sl):List Sl:=ρ.map view1
noncomputable def scal:D→Bool
 | .non=>true
 | .bl _=>true
 | .int _=>true
 | .str _=>true
 | _=>false
noncomputable def evs (G:GS) (e:IE) (ρ:List Sl):Option D:=match ev G e ρ with
 | some d=>some d
 | none=>match ev G e (view ρ) with
  | some d=>if scal d then some d else none
  | none=>none
noncomputable def putO (o:D) (i:Int) (d:D):Option D:=match o with
 | .lst ds=>(ixN ds.length i).map fun j=>.lst (ds.set j d)
 | .dct kvs=>if kvs.length<big then some (.dct (putI kvs i d)) else none
 | _=>none
noncomputable def ex (G:GS):IS→List Sl→Option Out
 | .nop,ρ=>some (.nx ρ)
 | .seq a b,ρ=>do
  match ← ex G a ρ with
  | .nx ρ'=>ex G b ρ'
  | o=>some o
 | .ret _ e,ρ=>(evs G e ρ).map .rt
 | .retx _ e,ρ=>match evs G e ρ with
  | some d=>some (.rt d)
  | none=>(evX G e ρ).bind fun k=>if G.xn k then some (.er k) else none
 | .retm x,ρ=>match ρ[x]? with|some (.mu d)=>some (.rt d)|_=>none
 | .retn,_=>some (.rt .non)
 | .set x e,ρ=>(evs G e ρ).map fun d=>.nx (ρ.set x (.im d))
 | .setm x e,ρ=>do match ← ev G e ρ with | .lst ds=>some (.nx (ρ.set x (.mu (.lst ds))))|_=>none
 | .setd x,ρ=>some (.nx (ρ.set x (.mu (.dct []))))
 | .sett tg e,ρ=>do (bindT tg true (← ev G e ρ) ρ).map .nx
 | .par x y a b,ρ=>do
  let u ← ev G a ρ
  let v ← ev G b ρ
  some (.nx ((ρ.set x (.im u)).set y (.im v)))
 | .iff c a b,ρ=>do match ← ev G c (view ρ) with | .bl true=>ex G a ρ | .bl false=>ex G b ρ|_=>none
 | .loop tg tp k src body,ρ=>do forGo (bindT tg tp) (ex G body) (← items k (← ev G src ρ)) ρ
 | .whl c body,ρ=>whileGo (fun ρ=>ev G c (view ρ)) (ex G body) 5000 ρ
 | .app x e,ρ=>do
  let d ← evs G e ρ
  match ρ[x]? with
  | some (.mu (.lst ds))=>if ds.length<big then some (.nx (ρ.set x (.mu (.lst (ds++[d]))))) else none
  | _=>none
 | .put x k e,ρ=>do
  let d ← evs G e ρ
  let i ← intOf (evs G k ρ)
  match ρ[x]? with
  | some (.mu o)=>(putO o i d).map fun o=>.nx (ρ.set x (.mu o))
  | _=>none
 | .drop e,ρ=>match ev G e (view ρ) with
  | some _=>some (.nx ρ)
  | none=>match evR G e (view ρ) with
   | some (.er k)=>if G.xn k then some (.er k) else none
   | _=>none
 | .frz xs st,ρ=>ex G st (freeze xs ρ)
 | .rse c,_=>if G.xn c then some (.er c) else none
 | .tryx ce hc _ r,ρ=>match evR G ce (view ρ) with
  | some (.ok _)=>some (.nx ρ)
  | some (.er k)=>if G.xn k&&G.xn hc&&G.sub k hc then (hrD G k r).map .rt else none
  | none=>none
noncomputable def frOk:IS→Bool
 | .seq a b=>frOk a&&frOk b
 | .ret fr _=>fr
 | .retx fr _=>fr
 | .iff _ a b=>frOk a&&frOk b
 | .loop _ _ _ _ b=>frOk b
 | .whl _ b=>frOk b
 | .frz _ b=>frOk b
 | .tryx _ _ _ _=>true
 | _=>true
noncomputable def runF (G:GS) (n:Nat) (b:IS) (args:List D):Option Rs:=
 match ex G b (args.map .im++List.replicate (n-args.length) .un) with
 | some (.rt d)=>some (.ok d)
 | some (.nx _)=>some (.ok .non)
 | some (.er c)=>some (.er c)
 | _=>none
end Z
namespace Z
open PySem
section
variable {G:GS}{ρ:List Sl}{a b e es src test elt:IE}{i j:Int}
theorem ev_var {k:Nat}:ev G (.var k) ρ=slot ρ k:=id rfl
theorem ev_lit {l:Lit}:ev G (.lit l) ρ=some l.d:=id rfl
theorem ev_glo {x:Str}:ev G (.glo x) ρ=G.cst x:=id rfl
theorem ev_bin {o:O2}:ev G (.bin o a b) ρ=(ev G a ρ).bind fun x=>(ev G b ρ).bind fun y=>op2 o x y:=id rfl
theorem ev_neg:ev G (.neg a) ρ=(ev G a ρ).bind fun x=>match x with | .int i=>some (.int (-i))|_=>none:=id rfl
theorem ev_and:ev G (.and a b) ρ=(ev G a ρ).bind fun x=>match x with | .bl true=>((ev G b ρ).bind fun y=>match y with | .bl k=>some (.bl k)|_=>none) | .bl false=>some (.bl false)|_=>none:=id rfl
theorem ev_or:ev G (.or a b) ρ=(ev G a ρ).bind fun x=>match x with | .bl false=>((ev G b ρ).bind fun y=>match y with | .bl k=>some (.bl k)|_=>none) | .bl true=>some (.bl true)|_=>none:=id rfl
theorem ev_not:ev G (.not a) ρ=(ev G a ρ).bind fun x=>match x with | .bl k=>some (.bl (!k))|_=>none:=id rfl
theorem ev_tr:ev G (.tr a) ρ=(ev G a ρ).bind fun x=>(tru x).map .bl:=id rfl
theorem ev_ite {c:IE}:ev G (.ite c a b) ρ=(ev G c ρ).bind fun x=>match x with | .bl true=>ev G a ρ | .bl false=>ev G b ρ|_=>none:=id rfl
theorem ev_chain {o o':O2} {c:IE}:ev G (.chain o o' a b c) ρ=(ev G b ρ).bind fun y=>(ev G a ρ).bind fun x=>(op2 o x y).bind fun w=>match w with | .bl true=>(ev G c ρ).bind fun z=>op2 o' y z | .bl false=>some (.bl false)|_=>none:=id rfl
theorem ev_nil:ev G .nil ρ=some (.tup []):=id rfl
theorem ev_cons:ev G (.cons e es) ρ=(ev G e ρ).bind fun d=>(ev G es ρ).bind fun t=>match t with | .tup ds=>some (.tup (d::ds))|_=>none:=id rfl
theorem ev_tup:ev G (.tup es) ρ=(argsOf (ev G es ρ)).map .tup:=id rfl
theorem ev_lst:ev G (.lst es) ρ=(argsOf (ev G es ρ)).map .lst:=id rfl
theorem ev_ix:ev G (.ix a b) ρ=(ev G a ρ).bind fun x=>(ev G b ρ).bind fun y=>(match x,y with
  | .lst xs,.int k=>atI xs k
  | .tup xs,.int k=>atI xs k
  | .frz xs,.int k=>atI xs k
  | .dct kvs,.int k=>valI kvs k
  | _,_=>none):=id rfl
theorem ev_fld {f:Str}:ev G (.fld a f) ρ=(ev G a ρ).bind fun x=>match x with | .obj c fs=>if (G.fl c).contains f then fs.lookup f else none|_=>none:=id rfl
theorem ev_call {f:Str}:ev G (.call f es) ρ=(argsOf (ev G es ρ)).bind fun as=>okOf (G.fn f as):=id rfl
theorem ev_meth {m:Str}:ev G (.meth a m es) ρ=(ev G a ρ).bind fun x=>match x with | .obj c fs=>(if (fs.lookup m).isNone then (argsOf (ev G es ρ)).bind fun as=>okOf (G.me c m (.obj c fs::as)) else none) | .str x=>(argsOf (ev G es ρ)).bind fun as=>smD m (.str x::as)|_=>none:=id rfl
theorem ev_mk {c:Str}:ev G (.mk c es) ρ=(argsOf (ev G es ρ)).bind fun as=>okOf (G.mo c as):=id rfl
theorem ev_bcall {f:BF}:ev G (.bcall f es) ρ=(argsOf (ev G es ρ)).bind fun as=>bf f as:=id rfl
theorem ev_isi {t:Str}:ev G (.isi a t) ρ=(ev G a ρ).bind fun x=>(isiD G t x).map .bl:=id rfl
theorem ev_walk {k:Src}:ev G (.walk k a) ρ=(ev G a ρ).bind fun x=>(items k x).map .lst:=id rfl
theorem ev_ixm {x:Nat}:ev G (.ixm x b) ρ=(slotL ρ x).bind fun xs=>(intOf (ev G b ρ)).bind fun k=>atI xs k:=id rfl
theorem ev_lenm {x:Nat}:ev G (.lenm x) ρ=(slotL ρ x).bind fun xs=>some (.int xs.length):=id rfl
theorem ev_sl {bl bh:Bool} {lo hi:IE}:ev G (.sl a bl lo bh hi) ρ=(ev G a ρ).bind fun d=>(part bl (ev G lo ρ)).bind fun l=>(part bh (ev G hi ρ)).bind fun h=>(match d with
  | .lst xs=>some (.lst (cut xs l h))
  | .str x=>slTxt x l h
  | .frz xs=>some (.lst (cut xs l h))
  | .tup xs=>if sIx xs.length 0 l=0∧sIx xs.length xs.length h=xs.length then none else some (.tup (cut xs l h))
  | _=>none):=id rfl
theorem ev_comp {n:Nat} {fr:List (Nat × Nat)} {tg:List Nat} {tp:Bool} {k:Src}:ev G (.comp n fr tg tp k src test elt) ρ=(ev G src ρ).bind fun s=>(items k s).bind fun ds =>
  (compGo (fun d=>(bindT tg tp d (frame n fr ρ)).bind fun ρ1=>(ev G test ρ1).bind fun w=>match w with
   | .bl true=>(ev G elt ρ1).map some
   | .bl false=>some none
   | _=>none) ds).map .lst:=id rfl
theorem args_some {ds:List D}:argsOf (some (.tup ds))=some ds:=id rfl
theorem okOf_ok {d:D}:okOf (some (.ok d))=some d:=id rfl
theorem o_add:op2 .add (.int i) (.int j)=some (.int (i+j)):=id rfl
theorem o_sub:op2 .sub (.int i) (.int j)=some (.int (i-j)):=id rfl
theorem o_div (h0:0<j) (h1:j<1000000):op2 .fdiv (.int i) (.int j)=some (.int (i / j)):=if_pos ⟨h0,by omega⟩
theorem o_mod (h0:0<j):op2 .mod (.int i) (.int j)=some (.int (i % j)):=if_pos h0
theorem o_lt:op2 .lt (.int i) (.int j)=some (.bl (decide (i<j))):=id rfl
theorem o_le:op2 .le (.int i) (.int j)=some (.bl (decide (i≤j))):=id rfl
theorem o_gt:op2 .gt (.int i) (.int j)=some (.bl (decide (j<i))):=id rfl
theorem o_ge:op2 .ge (.int i) (.int j)=some (.bl (decide (j≤i))):=id rfl
theorem o_eq:op2 .eq (.int i) (.int j)=some (.bl (i == j)):=id rfl
theorem o_ne:op2 .ne (.int i) (.int j)=some (.bl (!(i == j))):=id rfl
theorem o_isb {x y:Bool}:op2 .is (.bl x) (.bl y)=some (.bl (x == y)):=id rfl
theorem o_isnb {x y:Bool}:op2 .isnot (.bl x) (.bl y)=some (.bl (!(x == y))):=id rfl
theorem small_of (h0:-1000000≤j) (h1:j≤1000000):small62 j=true:=by
 unfold small62
 rw [Bool.and_eq_true,decide_eq_true_eq,decide_eq_true_eq]
 omega
theorem it_rng {n:Nat} (h:n≤1000000):items .rng (.tup [.int (n:Int)])=some (rangeD 0 (n:Int)):=by
 have h1:(small62 (n:Int)&&decide ((n:Int).toNat≤big))=true:=by
  rw [small_of (by omega) (by omega),Bool.true_and,decide_eq_true_eq]
  unfold big; omega
 simp only [items,itRng]
 rw [if_pos h1]
theorem slot0 {d:D} {r:List Sl}:slot (.im d::r) 0=some d:=id rfl
theorem slotS {x:Sl} {r:List Sl} {k:Nat}:slot (x::r) (k+1)=slot r k:=id rfl
end
section
variable {G:GS}{ρ:List Sl}{a b:IS}{e c:IE}
theorem ex_nop:ex G .nop ρ=some (.nx ρ):=id rfl
theorem ex_seq:ex G (.seq a b) ρ=(ex G a ρ).bind fun o=>match o with | .nx ρ'=>ex G b ρ'|o=>some o:=id rfl
theorem ex_iff:ex G (.iff c a b) ρ=(ev G c (view ρ)).bind fun x=>match x with | .bl true=>ex G a ρ | .bl false=>ex G b ρ|_=>none:=id rfl
theorem evs_of {d:D} (h:ev G e ρ=some d):evs G e ρ=some d:=by unfold evs; rw [h]
theorem evs_view {d:D} (h0:ev G e ρ=none) (h:ev G e (view ρ)=some d) (hs:scal d=true):evs G e ρ=some d:=by unfold evs; rw [h0,h]; exact if_pos hs
theorem ex_ret {d:D} {f:Bool} (h:ev G e ρ=some d):ex G (.ret f e) ρ=some (.rt d):=by show (evs G e ρ).map Out.rt=_; rw [evs_of h]; rfl
theorem ex_set {d:D} {x:Nat} (h:ev G e ρ=some d):ex G (.set x e) ρ=some (.nx (ρ.set x (.im d))):=by show (evs G e ρ).map _=_; rw [evs_of h]; rfl
theorem ex_setm {ds:List D} {x:Nat} (h:ev G e ρ=some (.lst ds)):ex G (.setm x e) ρ=some (.nx (ρ.set x (.mu (.lst ds)))):=by show (ev G e ρ).bind _=_; rw [h]; rfl
theorem ex_loop {tg:List Nat} {tp:Bool} {k:Src} {d:D} {ds:List D} (h1:ev G e ρ=some d) (h2:items k d=some ds):ex G (.loop tg tp k e a) ρ=forGo (bindT tg tp) (ex G a) ds ρ:=by show (ev G e ρ).bind _=_; rw [h1]; show ((items k d).bind _)=_; rw [h2]; rfl
end
theorem rangeD_nat {n:Nat}:rangeD 0 (n:Int)=(List.range n).map fun (k:Nat)=>D.int k:=by
 unfold rangeD
 simp
theorem forGo_inv {bind:D→List Sl→Option (List Sl)} {body:List Sl→Option Out} (P:Nat→List Sl→Prop):∀ {ds:List D} {k:Nat} {ρ:List Sl},P k ρ →
  (∀ (i:Nat) (d:D) (ρ:List Sl),ds[i]?=some d→P (k+i) ρ→∃ ρ1,bind d ρ=some ρ1∧∃ ρ2,body ρ1=some (.nx ρ2)∧P (k+i+1) ρ2)→∃ ρ',forGo bind body ds ρ=some (.nx ρ')∧P (k+ds.length) ρ'
 | [],k,ρ,h,_=>⟨ρ,rfl,h⟩
 | d::r,k,ρ,h,st=>by
  obtain ⟨ρ1,h1,ρ2,h2,h3⟩:=st 0 d ρ rfl h
  obtain ⟨ρ',h4,h5⟩:=forGo_inv P (ds:=r) (k:=k+1) h3 fun i d' ρ' e p=>by
   have:=st (i+1) d' ρ' (by simpa using e) (by rw [Nat.add_comm i 1,← Nat.add_assoc]; exact p)
   rw [show k+1+i+1=k+(i+1)+1 by omega]
   exact this
  refine ⟨ρ',?_,by rw [List.length_cons,show k+(r.length+1)=k+1+r.length by omega]; exact h5⟩
  unfold forGo
  rw [h1]
  show ((body ρ1).bind _)=_
  rw [h2]
  exact h4
theorem forGo_all {bind:D→List Sl→Option (List Sl)} {body:List Sl→Option Out} (P:List Sl→Prop) {ds:List D} {ρ:List Sl} (h0:P ρ) (st:∀ d ∈ ds,∀ ρ,P ρ→∃ ρ1,bind d ρ=some ρ1∧∃ ρ2,body ρ1=some (.nx ρ2)∧P ρ2):∃ ρ',forGo bind body ds ρ=some (.nx ρ')∧P ρ':=
 forGo_inv (k:=0) (fun _=>P) h0 fun i d ρ e p=>st d (List.mem_of_getElem? e) ρ p
theorem runF_rt {G:GS} {n:Nat} {b:IS} {args:List D} {ρ:List Sl} {d:D} (h0:args.map .im++List.replicate (n-args.length) .un=ρ) (h:ex G b ρ=some (.rt d)):runF G n b args=some (.ok d):=by unfold runF; rw [h0,h]
theorem runF_er {G:GS} {n:Nat} {b:IS} {args:List D} {ρ:List Sl} {k:Str} (h0:args.map .im++List.replicate (n-args.length) .un=ρ) (h:ex G b ρ=some (.er k)):runF G n b args=some (.er k):=by unfold runF; rw [h0,h]
theorem view_nil:view []=[]:=id rfl
theorem view_im {d:D} {r:List Sl}:view (.im d::r)=.im d::view r:=id rfl
theorem view_un {r:List Sl}:view (.un::r)=.un::view r:=id rfl
theorem view_mu {d:D} {r:List Sl}:view (.mu d::r)=.im d::view r:=id rfl
theorem ex_rse {G:GS} {ρ:List Sl} {c:Str} (h:G.xn c=true):ex G (.rse c) ρ=some (.er c):=if_pos h
theorem ex_tryE {G:GS} {ρ:List Sl} {ce:IE} {hc k:Str} {hb:Option Nat} {r:HR} (h:evR G ce (view ρ)=some (.er k)):ex G (.tryx ce hc hb r) ρ=(if G.xn k&&G.xn hc&&G.sub k hc then (hrD G k r).map .rt else none):=by
 show (match evR G ce (view ρ) with|some (.ok _)=>some (Out.nx ρ)|some (.er k)=>_|none=>_)=_
 rw [h]
theorem ex_nx {G:GS} {ρ ρ':List Sl} {a b:IS} {o:Out} (h1:ex G a ρ=some (.nx ρ')) (h2:ex G b ρ'=some o):ex G (.seq a b) ρ=some o:=by rw [ex_seq,h1]; exact h2
theorem ex_st {G:GS} {ρ:List Sl} {a b:IS} {o:Out} (h1:ex G a ρ=some o) (h2:∀ ρ',o≠.nx ρ'):ex G (.seq a b) ρ=some o:=by
 rw [ex_seq,h1]
 cases o<;>first|rfl|exact absurd rfl (h2 _)
theorem ex_t {G:GS} {ρ:List Sl} {a b:IS} {c:IE} {o:Option Out} (h1:ev G c (view ρ)=some (.bl true)) (h2:ex G a ρ=o):ex G (.iff c a b) ρ=o:=by rw [ex_iff,h1]; exact h2
theorem ex_f {G:GS} {ρ:List Sl} {a b:IS} {c:IE} {o:Option Out} (h1:ev G c (view ρ)=some (.bl false)) (h2:ex G b ρ=o):ex G (.iff c a b) ρ=o:=by rw [ex_iff,h1]; exact h2
theorem ev_orB {G:GS} {ρ:List Sl} {a b:IE} {x y:Bool} (ha:ev G a ρ=some (.bl x)) (hb:x=false→ev G b ρ=some (.bl y)):ev G (.or a b) ρ=some (.bl (x || y)):=by
 rw [ev_or,ha]
 cases x with
 | true=>rfl
 | false=>show ((ev G b ρ).bind _)=_; rw [hb rfl]; rfl
theorem ev_andB {G:GS} {ρ:List Sl} {a b:IE} {x y:Bool} (ha:ev G a ρ=some (.bl x)) (hb:x=true→ev G b ρ=some (.bl y)):ev G (.and a b) ρ=some (.bl (x&&y)):=by
 rw [ev_and,ha]
 cases x with
 | false=>rfl
 | true=>show ((ev G b ρ).bind _)=_; rw [hb rfl]; rfl
theorem f_len {xs:List D}:bf .len [.lst xs]=some (.int xs.length):=id rfl
theorem f_lenF {xs:List D}:bf .len [.frz xs]=some (.int xs.length):=id rfl
theorem f_lenT {xs:List D}:bf .len [.tup xs]=some (.int xs.length):=id rfl
theorem f_list {xs:List D}:bf .list [.lst xs]=some (.lst xs):=id rfl
theorem f_listT {xs:List D}:bf .list [.tup xs]=some (.lst xs):=id rfl
theorem at_nat {α:Type} {xs:List α} {k:Nat} {x:α} (h:xs[k]?=some x):atI xs (k:Int)=some x:=by
 have hl:=(List.getElem?_eq_some_iff.mp h).1
 unfold atI ixN
 rw [if_pos (by omega),if_pos (by omega)]
 simpa using h
theorem z_bind {α β:Type} {a:α} {f:α→Option β}:(some a).bind f=f a:=id rfl
theorem z_map {α β:Type} {a:α} {f:α→β}:(some a).map f=some (f a):=id rfl
theorem l_int {i:Int}:(Lit.int i).d=.int i:=id rfl
theorem l_bl {b:Bool}:(Lit.bl b).d=.bl b:=id rfl
theorem l_str {x:Str}:(Lit.str x).d=.str x:=id rfl
theorem l_non:(Lit.non).d=.non:=id rfl
theorem zz:(∀ G ρ k,ev G (.var k) ρ=slot ρ k)∧(∀ G ρ l,ev G (.lit l) ρ=some l.d)∧(∀ G ρ x,ev G (.glo x) ρ=G.cst x)∧(∀ G ρ o a b,ev G (.bin o a b) ρ=(ev G a ρ).bind fun x=>(ev G b ρ).bind fun y=>op2 o x y) ∧
  (∀ G ρ a,ev G (.neg a) ρ=(ev G a ρ).bind fun x=>match x with | .int i=>some (.int (-i))|_=>none) ∧
  (∀ G ρ a b,ev G (.and a b) ρ=(ev G a ρ).bind fun x=>match x with | .bl true=>((ev G b ρ).bind fun y=>match y with | .bl k=>some (.bl k)|_=>none) | .bl false=>some (.bl false)|_=>none) ∧
  (∀ G ρ a b,ev G (.or a b) ρ=(ev G a ρ).bind fun x=>match x with | .bl false=>((ev G b ρ).bind fun y=>match y with | .bl k=>some (.bl k)|_=>none) | .bl true=>some (.bl true)|_=>none) ∧
  (∀ G ρ a,ev G (.not a) ρ=(ev G a ρ).bind fun x=>match x with | .bl k=>some (.bl (!k))|_=>none)∧(∀ G ρ a,ev G (.tr a) ρ=(ev G a ρ).bind fun x=>(tru x).map .bl) ∧
  (∀ G ρ c a b,ev G (.ite c a b) ρ=(ev G c ρ).bind fun x=>match x with | .bl true=>ev G a ρ | .bl false=>ev G b ρ|_=>none) ∧
  (∀ G ρ o o' a b c,ev G (.chain o o' a b c) ρ=(ev G b ρ).bind fun y=>(ev G a ρ).bind fun x=>(op2 o x y).bind fun w=>match w with | .bl true=>(ev G c ρ).bind fun z=>op2 o' y z | .bl false=>some (.bl false)|_=>none) ∧
  (∀ G ρ,ev G .nil ρ=some (.tup []))∧(∀ G ρ e es,ev G (.cons e es) ρ=(ev G e ρ).bind fun d=>(ev G es ρ).bind fun t=>match t with | .tup ds=>some (.tup (d::ds))|_=>none) ∧
  (∀ G ρ es,ev G (.tup es) ρ=(argsOf (ev G es ρ)).map .tup)∧(∀ G ρ es,ev G (.lst es) ρ=(argsOf (ev G es ρ)).map .lst) ∧
  (∀ G ρ a b,ev G (.ix a b) ρ=(ev G a ρ).bind fun x=>(ev G b ρ).bind fun y=>(match x,y with | .lst xs,.int k=>atI xs k | .tup xs,.int k=>atI xs k | .frz xs,.int k=>atI xs k | .dct kvs,.int k=>valI kvs k|_,_=>none)) ∧
  (∀ G ρ a f,ev G (.fld a f) ρ=(ev G a ρ).bind fun x=>match x with | .obj c fs=>if (G.fl c).contains f then fs.lookup f else none|_=>none) ∧
  (∀ G ρ f es,ev G (.call f es) ρ=(argsOf (ev G es ρ)).bind fun as=>okOf (G.fn f as)) ∧
  (∀ G ρ a m es,ev G (.meth a m es) ρ=(ev G a ρ).bind fun x=>match x with | .obj c fs=>(if (fs.lookup m).isNone then (argsOf (ev G es ρ)).bind fun as=>okOf (G.me c m (.obj c fs::as)) else none) | .str x=>(argsOf (ev G es ρ)).bind fun as=>smD m (.str x::as)|_=>none) ∧
  (∀ G ρ c es,ev G (.mk c es) ρ=(argsOf (ev G es ρ)).bind fun as=>okOf (G.mo c as))∧(∀ G ρ f es,ev G (.bcall f es) ρ=(argsOf (ev G es ρ)).bind fun as=>bf f as) ∧
  (∀ G ρ a t,ev G (.isi a t) ρ=(ev G a ρ).bind fun x=>(isiD G t x).map .bl)∧(∀ G ρ k a,ev G (.walk k a) ρ=(ev G a ρ).bind fun x=>(items k x).map .lst) ∧
  (∀ G ρ x b,ev G (.ixm x b) ρ=(slotL ρ x).bind fun xs=>(intOf (ev G b ρ)).bind fun k=>atI xs k)∧(∀ G ρ x,ev G (.lenm x) ρ=(slotL ρ x).bind fun xs=>some (.int xs.length)) ∧
  (∀ G ρ a bl lo bh hi,ev G (.sl a bl lo bh hi) ρ=(ev G a ρ).bind fun d=>(part bl (ev G lo ρ)).bind fun l=>(part bh (ev G hi ρ)).bind fun h=>(match d with
   | .lst xs=>some (.lst (cut xs l h))
   | .str x=>slTxt x l h
   | .frz xs=>some (.lst (cut xs l h))
   | .tup xs=>if sIx xs.length 0 l=0∧sIx xs.length xs.length h=xs.length then none else some (.tup (cut xs l h))
   | _=>none)):=
 ⟨fun _ _ _=>ev_var,fun _ _ _=>ev_lit,fun _ _ _=>ev_glo,fun _ _ _ _ _=>ev_bin,fun _ _ _=>ev_neg,fun _ _ _ _=>ev_and,fun _ _ _ _=>ev_or,fun _ _ _=>ev_not,fun _ _ _=>ev_tr,fun _ _ _ _ _=>ev_ite,fun _ _ _ _ _ _ _=>ev_chain,fun _ _=>ev_nil,fun _ _ _ _=>ev_cons,fun _ _ _=>ev_tup,fun _ _ _=>ev_lst,fun _ _ _ _=>ev_ix,fun _ _ _ _=>ev_fld,fun _ _ _ _=>ev_call,fun _ _ _ _ _=>ev_meth,fun _ _ _ _=>ev_mk,fun _ _ _ _=>ev_bcall,fun _ _ _ _=>ev_isi,fun _ _ _ _=>ev_walk,fun _ _ _ _=>ev_ixm,fun _ _ _=>ev_lenm,fun _ _ _ _ _ _ _=>ev_sl⟩
theorem yy:(∀ ds,argsOf (some (.tup ds))=some ds)∧(∀ d,okOf (some (.ok d))=some d)∧(∀ i j,op2 .add (.int i) (.int j)=some (.int (i+j)))∧(∀ i j,op2 .sub (.int i) (.int j)=some (.int (i-j)))∧(∀ i j,op2 .lt (.int i) (.int j)=some (.bl (decide (i<j))))∧(∀ i j,op2 .le (.int i) (.int j)=some (.bl (decide (i≤j)))) ∧
  (∀ i j,op2 .gt (.int i) (.int j)=some (.bl (decide (j<i))))∧(∀ i j,op2 .ge (.int i) (.int j)=some (.bl (decide (j≤i))))∧(∀ i j,op2 .eq (.int i) (.int j)=some (.bl (i == j)))∧(∀ i j,op2 .ne (.int i) (.int j)=some (.bl (!(i == j))))∧(∀ x y,op2 .is (.bl x) (.bl y)=some (.bl (x == y)))∧(∀ x y,op2 .isnot (.bl x) (.bl y)=some (.bl (!(x == y)))) ∧
  (∀ d r,slot (.im d::r) 0=some d)∧(∀ x r k,slot (x::r) (k+1)=slot r k)∧(view []=[])∧(∀ d r,view (.im d::r)=.im d::view r)∧(∀ r,view (.un::r)=.un::view r)∧(∀ d r,view (.mu d::r)=.im d::view r) ∧
  (∀ xs,bf .len [.lst xs]=some (.int xs.length))∧(∀ xs,bf .len [.frz xs]=some (.int xs.length))∧(∀ xs,bf .len [.tup xs]=some (.int xs.length))∧(∀ xs,bf .list [.lst xs]=some (.lst xs))∧(∀ xs,bf .list [.tup xs]=some (.lst xs)) ∧
  (∀ i,(Lit.int i).d=.int i)∧(∀ b,(Lit.bl b).d=.bl b)∧(∀ x,(Lit.str x).d=.str x)∧((Lit.non).d=.non):=
 ⟨fun _=>args_some,fun _=>okOf_ok,fun _ _=>o_add,fun _ _=>o_sub,fun _ _=>o_lt,fun _ _=>o_le,fun _ _=>o_gt,fun _ _=>o_ge,fun _ _=>o_eq,fun _ _=>o_ne,fun _ _=>o_isb,fun _ _=>o_isnb,fun _ _=>slot0,fun _ _ _=>slotS,view_nil,fun _ _=>view_im,fun _=>view_un,fun _ _=>view_mu,fun _=>f_len,fun _=>f_lenF,fun _=>f_lenT,fun _=>f_list,fun _=>f_listT,fun _=>l_int,fun _=>l_bl,fun _=>l_str,l_non⟩
end Z
namespace Z
open PySem
namespace Pg
section
variable {G:GS}
end
end Pg
end Z
namespace Z
open PySem
namespace Pg
section
variable {G:GS}{c r w h:Int}{T F S:List D}{ρ:List Sl}{a:IE}
noncomputable def i_cell_at:IS:=(.seq (.iff (.bin .lt (.var 1) (.bcall .len (.cons (.var 0) .nil))) (.ret false (.ix (.var 0) (.var 1))) .nop) (.ret false (.lit (.int 0))))
noncomputable def at0 (ns:List Int) (k:Nat):Int:=ns.getD k 0
theorem cell_at_ok {ns:List Int} {k:Nat}:runF G 2 i_cell_at [.frz (ns.map .int),.int k]=some (.ok (.int (at0 ns k))):=by
 have e:ev G (.bin .lt (.var 1) (.bcall .len (.cons (.var 0) .nil))) [.im (.frz (ns.map .int)),.im (.int k)]=some (.bl (decide ((k:Int)<ns.length))):=by
  simp only [zz,yy,z_bind,z_map,List.length_map]
 by_cases hk:k<ns.length
 ·refine runF_rt (ρ:=[.im (.frz (ns.map .int)),.im (.int k)]) rfl (ex_st (ex_t ?_ (ex_ret (d:=.int (at0 ns k)) ?_)) (fun _ z=>by cases z))
  ·rw [view_im,view_im,view_nil,e,decide_eq_true (by omega)]
  ·have:(ns.map D.int)[k]?=some (.int (at0 ns k)):=by
    unfold at0
    rw [List.getElem?_map,List.getD_eq_getElem?_getD,List.getElem?_eq_getElem hk]; rfl
   simp only [zz,yy,z_bind,z_map,at_nat this]
 ·refine runF_rt (ρ:=[.im (.frz (ns.map .int)),.im (.int k)]) rfl (ex_nx (ex_f ?_ ex_nop) (ex_ret ?_))
  ·rw [view_im,view_im,view_nil,e,decide_eq_false (by omega)]
  ·have:at0 ns k=0:=by
    unfold at0
    rw [List.getD_eq_getElem?_getD,List.getElem?_eq_none (by omega)]; rfl
   simp only [zz,yy,z_bind,z_map,this]
noncomputable def i_whole:IS:=(.ret false (.and (.isi (.var 0) "int") (.not (.tr (.isi (.var 0) "bool")))))
theorem isi_int_int {i:Int}:isiD G "int" (.int i)=some true:=by simp only [isiD]; rw [if_pos trivial]
theorem isi_int_bool {i:Int}:isiD G "bool" (.int i)=some false:=by simp only [isiD]; rw [if_neg (by decide +kernel),if_pos (.inl trivial)]
theorem isi_bl_bool {b:Bool}:isiD G "bool" (.bl b)=some true:=by simp only [isiD]; rw [if_pos (.inr trivial)]
theorem isi_str_str {x:Str}:isiD G "str" (.str x)=some true:=by simp only [isiD]; rw [if_pos trivial]
theorem isi_lst {xs:List D}:isiD G "list" (.lst xs)=some true:=by simp only [isiD]; rw [if_pos trivial]
theorem isi_tup {xs:List D}:isiD G "tuple" (.tup xs)=some true:=by simp only [isiD]; rw [if_pos trivial]
theorem whole_ok {i:Int}:runF G 1 i_whole [.int i]=some (.ok (.bl true)):=by
 refine runF_rt (ρ:=[.im (.int i)]) rfl (ex_ret ?_)
 simp only [zz,yy,z_bind,z_map,isi_int_int,isi_int_bool,tru]
 rfl
end
end Pg
end Z
namespace Z
open PySem
theorem compGo_T {α:Type} {f:D→Option (Option D)} {enc:α→D} {g:α→D}:∀ {L:List α},(∀ a ∈ L,f (enc a)=some (some (g a)))→compGo f (L.map enc)=some (L.map g)
 | [],_=>rfl
 | a::r,e=>by
  rw [List.map_cons]
  unfold compGo
  rw [e a (List.mem_cons_self),compGo_T fun x hx=>e x (List.mem_cons_of_mem _ hx)]
  rfl
theorem ev_compT {α:Type} {G:GS} {ρ:List Sl} {n:Nat} {fr:List (Nat × Nat)} {tg:List Nat} {tp:Bool} {k:Src} {src test elt:IE} {s:D} {L:List α} (enc g:α→D) (h1:ev G src ρ=some s) (h2:items k s=some (L.map enc))
  (h3:∀ a ∈ L,∃ ρ1,bindT tg tp (enc a) (frame n fr ρ)=some ρ1∧ev G test ρ1=some (.bl true)∧ev G elt ρ1=some (g a)):ev G (.comp n fr tg tp k src test elt) ρ=some (.lst (L.map g)):=by
 rw [ev_comp,h1,Option.bind_some,h2,Option.bind_some,compGo_T (g:=g)]
 ·rfl
 ·intro a ha
  obtain ⟨ρ1,e1,e2,e3⟩:=h3 a ha
  rw [e1,Option.bind_some,e2,Option.bind_some]
  show Option.map some (ev G elt ρ1)=_
  rw [e3]; rfl
theorem it_rngN {n:Nat} (h:n≤1000000):items .rng (.tup [.int (n:Int)])=some ((List.range n).map fun (k:Nat)=>D.int k):=by rw [it_rng h,rangeD_nat]
namespace Pg
abbrev Cell:=Int × Bool × Bool
abbrev Heap':=List Cell
abbrev Strip:=List Heap'
abbrev Table:=List Strip
noncomputable def cE' (c:Cell):D:=.tup [.int c.1,.bl c.2.1,.bl c.2.2]
noncomputable def hE (h:Heap'):D:=.lst (h.map cE')
inductive Side|west|east|north|south deriving DecidableEq
noncomputable def Side.str:Side→Str
 | .west=>"west" | .east=>"east" | .north=>"north" | .south=>"south"
noncomputable def Side.up:Side→Bool
 | .west=>true | .east=>true | .north=>false | .south=>false
noncomputable def Side.near:Side→Bool
 | .west=>true | .east=>false | .north=>true | .south=>false
noncomputable def turnC (up:Bool) (c:Cell):Cell:=if up then (c.1,!c.2.1,c.2.2) else (c.1,c.2.1,!c.2.2)
noncomputable def turnH (up:Bool) (h:Heap'):Heap':=h.reverse.map (turnC up)
noncomputable def turnP (up:Bool) (p:Strip):Strip:=p.map (turnH up)
noncomputable def tog (u l:Strip):Strip:=(List.range (max u.length l.length)).map fun k=>u.getD k []++l.getD k []
noncomputable def together (mv st:Strip) (over:Bool):Strip:=tog (if over then mv else st) (if over then st else mv)
noncomputable def foldS (sd:Side) (over:Bool) (c:Nat) (s:Strip):Strip:=
 if sd.near then together (turnP sd.up (s.take c).reverse) (s.drop c) over else (together (turnP sd.up (s.drop c)) (s.take c).reverse over).reverse
noncomputable def width (T:Table):Nat:=(T.getD 0 []).length
noncomputable def transp (T:Table):Table:=(List.range (width T)).map fun x=>T.map fun s=>s.getD x []
noncomputable def foldT (sd:Side) (over:Bool) (c:Nat) (T:Table):Table:=if sd.up then T.map (foldS sd over c) else transp ((transp T).map (foldS sd over c))
section
variable {G:GS}
noncomputable def cUP:D:=.tup [.str "west",.str "east"]
noncomputable def cLV:D:=.tup [.str "north",.str "south"]
end
end Pg
end Z
namespace Z
open PySem
namespace Pg
section
variable {G:GS}
structure Rect (T:Table) (w h:Nat):Prop where
 len:T.length=h
 row:∀ s ∈ T,s.length=w
 h1:1≤h
 w1:1≤w
end
end Pg
end Z
namespace Z
open PySem
namespace Pg
noncomputable def flatT (c r:Nat):Table:=(List.range r).map fun y=>(List.range c).map fun x=>[(((y*c+x:Nat):Int),false,false)]
section
variable {G:GS}{c r w h:Nat}{T:Table}{F S:List D}
noncomputable def foldD (sd:Side) (over:Bool) (k:Nat):D:=.tup [.str sd.str,.bl over,.int k]
end
end Pg
end Z
namespace Z
open PySem
theorem view_c {s:Sl} {r:List Sl}:view (s::r)=view1 s::view r:=id rfl
theorem cut_map {α β:Type} {f:α→β} {xs:List α} {a b:Option Int}:cut (xs.map f) a b=(cut xs a b).map f:=by
 unfold cut
 rw [List.length_map,List.map_take,List.map_drop]
theorem cut_len {α:Type} {xs:List α} {a b:Nat}:(cut xs (some (a:Int)) (some (b:Int))).length≤b-a:=by
 simp only [cut,sIx]
 rw [if_neg (by omega),if_neg (by omega)]
 refine Nat.le_trans (List.length_take_le _ _) ?_
 rw [Int.toNat_natCast,Int.toNat_natCast]
 generalize xs.length=n
 omega
namespace Pg
def Full (s:Strip):Prop:=∀ h ∈ s,h≠[]
def FullT (T:Table):Prop:=∀ s ∈ T,Full s
theorem getD_mem {s:Strip} {k:Nat} (h:k<s.length):s.getD k [] ∈ s:=by
 rw [List.getD_eq_getElem?_getD,List.getElem?_eq_getElem h]
 exact List.getElem_mem h
end Pg
end Z
namespace Z
open PySem
namespace Pg
structure Spot where
 x:Nat
 y:Nat
 z:Int
 e:Bool
 n:Bool
noncomputable def hAt (T:Table) (x y:Nat):Heap':=(T.getD y []).getD x []
noncomputable def zAt (sp:List Spot) (k:Int):Int:=match sp[k.toNat]? with
 | some s=>s.z
 | none=>0
structure Lk (T:Table) (sp:List Spot):Prop where
 mem:∀ (x y:Nat) (c:Cell),c ∈ hAt T x y↔∃ (i:Nat) (s:Spot),sp[i]?=some s∧s.x=x∧s.y=y∧c=((i:Int),s.e,s.n)
 ord:∀ x y:Nat,(hAt T x y).Pairwise (fun a b=>zAt sp b.1<zAt sp a.1)
noncomputable def hA (up:Bool) (T:Table) (p q:Nat):Heap':=if up then hAt T p q else hAt T q p
noncomputable def ext (sd:Side) (w h:Nat):Nat:=if sd.up then w else h
section
variable {T:Table}{w h:Nat}{sp:List Spot}
end
end Pg
end Z
namespace Z
open PySem
theorem maxI_spec:∀ (r:List Int) (m:Int),(maxI m r=m∨maxI m r ∈ r)∧m≤maxI m r∧∀ a ∈ r,a≤maxI m r
 | [],m=>⟨.inl rfl,Int.le_refl _,fun a h=>by simp at h⟩
 | x::r,m=>by
  obtain ⟨h1,h2,h3⟩:=maxI_spec r (if x > m then x else m)
  show (maxI (if x > m then x else m) r=m∨_)∧m≤maxI (if x > m then x else m) r∧_
  have e:maxI m (x::r)=maxI (if x > m then x else m) r:=rfl
  rw [e]
  refine ⟨?_,?_,fun a ha=>?_⟩
  ·rcases h1 with h|h
   ·split at h
    ·rename_i hx; rw [if_pos hx,h]; exact .inr (by simp)
    ·rename_i hx; rw [if_neg hx,h]; exact .inl rfl
   ·exact .inr (List.mem_cons_of_mem _ h)
  ·split at h2
   ·rename_i hx; rw [if_pos hx]; omega
   ·rename_i hx; rw [if_neg hx]; exact h2
  ·rcases List.mem_cons.mp ha with rfl|ha
   ·split at h2
    ·rename_i hx; rw [if_pos hx]; exact h2
    ·rename_i hx; rw [if_neg hx]; omega
   ·exact h3 a ha
theorem minI_spec:∀ (r:List Int) (m:Int),(minI m r=m∨minI m r ∈ r)∧minI m r≤m∧∀ a ∈ r,minI m r≤a
 | [],m=>⟨.inl rfl,Int.le_refl _,fun a h=>by simp at h⟩
 | x::r,m=>by
  obtain ⟨h1,h2,h3⟩:=minI_spec r (if x<m then x else m)
  have e:minI m (x::r)=minI (if x<m then x else m) r:=rfl
  rw [e]
  refine ⟨?_,?_,fun a ha=>?_⟩
  ·rcases h1 with h|h
   ·split at h
    ·rename_i hx; rw [if_pos hx,h]; exact .inr (by simp)
    ·rename_i hx; rw [if_neg hx,h]; exact .inl rfl
   ·exact .inr (List.mem_cons_of_mem _ h)
  ·split at h2
   ·rename_i hx; rw [if_pos hx]; omega
   ·rename_i hx; rw [if_neg hx]; exact h2
  ·rcases List.mem_cons.mp ha with rfl|ha
   ·split at h2
    ·rename_i hx; rw [if_pos hx]; exact h2
    ·rename_i hx; rw [if_neg hx]; omega
   ·exact h3 a ha
end Z
namespace Z
open PySem
namespace Pg
section
variable {G:GS}
end
end Pg
end Z
namespace Z
open PySem
namespace Pg
section
variable {G:GS}
theorem at30 {α:Type} {a b c:α}:atI [a,b,c] 0=some a∧atI [a,b,c] 1=some b∧atI [a,b,c] 2=some c:=⟨rfl,rfl,rfl⟩
theorem ex_app {ρ:List Sl} {x:Nat} {e:IE} {d:D} {ds:List D} (h1:ev G e ρ=some d) (h2:ρ[x]?=some (.mu (.lst ds))) (h3:ds.length<1000000):ex G (.app x e) ρ=some (.nx (ρ.set x (.mu (.lst (ds++[d]))))):=by
 show (evs G e ρ).bind _=_
 rw [evs_of h1]
 show (match ρ[x]? with|some (.mu (.lst ds))=>_|_=>_)=_
 rw [h2]
 exact if_pos h3
theorem ne_self {d:D} (h1:plain d=true) (h2:deq d d=true):op2 .ne d d=some (.bl false):=by
 show oNe d d=_
 unfold oNe
 rw [h1,h2]; rfl
theorem tru_bl {b:Bool}:tru (.bl b)=some b:=rfl
structure Fold where
 sd:Side
 over:Bool
 k:Nat
noncomputable def Fold.d (f:Fold):D:=foldD f.sd f.over f.k
theorem deq_fold {f:Fold}:deq f.d f.d=true:=by
 unfold Fold.d foldD
 simp [deq,deqs]
theorem plain_fold {f:Fold}:plain f.d=true:=by
 obtain ⟨sd,over,k⟩:=f
 have:okS sd.str=true:=by cases sd<;>decide +kernel
 show (okS sd.str&&(true&&(true&&true)))=true
 rw [this]; rfl
noncomputable def i_same_folds:IS:=(.seq (.iff (.or (.not (.tr (.isi (.var 0) "list"))) (.bin .ne (.bcall .len (.cons (.var 0) .nil)) (.bcall .len (.cons (.var 1) .nil)))) (.ret false (.lit (.bl false))) .nop) (.seq (.loop [2] false .rng (.tup (.cons (.bcall .len (.cons (.var 1) .nil)) .nil)) (.seq (.set 3 (.ix (.var 0) (.var 2))) (.seq (.iff (.or (.not (.tr (.isi (.var 3) "tuple"))) (.or (.bin .ne (.bcall .len (.cons (.var 3) .nil)) (.lit (.int 3))) (.not (.tr (.isi (.ix (.var 3) (.lit (.int 0))) "str"))))) (.ret false (.lit (.bl false))) .nop) (.iff (.or (.not (.tr (.isi (.ix (.var 3) (.lit (.int 1))) "bool"))) (.or (.not (.tr (.call "_law_whole" (.cons (.ix (.var 3) (.lit (.int 2))) .nil)))) (.bin .ne (.var 3) (.ix (.var 1) (.var 2))))) (.ret false (.lit (.bl false))) .nop)))) (.ret false (.lit (.bl true)))))
theorem same_folds_ok (hw:∀ i:Int,G.fn "_law_whole" [.int i]=some (.ok (.bl true))) {F:List Fold} (hl:F.length≤1000):runF G 4 i_same_folds [.lst (F.map Fold.d),.lst (F.map Fold.d)]=some (.ok (.bl true)):=by
 refine runF_rt (ρ:=[.im (.lst (F.map Fold.d)),.im (.lst (F.map Fold.d)),.un,.un]) rfl ?_
 unfold i_same_folds
 refine ex_nx (ex_f ?_ ex_nop) ?_
 ·simp only [view_c,view1,view_nil]
  refine ev_orB (x:=false) (y:=false) (by simp only [zz,yy,z_bind,z_map,isi_lst,tru_bl,Bool.not_true]) fun _=>?_
  simp only [zz,yy,z_bind,z_map]
  simp
 obtain ⟨ρ',h1,s2,s3,rfl⟩:=forGo_all (bind:=bindT [2] false) (body:=ex G (.seq (.set 3 (.ix (.var 0) (.var 2))) (.seq (.iff (.or (.not (.tr (.isi (.var 3) "tuple"))) (.or (.bin .ne (.bcall .len (.cons (.var 3) .nil)) (.lit (.int 3))) (.not (.tr (.isi (.ix (.var 3) (.lit (.int 0))) "str"))))) (.ret false (.lit (.bl false))) .nop) (.iff (.or (.not (.tr (.isi (.ix (.var 3) (.lit (.int 1))) "bool"))) (.or (.not (.tr (.call "_law_whole" (.cons (.ix (.var 3) (.lit (.int 2))) .nil)))) (.bin .ne (.var 3) (.ix (.var 1) (.var 2))))) (.ret false (.lit (.bl false))) .nop))))
  (fun ρ=>∃ s2 s3,ρ=[.im (.lst (F.map Fold.d)),.im (.lst (F.map Fold.d)),s2,s3]) (ds:=(List.range F.length).map fun (k:Nat)=>D.int k) ⟨.un,.un,rfl⟩ (by
   rintro d hd ρ ⟨s2,s3,rfl⟩
   obtain ⟨k,hk,rfl⟩:=List.mem_map.mp hd
   have hk:=List.mem_range.mp hk
   obtain ⟨c,hc⟩:∃ c,F[k]?=some c:=⟨_,List.getElem?_eq_getElem hk⟩
   have ec:atI (F.map Fold.d) (k:Int)=some c.d:=at_nat (by rw [List.getElem?_map,hc]; rfl)
   refine ⟨_,rfl,_,ex_nx (ex_set (d:=c.d) ?_) (ex_nx (ex_f ?_ ex_nop) (ex_f ?_ ex_nop)),_,_,rfl⟩
   ·show ev G _ [.im (.lst (F.map Fold.d)),.im (.lst (F.map Fold.d)),.im (.int k),s3]=_
    simp only [zz,yy,z_bind,z_map,ec]
   ·show ev G _ (view [.im (.lst (F.map Fold.d)),.im (.lst (F.map Fold.d)),.im (.int k),.im c.d])=_
    simp only [view_c,view1,view_nil]
    unfold Fold.d foldD
    refine ev_orB (x:=false) (y:=false) (by simp only [zz,yy,z_bind,z_map,isi_tup,tru_bl,Bool.not_true]) fun _=>ev_orB (x:=false) (y:=false) ?_ fun _=>?_
    ·simp only [zz,yy,z_bind,z_map]; rfl
    ·simp only [zz,yy,z_bind,z_map,at30.1,isi_str_str,tru_bl,Bool.not_true]
   ·show ev G _ (view [.im (.lst (F.map Fold.d)),.im (.lst (F.map Fold.d)),.im (.int k),.im c.d])=_
    simp only [view_c,view1,view_nil]
    refine ev_orB (x:=false) (y:=false) (by unfold Fold.d foldD; simp only [zz,yy,z_bind,z_map,at30.2.1,isi_bl_bool,tru_bl,Bool.not_true]) fun _=>ev_orB (x:=false) (y:=false) (by unfold Fold.d foldD; simp only [zz,yy,z_bind,z_map,at30.2.2,hw,tru_bl,Bool.not_true]) fun _=>?_
    simp only [zz,yy,z_bind,z_map,ec]
    exact ne_self plain_fold deq_fold)
 refine ex_nx ((ex_loop (d:=.tup [.int ((F.length:Nat):Int)]) ?_ (it_rngN (by omega))).trans h1) (ex_ret (by simp only [zz,yy,z_bind,z_map]))
 simp only [zz,yy,z_bind,z_map,List.length_map]
end
end Pg
end Z
namespace Z
open PySem
namespace Pg
structure Sits (T:Table) (w h:Nat) (sp:List Spot):Prop where
 lk:Lk T sp
 rect:Rect T w h
 full:FullT T
 w64:w≤64
 h64:h≤64
 len:sp.length≤64
section
variable {G:GS}{T:Table}{w h:Nat}{sp:List Spot}
end
end Pg
end Z
namespace Z
open PySem
theorem ex_retm {G:GS} {ρ:List Sl} {x:Nat} {d:D} (h:ρ[x]?=some (.mu d)):ex G (.retm x) ρ=some (.rt d):=by
 show (match ρ[x]? with|some (.mu d)=>some (Out.rt d)|_=>none)=_
 rw [h]
namespace Pg
section
variable {G:GS}{T:Table}{w h:Nat}{sp:List Spot}
noncomputable def eLine (s:Spot):Int:=if s.e then s.x else s.x+1
noncomputable def nLine (s:Spot):Int:=if s.n then s.y else s.y+1
noncomputable def lineD (s:Spot):D:=.tup [.int (eLine s),.int (nLine s)]
structure Lines (sp:List Spot) (kvs:List (Int × D)) (n:Nat) (P:Nat→Spot→Prop):Prop where
 ok:∀ (k:Int) (d:D),valI kvs k=some d→∃ (i:Nat) (s:Spot),k=i∧sp[i]?=some s∧d=lineD s
 has:∀ (i:Nat) (s:Spot),sp[i]?=some s→P i s→(valI kvs i).isSome=true
 len:kvs.length≤n
end
end Pg
end Z
namespace Z
open PySem
theorem forGo_lst {α:Type} {enc:α→D} {bind:D→List Sl→Option (List Sl)} {body:List Sl→Option Out} (P:Nat→List Sl→Prop) {L:List α} {ρ:List Sl} (h0:P 0 ρ) (st:∀ k a,L[k]?=some a→∀ ρ,P k ρ→∃ ρ1,bind (enc a) ρ=some ρ1∧∃ ρ2,body ρ1=some (.nx ρ2)∧P (k+1) ρ2) :
  ∃ ρ',forGo bind body (L.map enc) ρ=some (.nx ρ')∧P L.length ρ':=by
 obtain ⟨ρ',a,b⟩:=forGo_inv (bind:=bind) (body:=body) P (ds:=L.map enc) (k:=0) h0 fun k d ρ hd hp=>by
  rw [List.getElem?_map] at hd
  obtain ⟨x,hx,rfl⟩:=Option.map_eq_some_iff.mp hd
  rw [Nat.zero_add] at hp ⊢
  exact st k x hx ρ hp
 exact ⟨ρ',a,by rw [List.length_map,Nat.zero_add] at b; exact b⟩
namespace Pg
section
variable {G:GS}{T:Table}{w h:Nat}{sp:List Spot}
end
end Pg
end Z
namespace Z
open PySem
theorem plain_map {α:Type} {f:α→D} {L:List α} (h:∀ a,flat 7 (f a)=true):plain (.lst (L.map f))=true:=by
 show (L.map f).all (flat 7)=true
 rw [List.all_map]
 exact List.all_eq_true.mpr fun a _=>h a
theorem deq_lst {xs ys:List D}:deq (.lst xs) (.lst ys)=deqs xs ys:=by rw [deq]
namespace Pg
section
variable {G:GS}
noncomputable def stepF (p:Table × Nat × Nat) (f:Fold):Table × Nat × Nat:=(foldT f.sd f.over f.k p.1,if f.sd.up then max f.k (p.2.1-f.k) else p.2.1,if f.sd.up then p.2.2 else max f.k (p.2.2-f.k))
noncomputable def runs (c r:Nat) (fs:List Fold):Table × Nat × Nat:=fs.foldl stepF (flatT c r,c,r)
structure Stg (c r:Nat) (fs:List Fold) (sp:List Spot):Prop where
 sits:Sits (runs c r fs).1 (runs c r fs).2.1 (runs c r fs).2.2 sp
 len:sp.length=c*r
def Fits (c r:Nat) (fs:List Fold) (f:Fold):Prop:=1≤f.k∧f.k<ext f.sd (runs c r fs).2.1 (runs c r fs).2.2
structure Stgs (c r:Nat) (fs:List Fold) (sps:List (List Spot)):Prop where
 len:sps.length=fs.length+1
 at_:∀ i sp,sps[i]?=some sp→Stg c r (fs.take i) sp
 ok:∀ i f,fs[i]?=some f→Fits c r (fs.take i) f
end
end Pg
end Z
namespace T15
open PySem PySem.StrLaws PySem.Builtin PySem.Builtin.Str
noncomputable def joinL (y:List Nat):List (List Nat)→List Nat
 | []=>[]
 | [p]=>p
 | p::q::r=>p++(y++joinL y (q::r))
theorem joinL_cc {y p q:List Nat} {r:List (List Nat)}:joinL y (p::q::r)=p++(y++joinL y (q::r)):=rfl
noncomputable def cutsL (w:Nat):Nat→List (List Nat)→List Nat
 | _,[]=>[]
 | _,[_]=>[]
 | a,p::q::r=>(a+p.length)::cutsL w (a+p.length+w) (q::r)
abbrev Run (x y:Str) (limit:Nat) (l:List Nat) (st:Array Nat × Nat):Array Nat × Nat:=(forIn l st (occBody x y x.length limit)).run
theorem run_app {x y:Str} {limit:Nat}:∀ (l m:List Nat) (st:Array Nat × Nat),Run x y limit (l++m) st=Run x y limit m (Run x y limit l st)
 | [],_,_=>rfl
 | a::l,m,st=>by
  show (forIn (a::(l++m)) st (occBody x y x.length limit)).run=_
  unfold Run
  rw [List.forIn_cons,List.forIn_cons]
  unfold occBody
  split
  ·exact run_app l m _
  ·exact run_app l m _
theorem run_none {x y:Str} {limit:Nat}:∀ (l:List Nat) (st:Array Nat × Nat),(∀ i ∈ l,¬ (st.2≤i∧At x y x.length i))→Run x y limit l st=st
 | [],_,_=>rfl
 | a::l,st,h=>by
  unfold Run
  rw [List.forIn_cons]
  unfold occBody
  split
  ·rename_i hc
   exact (h a List.mem_cons_self ⟨hc.1.1.2,hc.1.2,hc.2⟩).elim
  ·exact run_none l st fun i z=>h i (List.mem_cons_of_mem _ z)
theorem run_one {x y:Str} {limit a:Nat} {st:Array Nat × Nat} (h1:st.1.size<limit) (h2:st.2≤a) (h3:At x y x.length a):Run x y limit [a] st=(st.1.push a,a+y.length):=by
 unfold Run
 rw [List.forIn_cons]
 unfold occBody
 rw [if_pos ⟨⟨⟨h1,h2⟩,h3.1⟩,h3.2⟩]
 rfl
theorem at_iff {x y:Str} {i:Nat}:At x y x.length i↔i+y.length≤x.length∧(x.cps.toList.drop i).take y.length=y.cps.toList:=by
 unfold At subAt
 refine and_congr_right fun h=>?_
 rw [beq_iff_eq,← Array.toList_inj,Array.toList_extract,List.extract_eq_take_drop]
 rw [Nat.add_sub_cancel_left]
theorem at_head {x y:Str} {i c0:Nat} {q:List Nat} (hy:y.cps.toList=c0::q) (h:At x y x.length i):x.cps.toList[i]?=some c0:=by
 have e:=(at_iff.mp h).2
 rw [hy] at e
 have:((x.cps.toList.drop i).take y.length)[0]?=some c0:=by rw [e]; rfl
 rw [List.getElem?_take] at this
 split at this
 ·rw [List.getElem?_drop] at this; simpa using this
 ·cases this
theorem len_list {x:Str}:x.length=x.cps.toList.length:=by rw [Array.length_toList]; rfl
theorem occ_ok {x y:Str} {limit c0:Nat} {q:List Nat} (hy:y.cps.toList=c0::q):∀ (parts:List (List Nat)) (a:Nat) (st:Array Nat × Nat),parts≠[]→(∀ p ∈ parts,c0 ∉ p)→a≤x.length→x.cps.toList.drop a=joinL y.cps.toList parts→st.2≤a→st.1.size+parts.length≤limit →
  (Run x y limit (List.range' a (x.length+1-a)) st).1.toList=st.1.toList++cutsL y.length a parts
 | [],_,_,h,_,_,_,_,_=>(h rfl).elim
 | [p],a,st,_,hp,ha,hx,hs,hl=>by
  rw [run_none]
  ·unfold cutsL; rw [List.append_nil]
  ·rintro i hi ⟨_,hA⟩
   have hi:=List.mem_range'_1.mp hi
   have e:=at_head hy hA
   have e2:(x.cps.toList.drop a)[i-a]?=some c0:=by rw [List.getElem?_drop,show a+(i-a)=i by omega]; exact e
   rw [hx] at e2
   exact hp p List.mem_cons_self (List.mem_of_getElem? e2)
 | p::p2::r,a,st,_,hp,ha,hx,hs,hl=>by
  have hw:1≤y.length:=by rw [len_list,hy,List.length_cons]; omega
  have hlen:x.length-a=p.length+(y.length+(joinL y.cps.toList (p2::r)).length):=by
   have:=congrArg List.length hx
   rw [List.length_drop,← len_list] at this
   rw [joinL_cc,List.length_append,List.length_append,← len_list] at this
   exact this
  have e:List.range' a (x.length+1-a)=List.range' a p.length++([a+p.length]++(List.range' (a+p.length+1) (y.length-1)++List.range' (a+p.length+y.length) (x.length+1-(a+p.length+y.length)))):=by
   have e1:List.range' (a+p.length+1) (y.length-1)++List.range' (a+p.length+y.length) (x.length+1-(a+p.length+y.length))=List.range' (a+p.length+1) (x.length-a-p.length):=by
    rw [show a+p.length+y.length=a+p.length+1+1*(y.length-1) by omega,List.range'_append]
    congr 1; omega
   have e2:[a+p.length]++List.range' (a+p.length+1) (x.length-a-p.length)=List.range' (a+p.length) (x.length-a-p.length+1):=by
    rw [List.range'_succ]; rfl
   rw [e1,e2,show a+p.length=a+1*p.length by omega,List.range'_append]
   congr 1; omega
  have hd:x.cps.toList.drop (a+p.length)=y.cps.toList++joinL y.cps.toList (p2::r):=by
   rw [← List.drop_drop,hx,joinL_cc,List.drop_left]
  have hd2:x.cps.toList.drop (a+p.length+y.length)=joinL y.cps.toList (p2::r):=by
   rw [← List.drop_drop,hd,len_list,List.drop_left]
  have hA:At x y x.length (a+p.length):=at_iff.mpr ⟨by omega,by rw [hd,len_list,List.take_left]⟩
  have hsz:st.1.size<limit:=by simp only [List.length_cons] at hl; omega
  have n1:Run x y limit (List.range' a p.length) st=st:=run_none _ _ (by
   rintro i hi ⟨_,hB⟩
   have hi:=List.mem_range'_1.mp hi
   have e:=at_head hy hB
   have e2:(x.cps.toList.drop a)[i-a]?=some c0:=by rw [List.getElem?_drop,show a+(i-a)=i by omega]; exact e
   rw [hx,joinL_cc,List.getElem?_append_left (by omega)] at e2
   exact hp p List.mem_cons_self (List.mem_of_getElem? e2))
  have n2:Run x y limit (List.range' (a+p.length+1) (y.length-1)) (st.1.push (a+p.length),a+p.length+y.length)=(st.1.push (a+p.length),a+p.length+y.length):=run_none _ _ (by
   rintro i hi ⟨hf,_⟩
   have hi:=List.mem_range'_1.mp hi
   have hf:a+p.length+y.length≤i:=hf
   omega)
  rw [e,run_app,n1,run_app,run_one hsz (by omega) hA,run_app,n2,occ_ok hy (p2::r) (a+p.length+y.length) _ (List.cons_ne_nil _ _) (fun z hz=>hp z (List.mem_cons_of_mem _ hz)) (by omega) hd2 (Nat.le_refl _) (by simp only [List.length_cons,Array.size_push] at hl ⊢; omega),Array.toList_push,List.append_assoc]
  rfl
theorem parts_ok {x y:Str}:∀ (parts:List (List Nat)) (a:Nat),parts≠[]→a≤x.length→x.cps.toList.drop a=joinL y.cps.toList parts→(partsFrom x y.length a (cutsL y.length a parts)).map (fun z=>z.cps.toList)=parts
 | [],_,h,_,_=>(h rfl).elim
 | [p],a,_,ha,hx=>by
  show [(strSub x a x.length).cps.toList]=[p]
  unfold strSub
  rw [Array.toList_extract,List.extract_eq_take_drop,hx]
  show [List.take _ p]=[p]
  have:=congrArg List.length hx
  rw [List.length_drop,← len_list] at this
  unfold joinL at this
  rw [List.take_of_length_le (by omega)]
 | p::p2::r,a,_,ha,hx=>by
  have hd:x.cps.toList.drop (a+p.length)=y.cps.toList++joinL y.cps.toList (p2::r):=by
   rw [← List.drop_drop,hx,joinL_cc,List.drop_left]
  have hd2:x.cps.toList.drop (a+p.length+y.length)=joinL y.cps.toList (p2::r):=by
   rw [← List.drop_drop,hd,len_list,List.drop_left]
  have hlen:x.length-a=p.length+(y.length+(joinL y.cps.toList (p2::r)).length):=by
   have:=congrArg List.length hx
   rw [List.length_drop,← len_list] at this
   rw [joinL_cc,List.length_append,List.length_append,← len_list] at this
   exact this
  show (strSub x a (a+p.length)).cps.toList::(partsFrom x y.length (a+p.length+y.length) (cutsL y.length (a+p.length+y.length) (p2::r))).map (fun z=>z.cps.toList)=_
  rw [parts_ok (p2::r) (a+p.length+y.length) (List.cons_ne_nil _ _) (by omega) hd2]
  congr 1
  unfold strSub
  rw [Array.toList_extract,List.extract_eq_take_drop,hx,joinL_cc,show a+p.length-a=p.length by omega,List.take_left]
theorem join_list (y:Str):∀ (parts:List Str),(Str.join y parts).cps.toList=joinL y.cps.toList (parts.map fun z=>z.cps.toList)
 | []=>rfl
 | [p]=>by
  rw [PyProof.Rows.join_one]; rfl
 | p::q::r=>by
  rw [PyProof.Rows.join_cons_cons,PySem.W.KT.app_list,PySem.W.KT.app_list,join_list y (q::r),List.append_assoc]
  rfl
theorem str_ext {x y:Str} (h:x.cps.toList=y.cps.toList):x=y:=by
 cases x; cases y
 exact congrArg Str.mk (Array.toList_inj.mp h)
theorem joinL_len {y:List Nat}:∀ (parts:List (List Nat)),2≤parts.length→y.length≤(joinL y parts).length
 | [],h=>absurd h (by decide)
 | [_],h=>absurd h (by simp)
 | p::q::r,_=>by rw [joinL_cc,List.length_append,List.length_append]; omega
theorem cuts_len {w:Nat}:∀ (parts:List (List Nat)) (a:Nat),2≤parts.length→cutsL w a parts≠[]
 | [],_,h=>absurd h (by decide)
 | [_],_,h=>absurd h (by simp)
 | _::_::_,_,_=>List.cons_ne_nil _ _
theorem joinL_many {y:List Nat} (h:1≤y.length):∀ (parts:List (List Nat)),parts.length≤(joinL y parts).length+1
 | []=>Nat.zero_le _
 | [_]=>Nat.le_add_left _ _
 | p::q::r=>by
  have:=joinL_many h (q::r)
  rw [joinL_cc,List.length_append,List.length_append]
  simp only [List.length_cons] at this ⊢
  omega
theorem kind_pos (x:Str):1≤Builtin.Str.strKind x:=by
 unfold Builtin.Str.strKind
 split
 ·exact Nat.le_refl _
 split<;>decide
theorem map_inj:∀ (l m:List Str),l.map (fun z=>z.cps.toList)=m.map (fun z=>z.cps.toList)→l=m
 | [],[],_=>rfl
 | [],_::_,h=>nomatch h
 | _::_,[],h=>nomatch h
 | a::l,b::m,h=>by
  obtain ⟨h1,h2⟩:=List.cons.inj h
  rw [str_ext h1,map_inj l m h2]
theorem split_join {y:Str} {c0:Nat} {q:List Nat} (hy:y.cps.toList=c0::q) (hk:Builtin.Str.strKind y=1) {parts:List Str} (hn:parts≠[]) (hp:∀ p ∈ parts,c0 ∉ p.cps.toList):Txt.split (Str.join y parts) y=parts:=by
 have hx:=join_list y parts
 have hw:1≤y.length:=by rw [len_list,hy,List.length_cons]; omega
 have hocc:occurrences (Str.join y parts) y 0 (Str.join y parts).length ((Str.join y parts).length+1)=cutsL y.length 0 (parts.map fun z=>z.cps.toList):=by
  rw [occ_eq]
  refine (occ_ok hy (parts.map fun z=>z.cps.toList) 0 (#[],0) (by simpa using hn) (fun p hpp=>?_) (Nat.zero_le _) (by rw [List.drop_zero]; exact hx) (Nat.le_refl _) ?_).trans rfl
  ·obtain ⟨z,hz,rfl⟩:=List.mem_map.mp hpp
   exact hp z hz
  ·have:=joinL_many (y:=y.cps.toList) (by rw [← len_list]; exact hw) (parts.map fun z=>z.cps.toList)
   rw [← hx,← len_list] at this
   rw [List.length_map] at this ⊢
   show 0+parts.length≤_
   omega
 have hone:parts.length=1→[Str.join y parts]=parts:=fun h=>by
  match parts,h with
  | [p],_=>rw [PyProof.Rows.join_one]
 unfold Txt.split
 by_cases h2:2≤parts.length
 ·rw [if_neg,hocc,if_neg,partsBetween_eq]
  ·have e:=parts_ok (x:=Str.join y parts) (y:=y) (parts.map fun z=>z.cps.toList) 0 (by simpa using hn) (Nat.zero_le _) (by rw [List.drop_zero]; exact hx)
   have inj:∀ (l m:List Str),l.map (fun z=>z.cps.toList)=m.map (fun z=>z.cps.toList)→l=m:=map_inj
   exact inj _ _ e
  ·intro h
   exact cuts_len (w:=y.length) (parts.map fun z=>z.cps.toList) 0 (by rw [List.length_map]; exact h2) (List.isEmpty_iff.mp h)
  ·intro h
   rw [Bool.or_eq_true,decide_eq_true_eq,decide_eq_true_eq,hk] at h
   have k:=kind_pos (Str.join y parts)
   have l:=joinL_len (y:=y.cps.toList) (parts.map fun z=>z.cps.toList) (by rw [List.length_map]; exact h2)
   rw [← hx,← len_list,← len_list] at l
   omega
 ·have h1:parts.length=1:=by
   have:0<parts.length:=List.length_pos_iff.mpr hn
   omega
  split
  ·exact hone h1
  split
  ·exact hone h1
  ·rename_i h
   exact absurd (show (occurrences (Str.join y parts) y 0 (Str.join y parts).length ((Str.join y parts).length+1)).isEmpty=true by
    rw [hocc]
    match parts,h1 with
    | [p],_=>rfl) h
end T15
namespace Z
open PySem Pg
namespace K15
abbrev sSep:Str:=", "
abbrev sBl:Str:=" "
noncomputable def wayS (over:Bool):Str:=if over then "over" else "under"
noncomputable def numS (k:Nat):Str:=toString (k:Int)
noncomputable def wr (f:Fold):Str:=f.sd.str++sBl++wayS f.over++sBl++numS f.k
def Ok9 (f:Fold):Prop:=1≤f.k∧f.k≤999999999
def Asc (x:Str):Prop:=∀ c ∈ x.cps.toList,c<128
theorem asc_ok {x:Str} (h:Asc x):okS x=true:=by
 unfold okS
 rw [← Array.all_toList,List.all_eq_true]
 exact fun c hc=>decide_eq_true (Nat.lt_of_lt_of_le (h c hc) (by decide))
theorem app_cps (a b:Str):(a++b).cps.toList=a.cps.toList++b.cps.toList:=PySem.W.KT.app_list a b
theorem asc_app {a b:Str} (ha:Asc a) (hb:Asc b):Asc (a++b):=fun c hc=>by
 rw [app_cps] at hc
 exact (List.mem_append.mp hc).elim (ha c) (hb c)
theorem num_cps (k:Nat):(numS k).cps.toList=(Nat.toDigits 10 k).map Char.toNat:=PySem.W.KIN.signs_num k
theorem num_dig {k c:Nat} (h:c ∈ (numS k).cps.toList):48≤c∧c≤57:=by
 rw [num_cps] at h
 obtain ⟨ch,hch,rfl⟩:=List.mem_map.mp h
 exact PyProof.Rows.digit_range (Nat.isDigit_of_mem_toDigits (by decide) (by decide) hch)
theorem asc_num (k:Nat):Asc (numS k):=fun c hc=>by have:=num_dig hc; omega
theorem asc_side (sd:Side):Asc sd.str:=by cases sd<;>(unfold Asc; decide +kernel)
theorem asc_way (b:Bool):Asc (wayS b):=by cases b<;>(unfold Asc; decide +kernel)
theorem asc_bl:Asc sBl:=by unfold Asc; decide +kernel
theorem asc_sep:Asc sSep:=by unfold Asc; decide +kernel
theorem asc_wr (f:Fold):Asc (wr f):=asc_app (asc_app (asc_app (asc_app (asc_side _) asc_bl) (asc_way _)) asc_bl) (asc_num _)
theorem asc_join {y:Str} (hy:Asc y):∀ {ps:List Str},(∀ p ∈ ps,Asc p)→Asc (Str.join y ps)
 | [],_=>fun c hc=>nomatch (show c ∈ ([]:List Nat) from hc)
 | [p],h=>by rw [PyProof.Rows.join_one]; exact h p List.mem_cons_self
 | p::q::r,h=>by
  rw [PyProof.Rows.join_cons_cons]
  exact asc_app (asc_app (h p List.mem_cons_self) hy) (asc_join hy fun z hz=>h z (List.mem_cons_of_mem _ hz))
theorem side_no {sd:Side}:32 ∉ sd.str.cps.toList∧44 ∉ sd.str.cps.toList:=by cases sd<;>decide +kernel
theorem way_no {b:Bool}:32 ∉ (wayS b).cps.toList∧44 ∉ (wayS b).cps.toList:=by cases b<;>decide +kernel
theorem num_no {k:Nat}:32 ∉ (numS k).cps.toList∧44 ∉ (numS k).cps.toList:=⟨fun h=>by have:=num_dig h; omega,fun h=>by have:=num_dig h; omega⟩
theorem bl_cps:sBl.cps.toList=32 :: []:=by decide +kernel
theorem sep_cps:sSep.cps.toList=44 :: [32]:=by decide +kernel
theorem wr_no {f:Fold}:44 ∉ (wr f).cps.toList:=by
 unfold wr
 simp only [app_cps,bl_cps,List.mem_append,not_or]
 exact ⟨⟨⟨⟨side_no.2,by decide⟩,way_no.2⟩,by decide⟩,num_no.2⟩
theorem split_row {F:List Fold} (h:F≠[]):Txt.split (Str.join sSep (F.map wr)) sSep=F.map wr:=
 T15.split_join sep_cps (by decide +kernel) (by simpa using h) fun p hp=>by
  obtain ⟨f,_,rfl⟩:=List.mem_map.mp hp
  exact wr_no
theorem wr_join (f:Fold):wr f=Str.join sBl [f.sd.str,wayS f.over,numS f.k]:=by
 rw [PyProof.Rows.join_cons_cons,PyProof.Rows.join_cons_cons,PyProof.Rows.join_one]
 refine T15.str_ext ?_
 unfold wr
 simp only [app_cps,List.append_assoc]
theorem split_wr (f:Fold):Txt.split (wr f) sBl=[f.sd.str,wayS f.over,numS f.k]:=by
 rw [wr_join]
 refine T15.split_join bl_cps (by decide +kernel) (by simp) fun p hp=>?_
 simp only [List.mem_cons,List.not_mem_nil,or_false] at hp
 rcases hp with rfl|rfl|rfl
 ·exact side_no.1
 ·exact way_no.1
 ·exact num_no.1
theorem num_len {k:Nat} (h:k≤999999999):(numS k).length≤9:=PyProof.Rows.toString_length_le (v:=(k:Int)) (by omega) (k:=9) (by decide) (by omega)
theorem head_dig (m:Nat):0<m→∃ c r,Nat.toDigits 10 m=c::r∧c≠'0':=by
 induction m using Nat.strongRecOn with
 | _ m ih =>
  intro hm
  by_cases h:m<10
  ·rw [Nat.toDigits_of_lt_base h]
   exact ⟨_,[],rfl,by
    have:∀ d:Nat,d<10→0<d→Nat.digitChar d≠'0':=by decide
    exact this m h hm⟩
  ·have hr:m % 10<10:=Nat.mod_lt m (by decide)
   have t:Nat.toDigits 10 (m / 10)++Nat.toDigits 10 (m % 10)=Nat.toDigits 10 (10*(m / 10)+m % 10):=Nat.toDigits_append_toDigits (by decide) (by omega) hr
   rw [Nat.div_add_mod] at t
   obtain ⟨c,r,e,hc⟩:=ih (m / 10) (by omega) (by omega)
   exact ⟨c,_,by rw [← t,e]; rfl,hc⟩
theorem num_head {k:Nat} (h:0<k):∃ c r,(numS k).cps.toList=c::r∧c≠48:=by
 obtain ⟨c,r,e,hc⟩:=head_dig k h
 refine ⟨c.toNat,r.map Char.toNat,by rw [num_cps,e]; rfl,fun z=>hc ?_⟩
 exact Char.ext (UInt32.toNat_inj.mp z)
noncomputable def b_row:IS:=(.seq (.set 5 (.bin .add (.lit (.int 1)) (.bin .mod (.bin .fdiv (.var 4) (.lit (.int 8))) (.ix (.lst (.cons (.lit (.int 9)) (.cons (.lit (.int 40)) (.cons (.lit (.int 1000)) (.cons (.lit (.int 999999999)) .nil))))) (.bin .mod (.bin .fdiv (.var 4) (.lit (.int 4))) (.lit (.int 4))))))) (.app 3 (.tup (.cons (.ix (.lst (.cons (.lit (.str "west")) (.cons (.lit (.str "east")) (.cons (.lit (.str "north")) (.cons (.lit (.str "south")) .nil))))) (.bin .mod (.var 4) (.lit (.int 4)))) (.cons (.bin .eq (.bin .mod (.bin .fdiv (.var 4) (.lit (.int 16))) (.lit (.int 2))) (.lit (.int 1))) (.cons (.var 5) .nil))))))
noncomputable def i_row_by:IS:=(.seq (.setm 3 (.lst .nil)) (.seq (.loop [4] false .seq (.sl (.var 0) true (.var 1) true (.bin .add (.var 1) (.var 2))) b_row) (.retm 3)))
noncomputable def i_read:IS:=(.seq (.iff (.bin .eq (.var 0) (.lit (.str ""))) (.ret true (.lst .nil)) .nop) (.ret true (.comp 2 [] [1] false .seq (.meth (.var 0) "split" (.cons (.lit (.str ", ")) .nil)) (.lit (.bl true)) (.call "read_fold" (.cons (.var 1) .nil)))))
noncomputable def i_read_fold:IS:=(.seq (.set 1 (.meth (.var 0) "split" (.cons (.lit (.str " ")) .nil))) (.seq (.iff (.or (.bin .ne (.bcall .len (.cons (.var 1) .nil)) (.lit (.int 3))) (.or (.bin .notin (.ix (.var 1) (.lit (.int 0))) (.bin .add (.glo "UPRIGHT_SIDES") (.glo "LEVEL_SIDES"))) (.inC true "WAYS" (.ix (.var 1) (.lit (.int 1)))))) (.rse "NoWord") .nop) (.ret false (.tup (.cons (.ix (.var 1) (.lit (.int 0))) (.cons (.ixC "WAYS" (.ix (.var 1) (.lit (.int 1)))) (.cons (.call "read_crease" (.cons (.ix (.var 1) (.lit (.int 2))) .nil)) .nil)))))))
noncomputable def i_read_crease:IS:=(.seq (.iff (.or (.not (.tr (.bcall .all (.cons (.comp 2 [] [1] false .seq (.var 0) (.lit (.bl true)) (.bin .isin (.var 1) (.glo "FIGURES"))) .nil)))) (.bin .gt (.bcall .len (.cons (.var 0) .nil)) (.glo "MOST_FIGURES"))) (.rse "NoWord") .nop) (.seq (.iff (.or (.bin .eq (.var 0) (.lit (.str ""))) (.tr (.meth (.var 0) "startswith" (.cons (.lit (.str "0")) .nil)))) (.rse "NoWord") .nop) (.ret false (.bcall .int (.cons (.var 0) .nil)))))
noncomputable def i_written:IS:=(.seq (.set 1 (.ite (.tr (.ix (.var 0) (.lit (.int 1)))) (.lit (.str "over")) (.lit (.str "under")))) (.ret false (.bin .add (.bin .add (.bin .add (.bin .add (.ix (.var 0) (.lit (.int 0))) (.lit (.str " "))) (.var 1)) (.lit (.str " "))) (.bcall .str (.cons (.ix (.var 0) (.lit (.int 2))) .nil)))))
section
variable {G:GS}
theorem add_str {a b:Str} (h:a.length+b.length≤1000000):op2 .add (.str a) (.str b)=some (.str (a++b)):=if_pos h
theorem ev_addS {ρ:List Sl} {a b:IE} {x y:Str} (ha:ev G a ρ=some (.str x)) (hb:ev G b ρ=some (.str y)) (h:x.length+y.length≤1000000):ev G (.bin .add a b) ρ=some (.str (x++y)):=by rw [ev_bin,ha,hb]; exact add_str h
theorem side_len {sd:Side}:sd.str.length≤5:=by cases sd<;>decide +kernel
theorem way_len {b:Bool}:(wayS b).length≤5:=by cases b<;>decide +kernel
theorem bl_len:sBl.length=1:=by decide +kernel
theorem len_app {a b:Str}:(a++b).length=a.length+b.length:=PySem.strLen_append a b
theorem log_num {k:Nat} (h:k≤999999999):((k:Int)).natAbs.log2<1920:=by
 have e:((k:Int)).natAbs=k:=by omega
 rw [e]
 by_cases z:k=0
 ·subst z; decide
 ·exact Nat.lt_of_lt_of_le ((Nat.log2_lt z).mpr (Nat.lt_of_le_of_lt h (by decide:999999999<2 ^ 30))) (by decide)
theorem wr_len {f:Fold} (h:Ok9 f):(wr f).length≤30:=by
 have h1:=side_len (sd:=f.sd)
 have h2:=way_len (b:=f.over)
 have h3:=num_len h.2
 have h4:=bl_len
 unfold wr
 simp only [len_app]
 omega
theorem ite_way {ρ:List Sl} {t:IE} {over:Bool} (h:ev G t ρ=some (.bl over)):ev G (.ite (.tr t) (.lit (.str "over")) (.lit (.str "under"))) ρ=some (.str (wayS over)):=by
 rw [ev_ite,ev_tr,h]
 cases over<;>rfl
theorem written_ok {f:Fold} (h:Ok9 f):runF G 2 i_written [f.d]=some (.ok (.str (wr f))):=by
 have h1:=side_len (sd:=f.sd)
 have h2:=way_len (b:=f.over)
 have h3:=num_len h.2
 have h4:=bl_len
 refine runF_rt (ρ:=[.im f.d,.un]) rfl (ex_nx (ex_set (ite_way (over:=f.over) rfl)) (ex_ret ?_))
 show ev G _ [.im f.d,.im (.str (wayS f.over))]=_
 have e1:ev G (.ix (.var 0) (.lit (.int 0))) [.im f.d,.im (.str (wayS f.over))]=some (.str f.sd.str):=rfl
 have e2:ev G (.bcall .str (.cons (.ix (.var 0) (.lit (.int 2))) .nil)) [.im f.d,.im (.str (wayS f.over))]=some (.str (numS f.k)):=by
  show fStr [.int f.k]=_
  exact if_pos (log_num h.2)
 exact ev_addS (ev_addS (ev_addS (ev_addS e1 (y:=sBl) rfl (by omega)) (y:=wayS f.over) rfl (by rw [len_app]; omega)) (y:=sBl) rfl (by rw [len_app,len_app]; omega)) e2 (by rw [len_app,len_app,len_app]; omega)
theorem strs_map {α:Type} {g:α→Str}:∀ {L:List α},strsD (L.map fun a=>D.str (g a))=some (L.map g)
 | []=>rfl
 | a::r=>by
  show (strsD (r.map fun a=>D.str (g a))).map (g a :: ·)=_
  rw [strs_map]; rfl
noncomputable def txt (F:List Fold):Str:=Str.join sSep (F.map wr)
theorem fig_in {c:Nat} (h0:48≤c) (h1:c≤57):op2 .isin (.str ⟨#[c]⟩) (.str "0123456789")=some (.bl true):=by
 have:∀ d:Nat,d<10→(Builtin.Str.occurrences ("0123456789":Str) ⟨#[48+d]⟩ 0 ("0123456789":Str).length 1).isEmpty=false:=by decide +kernel
 have e:=this (c-48) (by omega)
 rw [show 48+(c-48)=c by omega] at e
 show some (D.bl (!(Builtin.Str.occurrences ("0123456789":Str) ⟨#[c]⟩ 0 ("0123456789":Str).length 1).isEmpty))=_
 rw [e]; rfl
theorem bools_t {α:Type}:∀ {L:List α},boolsD (L.map fun _=>D.bl true)=some (L.map fun _=>true)
 | []=>rfl
 | a::r=>by
  show (boolsD (r.map fun _=>D.bl true)).map (true :: ·)=_
  rw [bools_t]; rfl
theorem all_t {α:Type} {L:List α}:fAll [.lst (L.map fun _=>D.bl true)]=some (.bl true):=by
 show (boolsD _).map _=_
 rw [bools_t]
 show some (D.bl ((L.map fun _=>true).all id))=_
 rw [List.all_eq_true.mpr (fun b hb=>by obtain ⟨_,_,rfl⟩:=List.mem_map.mp hb; rfl)]
theorem sm_starts {x y:Str}:smD "startswith" [.str x,.str y]=some (.bl (Txt.startswith x y)):=by
 unfold smD
 rw [if_neg (by decide +kernel),if_neg (by decide +kernel),if_pos rfl]; rfl
theorem sm_split {x y:Str} (h:(y.length == 0)=false) (h2:x.length+2≤1000000):smD "split" [.str x,.str y]=some (.lst ((Txt.split x y).map .str)):=by
 unfold smD
 rw [if_neg (by decide +kernel),if_pos rfl]
 exact if_pos ⟨h,h2⟩
theorem eq_str {x y:Str} (h1:okS x=true) (h2:okS y=true):op2 .eq (.str x) (.str y)=some (.bl (x == y)):=by
 show oEq _ _=_
 unfold oEq
 rw [show plain (.str x)=true from h1,show plain (.str y)=true from h2]; rfl
theorem starts_no {x:Str} {c:Nat} {r:List Nat} (h:x.cps.toList=c::r) (hc:c≠48):Txt.startswith x "0" = false:=by
 unfold Txt.startswith Builtin.Str.subAt
 rw [Bool.and_eq_false_iff]
 right
 rw [Bool.eq_false_iff]
 intro z
 rw [beq_iff_eq,← Array.toList_inj,Array.toList_extract,h] at z
 have e:("0":Str).cps.toList=[48]:=by decide +kernel
 have l:("0":Str).length=1:=by decide +kernel
 rw [e,l] at z
 have z:[c]=[48]:=z
 exact hc (List.cons.inj z).1
theorem crease_ok (hf:G.cst "FIGURES" = some (.str "0123456789")) (hm:G.cst "MOST_FIGURES" = some (.int 9)) {k:Nat} (h1:1≤k) (h9:k≤999999999):runF G 1 i_read_crease [.str (numS k)]=some (.ok (.int k)):=by
 have hl:=num_len h9
 have hb:big=1000000:=rfl
 obtain ⟨c,r,ec,hc⟩:=num_head h1
 refine runF_rt (ρ:=[.im (.str (numS k))]) rfl (ex_nx (ex_f ?_ ex_nop) (ex_nx (ex_f ?_ ex_nop) (ex_ret ?_)))
 ·show ev G _ [.im (.str (numS k))]=_
  refine ev_orB (x:=false) (y:=false) ?_ fun _=>?_
  ·have e:ev G (.comp 2 [] [1] false .seq (.var 0) (.lit (.bl true)) (.bin .isin (.var 1) (.glo "FIGURES"))) [.im (.str (numS k))]=some (.lst ((numS k).cps.toList.map fun _=>D.bl true)):=by
    refine ev_compT (L:=(numS k).cps.toList) (fun c=>D.str ⟨#[c]⟩) (fun _=>D.bl true) (s:=.str (numS k)) rfl (if_pos (by omega)) fun c hc=>⟨[.un,.im (.str ⟨#[c]⟩)],rfl,rfl,?_⟩
    have:=num_dig hc
    rw [ev_bin,ev_glo,hf]
    exact fig_in this.1 this.2
   rw [ev_not,ev_tr,ev_bcall,ev_cons,e]
   show ((((fAll [.lst ((numS k).cps.toList.map fun _=>D.bl true)]).bind fun x=>(tru x).map D.bl).bind _):Option D)=_
   rw [all_t]; rfl
  ·rw [ev_bin,ev_bcall,ev_glo,hm]
   show (fLen [.str (numS k)]).bind _=_
   rw [show fLen [.str (numS k)]=some (.int (numS k).length) from if_pos (by omega)]
   show some (D.bl (decide ((9:Int)<((numS k).length:Nat))))=_
   rw [decide_eq_false (by omega)]
 ·show ev G _ [.im (.str (numS k))]=_
  refine ev_orB (x:=false) (y:=false) ?_ fun _=>?_
  ·rw [ev_bin]
   show op2 .eq (.str (numS k)) (.str "")=_
   rw [eq_str (asc_ok (asc_num k)) (by decide +kernel)]
   have:(numS k == ("":Str))=false:=by
    rw [beq_eq_false_iff_ne]
    intro z
    rw [z] at ec
    exact nomatch (show ([]:List Nat)=c::r from ec)
   rw [this]
  ·rw [ev_tr,ev_meth]
   show ((smD "startswith" [.str (numS k),.str "0"]).bind fun x=>(tru x).map D.bl)=_
   rw [sm_starts,starts_no ec hc]
   rfl
 ·rw [ev_bcall]
  show fInt [.str (numS k)]=_
  have e:PySem.intText? (numS k)=some (k:Int):=PySem.W.KIN.num_reads (n:=(k:Int)) (by omega) (by omega)
  show (if (numS k).length≤640 then (PySem.intText? (numS k)).map D.int else none)=_
  rw [if_pos (by omega),e]; rfl
noncomputable def kWays:List (Str × D):=[("over",.bl true),("under",.bl false)]
theorem notin4 {sd:Side}:op2 .notin (.str sd.str) (.tup [.str "west",.str "east",.str "north",.str "south"])=some (.bl false):=by
 show (if plain (.str sd.str) && [D.str "west",.str "east",.str "north",.str "south"].all plain then some (D.bl (![D.str "west",.str "east",.str "north",.str "south"].any fun y=>deq y (.str sd.str))) else none)=_
 rw [if_pos (by cases sd<;>decide +kernel)]
 have:([D.str "west",.str "east",.str "north",.str "south"].any fun y=>deq y (.str sd.str))=true:=by cases sd<;>decide +kernel
 rw [this]; rfl
theorem sides4:op2 .add cUP cLV=some (.tup [.str "west",.str "east",.str "north",.str "south"]):=rfl
theorem way_at {b:Bool}:kWays.lookup (wayS b)=some (.bl b):=by cases b<;>rfl
theorem fold_ok (h1:G.cst "UPRIGHT_SIDES" = some cUP) (h2:G.cst "LEVEL_SIDES" = some cLV) (hw:G.dk "WAYS" = some kWays) (hc:∀ k:Nat,1≤k→k≤999999999→G.fn "read_crease" [.str (numS k)]=some (.ok (.int k))) {f:Fold} (h:Ok9 f):runF G 2 i_read_fold [.str (wr f)]=some (.ok f.d):=by
 have hl:=wr_len h
 have e0:ev G (.meth (.var 0) "split" (.cons (.lit (.str " ")) .nil)) [.im (.str (wr f)),.un]=some (.lst [.str f.sd.str,.str (wayS f.over),.str (numS f.k)]):=by
  rw [ev_meth]
  show smD "split" [.str (wr f),.str sBl]=_
  rw [sm_split (by decide +kernel) (by omega),split_wr]; rfl
 have i0:∀ s,ev G (.ix (.var 1) (.lit (.int 0))) [s,.im (.lst [.str f.sd.str,.str (wayS f.over),.str (numS f.k)])]=some (.str f.sd.str):=fun _=>rfl
 have i1:∀ s,ev G (.ix (.var 1) (.lit (.int 1))) [s,.im (.lst [.str f.sd.str,.str (wayS f.over),.str (numS f.k)])]=some (.str (wayS f.over)):=fun _=>rfl
 have i2:∀ s,ev G (.ix (.var 1) (.lit (.int 2))) [s,.im (.lst [.str f.sd.str,.str (wayS f.over),.str (numS f.k)])]=some (.str (numS f.k)):=fun _=>rfl
 refine runF_rt (ρ:=[.im (.str (wr f)),.un]) rfl (ex_nx (ex_set e0) (ex_nx (ex_f ?_ ex_nop) (ex_ret ?_)))
 ·show ev G _ [.im (.str (wr f)),.im (.lst [.str f.sd.str,.str (wayS f.over),.str (numS f.k)])]=_
  refine ev_orB (x:=false) (y:=false) rfl fun _=>ev_orB (x:=false) (y:=false) ?_ fun _=>?_
  ·rw [ev_bin,i0,ev_bin,ev_glo,ev_glo,h1,h2]
   show ((op2 .add cUP cLV).bind fun y=>op2 .notin (.str f.sd.str) y)=_
   rw [sides4]
   exact notin4
  ·show (G.dk "WAYS").map (fun kvs=>D.bl (true != (kvs.lookup (wayS f.over)).isSome))=_
   rw [hw]
   show some (D.bl (true != (kWays.lookup (wayS f.over)).isSome))=_
   rw [way_at]; rfl
 ·show ev G _ [.im (.str (wr f)),.im (.lst [.str f.sd.str,.str (wayS f.over),.str (numS f.k)])]=_
  have w1:ev G (.ixC "WAYS" (.ix (.var 1) (.lit (.int 1)))) [.im (.str (wr f)),.im (.lst [.str f.sd.str,.str (wayS f.over),.str (numS f.k)])]=some (.bl f.over):=by
   show (G.dk "WAYS").bind (fun kvs=>kvs.lookup (wayS f.over))=_
   rw [hw]
   exact way_at
  have w2:ev G (.call "read_crease" (.cons (.ix (.var 1) (.lit (.int 2))) .nil)) [.im (.str (wr f)),.im (.lst [.str f.sd.str,.str (wayS f.over),.str (numS f.k)])]=some (.int f.k):=by
   rw [ev_call]
   show okOf (G.fn "read_crease" [.str (numS f.k)])=_
   rw [hc f.k h.1 h.2]; rfl
  rw [ev_tup,ev_cons,ev_cons,ev_cons,i0,w1,w2]
  rfl
theorem txt_len:∀ {F:List Fold},(∀ f ∈ F,Ok9 f)→(txt F).length≤32*F.length
 | [],_=>Nat.le_refl _
 | [f],h=>by
  have:=wr_len (h f List.mem_cons_self)
  show (Str.join sSep [wr f]).length≤32
  rw [PyProof.Rows.join_one]; omega
 | f::g::r,h=>by
  have h1:=wr_len (h f List.mem_cons_self)
  have h2:=txt_len (F:=g::r) fun z hz=>h z (List.mem_cons_of_mem _ hz)
  have e:sSep.length=2:=by decide +kernel
  show (Str.join sSep (wr f::wr g::r.map wr)).length≤_
  rw [PyProof.Rows.join_cons_cons,len_app,len_app,e]
  simp only [List.length_cons] at h2 ⊢
  have h2:(Str.join sSep (wr g::r.map wr)).length≤32*(r.length+1):=h2
  omega
theorem asc_txt {F:List Fold}:Asc (txt F):=asc_join asc_sep fun p hp=>by
 obtain ⟨f,_,rfl⟩:=List.mem_map.mp hp
 exact asc_wr f
theorem txt_ne {F:List Fold} (h:F≠[]):(txt F == ("":Str))=false:=by
 rw [beq_eq_false_iff_ne]
 intro z
 have e:=split_row h
 rw [show Str.join sSep (F.map wr)=txt F from rfl,z] at e
 have e2:Txt.split ("":Str) sSep=[("":Str)]:=by decide +kernel
 rw [e2] at e
 match F,h with
 | f::r,_ =>
  have e3:=(List.cons.inj e).1
  have e4:=congrArg (fun x:Str=>x.cps.toList) e3
  unfold wr at e4
  simp only [app_cps,bl_cps] at e4
  exact nomatch (List.append_eq_nil_iff.mp (List.append_eq_nil_iff.mp (List.append_eq_nil_iff.mp (List.append_eq_nil_iff.mp e4.symm).1).1).1).2
theorem read_ok (hr:∀ f,Ok9 f→G.fn "read_fold" [.str (wr f)]=some (.ok f.d)) {F:List Fold} (h:∀ f ∈ F,Ok9 f) (hl:F.length≤30):runF G 1 i_read [.str (txt F)]=some (.ok (.lst (F.map Fold.d))):=by
 by_cases hn:F=[]
 ·subst hn
  refine runF_rt (ρ:=[.im (.str (txt []))]) rfl (ex_st (ex_t ?_ (ex_ret rfl)) fun _ z=>nomatch z)
  show op2 .eq (.str (txt [])) (.str "")=_
  rw [eq_str (asc_ok asc_txt) (by decide +kernel)]
  rfl
 ·have tl:=txt_len h
  refine runF_rt (ρ:=[.im (.str (txt F))]) rfl (ex_nx (ex_f ?_ ex_nop) (ex_ret ?_))
  ·show op2 .eq (.str (txt F)) (.str "")=_
   rw [eq_str (asc_ok asc_txt) (by decide +kernel),txt_ne hn]
  ·have e:ev G (.meth (.var 0) "split" (.cons (.lit (.str ", ")) .nil)) [.im (.str (txt F))]=some (.lst (F.map fun f=>D.str (wr f))):=by
    rw [ev_meth]
    show smD "split" [.str (txt F),.str sSep]=_
    rw [sm_split (by decide +kernel) (by omega),show Txt.split (txt F) sSep=F.map wr from split_row hn,List.map_map]; rfl
   refine ev_compT (L:=F) (fun f=>D.str (wr f)) Fold.d (s:=.lst (F.map fun f=>D.str (wr f))) e rfl fun f hf=>⟨[.un,.im (.str (wr f))],rfl,rfl,?_⟩
   rw [ev_call]
   show okOf (G.fn "read_fold" [.str (wr f)])=_
   rw [hr f (h f hf)]; rfl
theorem four {m:Int} (h0:0≤m) (h1:m<4):m=0∨m=1∨m=2∨m=3:=by omega
theorem most4 {m:Int} (h0:0≤m) (h1:m<4):∃ v:Int,atI [D.int 9,.int 40,.int 1000,.int 999999999] m=some (.int v)∧1≤v∧v≤999999999:=by
 rcases four h0 h1 with rfl|rfl|rfl|rfl
 ·exact ⟨9,rfl,by decide,by decide⟩
 ·exact ⟨40,rfl,by decide,by decide⟩
 ·exact ⟨1000,rfl,by decide,by decide⟩
 ·exact ⟨999999999,rfl,by decide,by decide⟩
theorem side4 {m:Int} (h0:0≤m) (h1:m<4):∃ sd:Side,atI [D.str "west",.str "east",.str "north",.str "south"] m=some (.str sd.str):=by
 rcases four h0 h1 with rfl|rfl|rfl|rfl
 ·exact ⟨.west,rfl⟩
 ·exact ⟨.east,rfl⟩
 ·exact ⟨.north,rfl⟩
 ·exact ⟨.south,rfl⟩
theorem row_step {z:Int} {A:List D} {F:List Fold} {s0 s1 s2 s5:Sl} (hl:F.length<1000):∃ f s5',Ok9 f∧ex G b_row [s0,s1,s2,.mu (.lst (F.map Fold.d)),.im (.int z),s5]=some (.nx [s0,s1,s2,.mu (.lst ((F++[f]).map Fold.d)),.im (.int z),s5']):=by
 obtain ⟨v,hv,v1,v9⟩:=most4 (m:=z / 4 % 4) (by omega) (by omega)
 obtain ⟨sd,hs⟩:=side4 (m:=z % 4) (by omega) (by omega)
 have r0:=Int.emod_nonneg (z / 8) (show v≠0 by omega)
 have r1:=Int.emod_lt_of_pos (z / 8) (show 0<v by omega)
 refine ⟨⟨sd,z / 16 % 2 == 1,(1+z / 8 % v).toNat⟩,.im (.int (1+z / 8 % v)),⟨?_,?_⟩,?_⟩
 ·show 1≤(1+z / 8 % v).toNat
  omega
 ·show (1+z / 8 % v).toNat≤999999999
  omega
 ·refine ex_nx (ex_set (d:=.int (1+z / 8 % v)) ?_) ((ex_app (d:=foldD sd (z / 16 % 2 == 1) (1+z / 8 % v).toNat) (ds:=F.map Fold.d) ?_ rfl (by rw [List.length_map]; omega)).trans ?_)
  ·have e:ev G (.ix (.lst (.cons (.lit (.int 9)) (.cons (.lit (.int 40)) (.cons (.lit (.int 1000)) (.cons (.lit (.int 999999999)) .nil))))) (.bin .mod (.bin .fdiv (.var 4) (.lit (.int 4))) (.lit (.int 4)))) [s0,s1,s2,.mu (.lst (F.map Fold.d)),.im (.int z),s5]=some (.int v):=by
    rw [ev_ix]
    show atI [D.int 9,.int 40,.int 1000,.int 999999999] (z / 4 % 4)=_
    exact hv
   rw [ev_bin,ev_bin,e]
   show (op2 .mod (.int (z / 8)) (.int v)).bind _=_
   rw [o_mod (by omega)]
   rfl
  ·have e:ev G (.ix (.lst (.cons (.lit (.str "west")) (.cons (.lit (.str "east")) (.cons (.lit (.str "north")) (.cons (.lit (.str "south")) .nil))))) (.bin .mod (.var 4) (.lit (.int 4)))) [s0,s1,s2,.mu (.lst (F.map Fold.d)),.im (.int z),.im (.int (1+z / 8 % v))]=some (.str sd.str):=by
    rw [ev_ix]
    show atI [D.str "west",.str "east",.str "north",.str "south"] (z % 4)=_
    exact hs
   show ev G _ [s0,s1,s2,.mu (.lst (F.map Fold.d)),.im (.int z),.im (.int (1+z / 8 % v))]=_
   rw [ev_tup,ev_cons,e]
   show some (D.tup [.str sd.str,.bl (z / 16 % 2 == 1),.int (1+z / 8 % v)])=some (D.tup [.str sd.str,.bl (z / 16 % 2 == 1),.int ((1+z / 8 % v).toNat:Int)])
   rw [Int.toNat_of_nonneg (by omega)]
  ·rw [List.map_append]; rfl
theorem flat_folds {F:List Fold}:plain (.lst (F.map Fold.d))=true:=plain_map fun f=>by
 have:=plain_fold (f:=f)
 obtain ⟨sd,over,k⟩:=f
 have:okS sd.str=true:=by cases sd<;>decide +kernel
 show (okS sd.str&&(true&&(true&&true)))=true
 rw [this]; rfl
end
end K15
end Z
namespace T14
open PySem PySem.StrLaws PySem.Builtin PySem.Builtin.Str T15
def Ok2 (c0 c1:Nat) (p:List Nat):Prop:=∀ i:Nat,¬ (p[i]?=some c0∧p[i+1]?=some c1)
theorem at_two {x y:Str} {i c0 c1:Nat} (hy:y.cps.toList=[c0,c1]) (h:At x y x.length i):x.cps.toList[i]?=some c0∧x.cps.toList[i+1]?=some c1:=by
 have e:=(at_iff.mp h).2
 rw [hy] at e
 have l:y.length=2:=by rw [len_list,hy]; rfl
 rw [l] at e
 have g:∀ j,j<2→x.cps.toList[i+j]?=([c0,c1]:List Nat)[j]?:=fun j hj=>by
  rw [← e,List.getElem?_take,if_pos hj,List.getElem?_drop]
 exact ⟨g 0 (by decide),g 1 (by decide)⟩
theorem occ2_ok {x y:Str} {limit c0 c1:Nat} (hy:y.cps.toList=[c0,c1]) (hne:c0≠c1):∀ (parts:List (List Nat)) (a:Nat) (st:Array Nat × Nat),parts≠[]→(∀ p ∈ parts,Ok2 c0 c1 p)→a≤x.length→x.cps.toList.drop a=joinL y.cps.toList parts→st.2≤a→st.1.size+parts.length≤limit →
  (Run x y limit (List.range' a (x.length+1-a)) st).1.toList=st.1.toList++cutsL y.length a parts
 | [],_,_,h,_,_,_,_,_=>(h rfl).elim
 | [p],a,st,_,hp,ha,hx,hs,hl=>by
  rw [run_none]
  ·unfold cutsL; rw [List.append_nil]
  ·rintro i hi ⟨_,hA⟩
   have hi:=List.mem_range'_1.mp hi
   have e:=at_two hy hA
   have e2:∀ j,(x.cps.toList.drop a)[i-a+j]?=x.cps.toList[i+j]?:=fun j=>by rw [List.getElem?_drop,show a+(i-a+j)=i+j by omega]
   have e0:=e2 0
   have e1:=e2 1
   rw [hx] at e0 e1
   exact hp p List.mem_cons_self (i-a) ⟨e0.trans e.1,e1.trans e.2⟩
 | p::p2::r,a,st,_,hp,ha,hx,hs,hl=>by
  have hy2:y.length=2:=by rw [len_list,hy]; rfl
  have hlen:x.length-a=p.length+(y.length+(joinL y.cps.toList (p2::r)).length):=by
   have:=congrArg List.length hx
   rw [List.length_drop,← len_list] at this
   rw [joinL_cc,List.length_append,List.length_append,← len_list] at this
   exact this
  have e:List.range' a (x.length+1-a)=List.range' a p.length++([a+p.length]++(List.range' (a+p.length+1) (y.length-1)++List.range' (a+p.length+y.length) (x.length+1-(a+p.length+y.length)))):=by
   have e1:List.range' (a+p.length+1) (y.length-1)++List.range' (a+p.length+y.length) (x.length+1-(a+p.length+y.length))=List.range' (a+p.length+1) (x.length-a-p.length):=by
    rw [show a+p.length+y.length=a+p.length+1+1*(y.length-1) by omega,List.range'_append]
    congr 1; omega
   have e2:[a+p.length]++List.range' (a+p.length+1) (x.length-a-p.length)=List.range' (a+p.length) (x.length-a-p.length+1):=by
    rw [List.range'_succ]; rfl
   rw [e1,e2,show a+p.length=a+1*p.length by omega,List.range'_append]
   congr 1; omega
  have hd:x.cps.toList.drop (a+p.length)=y.cps.toList++joinL y.cps.toList (p2::r):=by
   rw [← List.drop_drop,hx,joinL_cc,List.drop_left]
  have hd2:x.cps.toList.drop (a+p.length+y.length)=joinL y.cps.toList (p2::r):=by
   rw [← List.drop_drop,hd,len_list,List.drop_left]
  have hA:At x y x.length (a+p.length):=at_iff.mpr ⟨by omega,by rw [hd,len_list,List.take_left]⟩
  have hsz:st.1.size<limit:=by simp only [List.length_cons] at hl; omega
  have n1:Run x y limit (List.range' a p.length) st=st:=run_none _ _ (by
   rintro i hi ⟨_,hB⟩
   have hi:=List.mem_range'_1.mp hi
   have e:=at_two hy hB
   have e2:∀ j,(x.cps.toList.drop a)[i-a+j]?=x.cps.toList[i+j]?:=fun j=>by rw [List.getElem?_drop,show a+(i-a+j)=i+j by omega]
   have e0:=e2 0
   have e1:=e2 1
   rw [hx,joinL_cc,List.getElem?_append_left (by omega)] at e0
   by_cases hq:i-a+1<p.length
   ·rw [hx,joinL_cc,List.getElem?_append_left hq] at e1
    exact hp p List.mem_cons_self (i-a) ⟨e0.trans e.1,e1.trans e.2⟩
   ·rw [hx,joinL_cc,List.getElem?_append_right (by omega),show i-a+1-p.length=0 by omega,hy] at e1
    have:some c0=some c1:=e1.trans e.2
    exact hne (Option.some.inj this))
  have n2:Run x y limit (List.range' (a+p.length+1) (y.length-1)) (st.1.push (a+p.length),a+p.length+y.length)=(st.1.push (a+p.length),a+p.length+y.length):=run_none _ _ (by
   rintro i hi ⟨hf,_⟩
   have hi:=List.mem_range'_1.mp hi
   have hf:a+p.length+y.length≤i:=hf
   omega)
  rw [e,run_app,n1,run_app,run_one hsz (by omega) hA,run_app,n2,occ2_ok hy hne (p2::r) (a+p.length+y.length) _ (List.cons_ne_nil _ _) (fun z hz=>hp z (List.mem_cons_of_mem _ hz)) (by omega) hd2 (Nat.le_refl _) (by simp only [List.length_cons,Array.size_push] at hl ⊢; omega),Array.toList_push,List.append_assoc]
  rfl
section
variable {y:Str}{c0 c1:Nat}(hy:y.cps.toList=[c0,c1])(hne:c0≠c1){parts:List Str}(hn:parts≠[])(hp:∀ p ∈ parts,Ok2 c0 c1 p.cps.toList)
include hy hne hn hp
theorem occ_row:occurrences (Str.join y parts) y 0 (Str.join y parts).length ((Str.join y parts).length+1)=cutsL y.length 0 (parts.map fun z=>z.cps.toList):=by
 have hx:=join_list y parts
 have hw:1≤y.length:=by rw [len_list,hy]; exact Nat.le_add_left 1 1
 rw [occ_eq]
 refine (occ2_ok hy hne (parts.map fun z=>z.cps.toList) 0 (#[],0) (by simpa using hn) (fun p hpp=>?_) (Nat.zero_le _) (by rw [List.drop_zero]; exact hx) (Nat.le_refl _) ?_).trans rfl
 ·obtain ⟨z,hz,rfl⟩:=List.mem_map.mp hpp
  exact hp z hz
 ·have:=joinL_many (y:=y.cps.toList) (by rw [← len_list]; exact hw) (parts.map fun z=>z.cps.toList)
  rw [← hx,← len_list] at this
  rw [List.length_map] at this ⊢
  show 0+parts.length≤_
  omega
theorem between_row:partsBetween (Str.join y parts) (cutsL y.length 0 (parts.map fun z=>z.cps.toList)) y.length=parts:=by
 have hx:=join_list y parts
 rw [partsBetween_eq]
 exact map_inj _ _ (T15.parts_ok (x:=Str.join y parts) (y:=y) (parts.map fun z=>z.cps.toList) 0 (by simpa using hn) (Nat.zero_le _) (by rw [List.drop_zero]; exact hx))
theorem split2 (hk:Builtin.Str.strKind y=1):Txt.split (Str.join y parts) y=parts:=by
 have hx:=join_list y parts
 have hocc:=occ_row hy hne hn hp
 have hone:parts.length=1→[Str.join y parts]=parts:=fun h=>by
  match parts,h with
  | [p],_=>rw [PyProof.Rows.join_one]
 unfold Txt.split
 by_cases h2:2≤parts.length
 ·rw [if_neg,hocc,if_neg]
  ·exact between_row hy hne hn hp
  ·intro h
   exact cuts_len (w:=y.length) (parts.map fun z=>z.cps.toList) 0 (by rw [List.length_map]; exact h2) (List.isEmpty_iff.mp h)
  ·intro h
   rw [Bool.or_eq_true,decide_eq_true_eq,decide_eq_true_eq,hk] at h
   have k:=kind_pos (Str.join y parts)
   have l:=joinL_len (y:=y.cps.toList) (parts.map fun z=>z.cps.toList) (by rw [List.length_map]; exact h2)
   rw [← hx,← len_list,← len_list] at l
   omega
 ·have h1:parts.length=1:=by
   have:0<parts.length:=List.length_pos_iff.mpr hn
   omega
  split
  ·exact hone h1
  split
  ·exact hone h1
  ·rename_i h
   exact absurd (show (occurrences (Str.join y parts) y 0 (Str.join y parts).length ((Str.join y parts).length+1)).isEmpty=true by
    rw [hocc]
    match parts,h1 with
    | [p],_=>rfl) h
theorem replace2 {z:Str} (h2:2≤parts.length):Txt.replace (Str.join y parts) y z=Str.join z parts:=by
 have hocc:=occ_row hy hne hn hp
 unfold Txt.replace
 rw [if_neg,hocc,between_row hy hne hn hp]
 ·exact StrLaws.glued_eq_join z parts
 ·rw [hocc,Bool.or_eq_true]
  rintro (h|h)
  ·exact cuts_len (w:=y.length) (parts.map fun z=>z.cps.toList) 0 (by rw [List.length_map]; exact h2) (List.isEmpty_iff.mp h)
  ·have l:y.length=2:=by rw [len_list,hy]; rfl
   rw [l] at h
   exact nomatch h
end
end T14
namespace Z
open PySem Pg
namespace K14
open K15 T14
noncomputable def i_read:IS:=(.seq (.iff (.bin .eq (.var 0) (.lit (.str ""))) (.ret true (.lst .nil)) .nop) (.retx true (.comp 2 [] [1] false .seq (.meth (.var 0) "split" (.cons (.lit (.str ", ")) .nil)) (.lit (.bl true)) (.call "read_fold" (.cons (.var 1) .nil)))))
noncomputable def i_read_fold:IS:=(.seq (.set 1 (.meth (.var 0) "split" (.cons (.lit (.str " ")) .nil))) (.seq (.iff (.or (.bin .ne (.bcall .len (.cons (.var 1) .nil)) (.lit (.int 3))) (.or (.bin .notin (.ix (.var 1) (.lit (.int 0))) (.bin .add (.glo "UPRIGHT_SIDES") (.glo "LEVEL_SIDES"))) (.inC true "WAYS" (.ix (.var 1) (.lit (.int 1)))))) (.rse "NoWord") .nop) (.retx false (.tup (.cons (.ix (.var 1) (.lit (.int 0))) (.cons (.ixC "WAYS" (.ix (.var 1) (.lit (.int 1)))) (.cons (.call "read_crease" (.cons (.ix (.var 1) (.lit (.int 2))) .nil)) .nil)))))))
noncomputable def i_spoilt:IS:=(.seq (.set 2 (.ix (.var 0) (.lit (.int 0)))) (.seq (.set 3 (.ite (.tr (.ix (.var 0) (.lit (.int 1)))) (.lit (.str "over")) (.lit (.str "under")))) (.seq (.set 4 (.bcall .str (.cons (.ix (.var 0) (.lit (.int 2))) .nil))) (.seq (.set 5 (.lst (.cons (.bin .add (.bin .add (.bin .add (.lit (.str "up ")) (.var 3)) (.lit (.str " "))) (.var 4)) (.cons (.bin .add (.bin .add (.bin .add (.bin .add (.meth (.var 2) "upper" .nil) (.lit (.str " "))) (.var 3)) (.lit (.str " "))) (.var 4)) (.cons (.bin .add (.bin .add (.var 2) (.lit (.str " Over "))) (.var 4)) .nil))))) (.seq (.set 5 (.bin .add (.var 5) (.lst (.cons (.bin .add (.bin .add (.var 2) (.lit (.str " "))) (.var 4)) (.cons (.bin .add (.bin .add (.var 3) (.lit (.str " "))) (.var 4)) (.cons (.bin .add (.bin .add (.var 2) (.lit (.str " "))) (.var 3)) (.cons (.bin .add (.bin .add (.bin .add (.var 2) (.lit (.str " "))) (.var 3)) (.lit (.str " "))) .nil))))))) (.seq (.set 5 (.bin .add (.var 5) (.lst (.cons (.bin .add (.bin .add (.bin .add (.bin .add (.var 2) (.lit (.str "  "))) (.var 3)) (.lit (.str " "))) (.var 4)) (.cons (.bin .add (.bin .add (.bin .add (.bin .add (.var 2) (.lit (.str " "))) (.var 3)) (.lit (.str "  "))) (.var 4)) .nil))))) (.seq (.set 5 (.bin .add (.var 5) (.lst (.cons (.bin .add (.bin .add (.bin .add (.bin .add (.lit (.str " ")) (.var 2)) (.lit (.str " "))) (.var 3)) (.lit (.str " 1"))) .nil)))) (.seq (.set 5 (.bin .add (.var 5) (.lst (.cons (.bin .add (.bin .add (.bin .add (.bin .add (.bin .add (.var 2) (.lit (.str " "))) (.var 3)) (.lit (.str " "))) (.var 4)) (.lit (.str " "))) (.cons (.bin .add (.bin .add (.bin .add (.bin .add (.var 2) (.lit (.str " "))) (.var 3)) (.lit (.str " +"))) (.var 4)) .nil))))) (.seq (.set 5 (.bin .add (.var 5) (.lst (.cons (.bin .add (.bin .add (.bin .add (.bin .add (.var 2) (.lit (.str " "))) (.var 3)) (.lit (.str " -"))) (.var 4)) (.cons (.bin .add (.bin .add (.bin .add (.bin .add (.var 2) (.lit (.str " "))) (.var 3)) (.lit (.str " 0"))) (.var 4)) (.cons (.bin .add (.bin .add (.bin .add (.var 2) (.lit (.str " "))) (.var 3)) (.lit (.str " 0"))) .nil)))))) (.seq (.set 5 (.bin .add (.var 5) (.lst (.cons (.bin .add (.bin .add (.bin .add (.bin .add (.bin .add (.var 2) (.lit (.str " "))) (.var 3)) (.lit (.str " "))) (.var 4)) (.lit (.str "a"))) (.cons (.bin .add (.bin .add (.bin .add (.var 2) (.lit (.str " "))) (.var 3)) (.lit (.str " 1000000000"))) (.cons (.lit (.str "")) .nil)))))) (.seq (.set 5 (.bin .add (.var 5) (.lst (.cons (.bin .add (.bin .add (.bin .add (.bin .add (.bin .add (.var 2) (.lit (.str " "))) (.var 3)) (.lit (.str " "))) (.var 4)) (.lit (.str " 1"))) (.cons (.bin .add (.bin .add (.bin .add (.bin .add (.bin .add (.var 2) (.lit (.str " "))) (.var 3)) (.lit (.str " "))) (.var 4)) (.lit (.str "\n"))) (.cons (.sl (.var 2) false (.lit .non) true (.neg (.lit (.int 1)))) .nil)))))) (.seq (.set 5 (.bin .add (.var 5) (.lst (.cons (.bin .add (.bin .add (.bin .add (.bin .add (.bin .add (.var 2) (.lit (.str " "))) (.var 3)) (.lit (.str " "))) (.var 4)) (.lit (.str ","))) (.cons (.bin .add (.bin .add (.bin .add (.bin .add (.var 2) (.lit (.str ","))) (.var 3)) (.lit (.str ","))) (.var 4)) (.cons (.bin .add (.var 2) (.lit (.str "west over 1"))) .nil)))))) (.seq (.set 5 (.bin .add (.var 5) (.lst (.cons (.bin .add (.bin .add (.bin .add (.var 2) (.lit (.str " "))) (.var 3)) (.lit (.str " 1_0"))) (.cons (.bin .add (.bin .add (.bin .add (.bin .add (.bin .add (.var 2) (.lit (.str " "))) (.var 3)) (.lit (.str " "))) (.var 4)) (.lit (.str "\t"))) .nil))))) (.seq (.set 5 (.bin .add (.var 5) (.lst (.cons (.bin .add (.bin .add (.bin .add (.bin .add (.var 2) (.lit (.str "\t"))) (.var 3)) (.lit (.str " "))) (.var 4)) (.cons (.bin .add (.bin .add (.bin .add (.bin .add (.var 2) (.lit (.str " "))) (.var 3)) (.lit (.str " \t"))) (.var 4)) .nil))))) (.ret false (.ix (.var 5) (.bin .mod (.var 1) (.lit (.int 28)))))))))))))))))))
noncomputable def i_refused:IS:=(.seq (.tryx (.call "read" (.cons (.var 0) .nil)) "LeafError" (some 1) (.weq "_law_word_of" "word")) (.ret false (.lit (.bl false))))
noncomputable def tail:IS:=(.seq (.iff (.bin .eq (.var 3) (.lit (.int 28))) (.set 5 (.bin .add (.var 5) (.lit (.str ",")))) .nop) (.seq (.iff (.bin .eq (.var 3) (.lit (.int 29))) (.set 5 (.bin .add (.var 5) (.lit (.str ", ")))) .nop) (.seq (.iff (.bin .eq (.var 3) (.lit (.int 30))) (.set 5 (.repl (.lenm 2) 1 (.var 5) ", " "," (.lit (.str " ")))) .nop) (.ret false (.call "_law_refused" (.cons (.var 5) .nil))))))
noncomputable def i_law:IS:=(.seq (.set 1 (.call "_law_row_by" (.cons (.var 0) (.cons (.lit (.int 3)) (.cons (.lit (.int 30)) .nil))))) (.seq (.setm 2 (.comp 2 [] [1] false .seq (.var 1) (.lit (.bl true)) (.call "_law_written" (.cons (.var 1) .nil)))) (.seq (.set 3 (.bin .mod (.bin .fdiv (.call "_law_cell_at" (.cons (.var 0) (.cons (.lit (.int 0)) .nil))) (.lit (.int 2))) (.lit (.int 31)))) (.seq (.iff (.or (.bin .eq (.bin .mod (.call "_law_cell_at" (.cons (.var 0) (.cons (.lit (.int 0)) .nil))) (.lit (.int 2))) (.lit (.int 0))) (.bin .eq (.var 1) (.lst .nil))) (.ret false (.call "_law_same_folds" (.cons (.call "read" (.cons (.meth (.lit (.str ", ")) "join" (.cons (.var 2) .nil)) .nil)) (.cons (.var 1) .nil)))) .nop) (.seq (.set 4 (.bin .mod (.call "_law_cell_at" (.cons (.var 0) (.cons (.lit (.int 1)) .nil))) (.lenm 2))) (.seq (.put 2 (.var 4) (.ite (.bin .lt (.var 3) (.lit (.int 28))) (.call "_law_spoilt" (.cons (.ix (.var 1) (.var 4)) (.cons (.var 3) .nil))) (.ixm 2 (.var 4)))) (.seq (.set 5 (.meth (.lit (.str ", ")) "join" (.cons (.var 2) .nil))) (.seq (.iff (.and (.bin .lt (.var 3) (.lit (.int 28))) (.bin .eq (.var 5) (.lit (.str "")))) (.ret false (.call "_law_same_folds" (.cons (.call "read" (.cons (.var 5) .nil)) (.cons (.lst .nil) .nil)))) .nop) (.seq (.iff (.bin .eq (.var 3) (.lit (.int 28))) (.set 5 (.bin .add (.var 5) (.lit (.str ",")))) .nop) (.seq (.iff (.bin .eq (.var 3) (.lit (.int 29))) (.set 5 (.bin .add (.var 5) (.lit (.str ", ")))) .nop) (.seq (.iff (.bin .eq (.var 3) (.lit (.int 30))) (.set 5 (.repl (.lenm 2) 1 (.var 5) ", " "," (.lit (.str " ")))) .nop) (.ret false (.call "_law_refused" (.cons (.var 5) .nil))))))))))))))
section
variable {G:GS}
theorem ex_xok {ρ:List Sl} {e:IE} {f:Bool} {d:D} (h:evs G e ρ=some d):ex G (.retx f e) ρ=some (.rt d):=by
 show (match evs G e ρ with|some d=>some (Out.rt d)|none=>_)=_
 rw [h]
theorem ex_xer {ρ:List Sl} {e:IE} {f:Bool} {k:Str} (h0:evs G e ρ=none) (h:evX G e ρ=some k) (hx:G.xn k=true):ex G (.retx f e) ρ=some (.er k):=by
 show (match evs G e ρ with|some d=>some (Out.rt d)|none=>(evX G e ρ).bind fun k=>if G.xn k then some (Out.er k) else none)=_
 rw [h0,h]
 exact if_pos hx
def Le (G:GS) (a b:IS):Prop:=∀ (ρ:List Sl) (o:Out),ex G a ρ=some o→ex G b ρ=some o
theorem le_x {f:Bool} {e:IE}:Le G (.ret f e) (.retx f e):=fun ρ o h=>by
 have h:(evs G e ρ).map Out.rt=some o:=h
 cases hd:evs G e ρ with
 | none=>rw [hd] at h; exact nomatch h
 | some d=>rw [hd] at h; rw [ex_xok hd]; exact h
theorem le_seq {a b b':IS} (h:Le G b b'):Le G (.seq a b) (.seq a b'):=fun ρ o e=>by
 rw [ex_seq] at e ⊢
 cases hd:ex G a ρ with
 | none=>rw [hd] at e; exact nomatch e
 | some q =>
  rw [hd] at e
  cases q with
  | nx ρ'=>exact h ρ' o e
  | rt d=>exact e
  | bk r=>exact e
  | ct r=>exact e
  | er k=>exact e
theorem le_run {n:Nat} {b b':IS} (h:Le G b b') {as:List D} {r:Rs} (e:runF G n b as=some r):runF G n b' as=some r:=by
 unfold runF at e ⊢
 cases hd:ex G b (as.map .im++List.replicate (n-as.length) .un) with
 | none=>rw [hd] at e; exact nomatch e
 | some q=>rw [hd] at e; rw [h _ _ hd]; exact e
theorem fold_ok (h1:G.cst "UPRIGHT_SIDES" = some cUP) (h2:G.cst "LEVEL_SIDES" = some cLV) (hw:G.dk "WAYS" = some kWays) (hc:∀ k:Nat,1≤k→k≤999999999→G.fn "read_crease" [.str (numS k)]=some (.ok (.int k))) {f:Fold} (h:Ok9 f):runF G 2 i_read_fold [.str (wr f)]=some (.ok f.d):=
 le_run (b:=K15.i_read_fold) (le_seq (le_seq le_x)) (K15.fold_ok h1 h2 hw hc h)
theorem read_ok (hr:∀ f,Ok9 f→G.fn "read_fold" [.str (wr f)]=some (.ok f.d)) {F:List Fold} (h:∀ f ∈ F,Ok9 f) (hl:F.length≤30):runF G 1 i_read [.str (txt F)]=some (.ok (.lst (F.map Fold.d))):=
 le_run (b:=K15.i_read) (le_seq le_x) (K15.read_ok hr h hl)
def CrB (c:List Nat):Prop:=(∃ x ∈ c,x<48∨57<x)∨9<c.length∨c=[]∨∃ r,c=48::r
noncomputable def fig (c:Nat):Bool:=decide (48≤c)&&decide (c≤57)
theorem fig_of {c:Nat} (h:c<128):op2 .isin (.str ⟨#[c]⟩) (.str "0123456789")=some (.bl (fig c)):=by
 have:∀ d:Nat,d<128→(!(Builtin.Str.occurrences ("0123456789":Str) ⟨#[d]⟩ 0 ("0123456789":Str).length 1).isEmpty)=(decide (48≤d)&&decide (d≤57)):=by decide +kernel
 show some (D.bl (!(Builtin.Str.occurrences ("0123456789":Str) ⟨#[c]⟩ 0 ("0123456789":Str).length 1).isEmpty))=_
 rw [this c h]; rfl
theorem bools_m {α:Type} {g:α→Bool}:∀ {L:List α},boolsD (L.map fun a=>D.bl (g a))=some (L.map g)
 | []=>rfl
 | a::r=>by
  show (boolsD (r.map fun a=>D.bl (g a))).map (g a :: ·)=_
  rw [bools_m]; rfl
theorem starts_yes {x:Str} {r:List Nat} (h:x.cps.toList=48::r):Txt.startswith x "0" = true:=by
 unfold Txt.startswith Builtin.Str.subAt
 have e:("0":Str).cps.toList=[48]:=by decide +kernel
 have l:("0":Str).length=1:=by decide +kernel
 have hx:x.length=r.length+1:=by rw [T15.len_list,h]; rfl
 rw [Bool.and_eq_true]
 constructor
 ·rw [decide_eq_true_eq]; omega
 ·rw [beq_iff_eq,← Array.toList_inj,Array.toList_extract,h,e,l]; rfl
theorem crease_er (hf:G.cst "FIGURES" = some (.str "0123456789")) (hm:G.cst "MOST_FIGURES" = some (.int 9)) (hx:G.xn "NoWord" = true) {x:Str} (hA:Asc x) (hl:x.length≤1000) (bad:CrB x.cps.toList):runF G 1 i_read_crease [.str x]=some (.er "NoWord"):=by
 have hb:big=1000000:=rfl
 have e:ev G (.comp 2 [] [1] false .seq (.var 0) (.lit (.bl true)) (.bin .isin (.var 1) (.glo "FIGURES"))) [.im (.str x)]=some (.lst (x.cps.toList.map fun c=>D.bl (fig c))):=by
  refine ev_compT (L:=x.cps.toList) (fun c=>D.str ⟨#[c]⟩) (fun c=>D.bl (fig c)) (s:=.str x) rfl (if_pos (by omega)) fun c hc=>⟨[.un,.im (.str ⟨#[c]⟩)],rfl,rfl,?_⟩
  rw [ev_bin,ev_glo,hf]
  exact fig_of (hA c hc)
 have c1:ev G (.or (.not (.tr (.bcall .all (.cons (.comp 2 [] [1] false .seq (.var 0) (.lit (.bl true)) (.bin .isin (.var 1) (.glo "FIGURES"))) .nil)))) (.bin .gt (.bcall .len (.cons (.var 0) .nil)) (.glo "MOST_FIGURES"))) [.im (.str x)]=some (.bl ((!((x.cps.toList.map fig).all id)) || decide ((9:Int)<(x.length:Nat)))):=by
  refine ev_orB ?_ fun _=>?_
  ·rw [ev_not,ev_tr,ev_bcall,ev_cons,e]
   show ((((boolsD _).map fun bs=>D.bl (bs.all id)).bind fun x=>(tru x).map D.bl).bind _:Option D)=_
   rw [bools_m]; rfl
  ·rw [ev_bin,ev_bcall,ev_glo,hm]
   show (fLen [.str x]).bind _=_
   rw [show fLen [.str x]=some (.int x.length) from if_pos (by omega)]; rfl
 by_cases h1:((!((x.cps.toList.map fig).all id)) || decide ((9:Int)<(x.length:Nat)))=true
 ·exact runF_er (ρ:=[.im (.str x)]) rfl (ex_st (ex_t (c1.trans (by rw [h1])) (ex_rse hx)) fun _ z=>nomatch z)
 ·have h1:=Bool.eq_false_iff.mpr h1
  refine runF_er (ρ:=[.im (.str x)]) rfl (ex_nx (ex_f (c1.trans (by rw [h1])) ex_nop) (ex_st (ex_t ?_ (ex_rse hx)) fun _ z=>nomatch z))
  rw [Bool.or_eq_false_iff,decide_eq_false_iff_not] at h1
  show ev G _ [.im (.str x)]=_
  have k:((x == ("":Str)) || Txt.startswith x "0")=true:=by
   rw [Bool.or_eq_true]
   rcases bad with ⟨y,hy,hr⟩|h|h|⟨r,h⟩
   ·exfalso
    have h2:(x.cps.toList.map fig).all id=true:=by
     have:=h1.1
     rwa [Bool.not_eq_false'] at this
    have h3:=List.all_eq_true.mp h2 (fig y) (List.mem_map_of_mem hy)
    have h3:(decide (48≤y)&&decide (y≤57))=true:=h3
    rw [Bool.and_eq_true,decide_eq_true_eq,decide_eq_true_eq] at h3
    omega
   ·exfalso
    rw [← T15.len_list] at h
    omega
   ·left
    rw [beq_iff_eq]
    exact T15.str_ext h
   ·exact .inr (starts_yes h)
  rw [← k]
  refine ev_orB ?_ fun _=>?_
  ·rw [ev_bin]
   show op2 .eq (.str x) (.str "")=_
   exact eq_str (asc_ok hA) (by decide +kernel)
  ·rw [ev_tr,ev_meth]
   show ((smD "startswith" [.str x,.str "0"]).bind fun x=>(tru x).map D.bl)=_
   rw [sm_starts]; rfl
noncomputable def sidesL:List (List Nat):=[[119,101,115,116],[101,97,115,116],[110,111,114,116,104],[115,111,117,116,104]]
noncomputable def waysL:List (List Nat):=[[111,118,101,114],[117,110,100,101,114]]
def Bad (p:List Nat):Prop:=p.count 32≠2∨∃ a b c,p=a++32::(b++32::c)∧32 ∉ a∧32 ∉ b∧32 ∉ c∧(a ∉ sidesL∨b ∉ waysL∨CrB c)
noncomputable def mkS (l:List Nat):Str:=⟨l.toArray⟩
theorem mk_cps {l:List Nat}:(mkS l).cps.toList=l:=rfl
theorem words (p:List Nat):∃ ws:List (List Nat),ws≠[]∧p=T15.joinL [32] ws∧(∀ w ∈ ws,32 ∉ w)∧ws.length=p.count 32+1:=by
 induction p with
 | nil=>exact ⟨[[]],by simp,rfl,by simp,rfl⟩
 | cons c r ih =>
  obtain ⟨ws,h1,h2,h3,h4⟩:=ih
  cases ws with
  | nil=>exact absurd rfl h1
  | cons h t =>
   by_cases hc:c=32
   ·subst hc
    refine ⟨[]::h::t,by simp,?_,?_,?_⟩
    ·rw [T15.joinL_cc,← h2]; rfl
    ·intro w hw
     rcases List.mem_cons.mp hw with rfl|hw
     ·simp
     ·exact h3 w hw
    ·rw [List.count_cons_self,← h4]; rfl
   ·refine ⟨(c::h)::t,by simp,?_,?_,?_⟩
    ·rw [h2]; cases t<;>rfl
    ·intro w hw
     rcases List.mem_cons.mp hw with rfl|hw
     ·have:=h3 h List.mem_cons_self
      simp only [List.mem_cons,not_or]
      exact ⟨fun z=>hc z.symm,this⟩
     ·exact h3 w (List.mem_cons_of_mem _ hw)
    ·rw [List.count_cons_of_ne (by simpa using hc),← h4]; rfl
theorem split_of {p:Str} {ws:List (List Nat)} (hn:ws≠[]) (e:p.cps.toList=T15.joinL [32] ws) (h:∀ w ∈ ws,32 ∉ w):Txt.split p sBl=ws.map mkS:=by
 have:p=Str.join sBl (ws.map mkS):=T15.str_ext (by
  rw [e,T15.join_list,bl_cps,List.map_map]
  congr 1
  exact (List.map_id ws).symm)
 rw [this]
 exact T15.split_join bl_cps (by decide +kernel) (by simpa using hn) fun q hq=>by
  obtain ⟨l,hl,rfl⟩:=List.mem_map.mp hq
  exact h l hl
theorem split_ev {p:Str} {s:Sl} {ws:List Str} (hl:p.length≤1000) (h:Txt.split p sBl=ws):ev G (.meth (.var 0) "split" (.cons (.lit (.str " ")) .nil)) [.im (.str p),s]=some (.lst (ws.map .str)):=by
 rw [ev_meth]
 show smD "split" [.str p,.str sBl]=_
 rw [sm_split (by decide +kernel) (by omega),h]
theorem side_in {a:List Nat} (h:([D.str "west",.str "east",.str "north",.str "south"].any fun y=>deq y (.str (mkS a)))=true):a ∈ sidesL:=by
 obtain ⟨y,hy,e⟩:=List.any_eq_true.mp h
 have k:∀ (x:Str),deq (.str x) (.str (mkS a))=true→a=x.cps.toList:=fun x e=>by
  rw [deq] at e
  rw [beq_iff_eq.mp e]; rfl
 simp only [List.mem_cons,List.not_mem_nil,or_false] at hy
 rcases hy with rfl|rfl|rfl|rfl
 ·rw [k _ e]; decide +kernel
 ·rw [k _ e]; decide +kernel
 ·rw [k _ e]; decide +kernel
 ·rw [k _ e]; decide +kernel
theorem way_in {b:List Nat} {v:D} (h:kWays.lookup (mkS b)=some v):b ∈ waysL:=by
 by_cases h1:(mkS b == ("over":Str))=true
 ·rw [← mk_cps (l:=b),beq_iff_eq.mp h1]; decide +kernel
 by_cases h2:(mkS b == ("under":Str))=true
 ·rw [← mk_cps (l:=b),beq_iff_eq.mp h2]; decide +kernel
 exfalso
 unfold kWays at h
 rw [List.lookup_cons,Bool.eq_false_iff.mpr h1] at h
 have h:List.lookup (mkS b) [(("under":Str),D.bl false)]=some v:=h
 rw [List.lookup_cons,Bool.eq_false_iff.mpr h2] at h
 exact nomatch h
theorem fold_er (h1:G.cst "UPRIGHT_SIDES" = some cUP) (h2:G.cst "LEVEL_SIDES" = some cLV) (hw:G.dk "WAYS" = some kWays) (hx:G.xn "NoWord" = true)
  (hc:∀ x:Str,Asc x→x.length≤1000→CrB x.cps.toList→G.fn "read_crease" [.str x]=some (.er "NoWord")) {p:Str} (hA:Asc p) (hl:p.length≤1000) (bad:Bad p.cps.toList):runF G 2 i_read_fold [.str p]=some (.er "NoWord"):=by
 rcases bad with h|⟨a,b,c,e,ha,hb,hcc,bad⟩
 ·obtain ⟨ws,w1,w2,w3,w4⟩:=words p.cps.toList
  refine runF_er (ρ:=[.im (.str p),.un]) rfl (ex_nx (ex_set (split_ev hl (split_of w1 w2 w3))) (ex_st (ex_t ?_ (ex_rse hx)) fun _ z=>nomatch z))
  show ev G _ [.im (.str p),.im (.lst ((ws.map mkS).map .str))]=_
  refine ev_orB (x:=true) (y:=true) ?_ fun z=>nomatch z
  show some (D.bl (!((((ws.map mkS).map D.str).length:Int) == 3)))=_
  rw [List.length_map,List.length_map,w4]
  have:(((p.cps.toList.count 32+1:Nat):Int) == 3)=false:=by
   rw [beq_eq_false_iff_ne]
   omega
  rw [this]; rfl
 ·have hs:Txt.split p sBl=[a,b,c].map mkS:=split_of (by simp) (by rw [e]; rfl) (by
   intro w hw
   simp only [List.mem_cons,List.not_mem_nil,or_false] at hw
   rcases hw with rfl|rfl|rfl<;>assumption)
  have am:∀ z,z ∈ a∨z ∈ c→z ∈ p.cps.toList:=fun z hz=>by
   rw [e]
   simp only [List.mem_append,List.mem_cons]
   rcases hz with hz|hz
   ·exact .inl hz
   ·exact .inr (.inr (.inr (.inr hz)))
  have aa:Asc (mkS a):=fun z hz=>hA z (am z (.inl hz))
  have ac:Asc (mkS c):=fun z hz=>hA z (am z (.inr hz))
  have lc:(mkS c).length≤1000:=by
   rw [T15.len_list] at hl ⊢
   rw [e] at hl
   simp only [List.length_append,List.length_cons] at hl
   show c.length≤1000
   omega
  have i0:∀ s,ev G (.ix (.var 1) (.lit (.int 0))) [s,.im (.lst [.str (mkS a),.str (mkS b),.str (mkS c)])]=some (.str (mkS a)):=fun _=>rfl
  have i1:∀ s,ev G (.ix (.var 1) (.lit (.int 1))) [s,.im (.lst [.str (mkS a),.str (mkS b),.str (mkS c)])]=some (.str (mkS b)):=fun _=>rfl
  have n1:ev G (.bin .notin (.ix (.var 1) (.lit (.int 0))) (.bin .add (.glo "UPRIGHT_SIDES") (.glo "LEVEL_SIDES"))) [.im (.str p),.im (.lst [.str (mkS a),.str (mkS b),.str (mkS c)])]=some (.bl (!([D.str "west",.str "east",.str "north",.str "south"].any fun y=>deq y (.str (mkS a))))):=by
   rw [ev_bin,i0,ev_bin,ev_glo,ev_glo,h1,h2]
   show ((op2 .add cUP cLV).bind fun y=>op2 .notin (.str (mkS a)) y)=_
   rw [sides4]
   show (if plain (.str (mkS a)) && [D.str "west",.str "east",.str "north",.str "south"].all plain then _ else none)=_
   refine if_pos ?_
   rw [show plain (.str (mkS a))=true from asc_ok aa]
   decide +kernel
  have n2:ev G (.inC true "WAYS" (.ix (.var 1) (.lit (.int 1)))) [.im (.str p),.im (.lst [.str (mkS a),.str (mkS b),.str (mkS c)])]=some (.bl (true != (kWays.lookup (mkS b)).isSome)):=by
   show (G.dk "WAYS").map (fun kvs=>D.bl (true != (kvs.lookup (mkS b)).isSome))=_
   rw [hw]; rfl
  have cond:∀ q:Bool,((!([D.str "west",.str "east",.str "north",.str "south"].any fun y=>deq y (.str (mkS a)))) || (true != (kWays.lookup (mkS b)).isSome))=q→ev G (.or (.bin .ne (.bcall .len (.cons (.var 1) .nil)) (.lit (.int 3))) (.or (.bin .notin (.ix (.var 1) (.lit (.int 0))) (.bin .add (.glo "UPRIGHT_SIDES") (.glo "LEVEL_SIDES"))) (.inC true "WAYS" (.ix (.var 1) (.lit (.int 1)))))) [.im (.str p),.im (.lst [.str (mkS a),.str (mkS b),.str (mkS c)])]=some (.bl q):=fun q hq=>by
   rw [← hq]
   exact ev_orB (x:=false) rfl fun _=>ev_orB n1 fun _=>n2
  by_cases hq:((!([D.str "west",.str "east",.str "north",.str "south"].any fun y=>deq y (.str (mkS a)))) || (true != (kWays.lookup (mkS b)).isSome))=true
  ·exact runF_er (ρ:=[.im (.str p),.un]) rfl (ex_nx (ex_set (split_ev hl hs)) (ex_st (ex_t (cond true hq) (ex_rse hx)) fun _ z=>nomatch z))
  ·have hq:=Bool.eq_false_iff.mpr hq
   have hq2:=hq
   rw [Bool.or_eq_false_iff,Bool.not_eq_false'] at hq2
   cases hv:kWays.lookup (mkS b) with
   | none=>rw [hv] at hq2; exact absurd hq2.2 (by decide)
   | some v =>
    have cb:CrB c:=by
     rcases bad with h|h|h
     ·exact absurd (side_in hq2.1) h
     ·exact absurd (way_in hv) h
     ·exact h
    have ec:=hc (mkS c) ac lc cb
    refine runF_er (ρ:=[.im (.str p),.un]) rfl (ex_nx (ex_set (split_ev hl hs)) (ex_nx (ex_f (cond false hq) ex_nop) (ex_xer ?_ ?_ hx)))
    ·have w1:ev G (.ixC "WAYS" (.ix (.var 1) (.lit (.int 1)))) [.im (.str p),.im (.lst [.str (mkS a),.str (mkS b),.str (mkS c)])]=some v:=by
      show (G.dk "WAYS").bind (fun kvs=>kvs.lookup (mkS b))=_
      rw [hw]; exact hv
     have w2:ev G (.call "read_crease" (.cons (.ix (.var 1) (.lit (.int 2))) .nil)) [.im (.str p),.im (.lst [.str (mkS a),.str (mkS b),.str (mkS c)])]=none:=by
      rw [ev_call]
      show okOf (G.fn "read_crease" [.str (mkS c)])=_
      rw [ec]; rfl
     have w3:ev G (.tup (.cons (.ix (.var 1) (.lit (.int 0))) (.cons (.ixC "WAYS" (.ix (.var 1) (.lit (.int 1)))) (.cons (.call "read_crease" (.cons (.ix (.var 1) (.lit (.int 2))) .nil)) .nil)))) [.im (.str p),.im (.lst [.str (mkS a),.str (mkS b),.str (mkS c)])]=none:=by
      rw [ev_tup,ev_cons,ev_cons,ev_cons,i0,w1,w2]; rfl
     show (match ev G _ [.im (.str p),.im (.lst [.str (mkS a),.str (mkS b),.str (mkS c)])] with|some d=>some d|none=>match ev G _ [.im (.str p),.im (.lst [.str (mkS a),.str (mkS b),.str (mkS c)])] with|some d=>if scal d then some d else none|none=>none)=none
     rw [w3]
    ·show ((G.dk "WAYS").bind (fun kvs=>kvs.lookup (mkS b))).bind (fun _=>(G.fn "read_crease" [.str (mkS c)]).bind fun o=>match o with | .ok _=>none | .er k=>some k)=_
     rw [hw]
     show (kWays.lookup (mkS b)).bind _=_
     rw [hv]
     show (G.fn "read_crease" [.str (mkS c)]).bind _=_
     rw [ec]; rfl
theorem errGo_at {f:D→Option Rs} {k:Str}:∀ {A:List D} {p:D} {B:List D},(∀ a ∈ A,∃ d,f a=some (.ok d))→f p=some (.er k)→errGo f (A++p::B)=some k
 | [],p,B,_,h=>by
  show (f p).bind _=_
  rw [h]; rfl
 | a::A,p,B,hA,h=>by
  obtain ⟨d,e⟩:=hA a List.mem_cons_self
  show (f a).bind _=_
  rw [e]
  exact errGo_at (fun z hz=>hA z (List.mem_cons_of_mem _ hz)) h
theorem compGo_at {f:D→Option (Option D)}:∀ {A:List D} {p:D} {B:List D},f p=none→compGo f (A++p::B)=none
 | [],p,B,h=>by
  show compGo f (p::B)=none
  unfold compGo
  rw [h]; rfl
 | a::A,p,B,h=>by
  show compGo f (a::(A++p::B))=none
  unfold compGo
  rw [compGo_at h]
  cases f a<;>rfl
def Frm (p:Str):Prop:=Bad p.cps.toList∧Asc p∧p.length≤1000
structure RE (x:Str) (A:List Fold) (p:Str) (B:List Str):Prop where
 ok:∀ f ∈ A,Ok9 f
 bad:Frm p
 eq:x=Str.join sSep (A.map wr++p::B)
 ok2:∀ q ∈ A.map wr++p::B,Ok2 44 32 q.cps.toList
 ne:x.cps.toList≠[]
 asc:Asc x
 len:x.length≤100000
theorem ne_bool {x:Str} (h:x.cps.toList≠[]):(x == ("":Str))=false:=by
 rw [beq_eq_false_iff_ne]
 intro z
 exact h (by rw [z]; decide +kernel)
theorem read_er (hx:G.xn "NoWord" = true) (hr:∀ f,Ok9 f→G.fn "read_fold" [.str (wr f)]=some (.ok f.d)) (he:∀ p,Frm p→G.fn "read_fold" [.str p]=some (.er "NoWord")) {x p:Str} {A:List Fold} {B:List Str} (R:RE x A p B):runF G 1 i_read [.str x]=some (.er "NoWord"):=by
 have hl:=R.len
 have hs:Txt.split x sSep=A.map wr++p::B:=by
  rw [R.eq]
  exact split2 (by decide +kernel:sSep.cps.toList=[44,32]) (by decide) (by simp) R.ok2 (by decide +kernel)
 have e:ev G (.meth (.var 0) "split" (.cons (.lit (.str ", ")) .nil)) [.im (.str x)]=some (.lst ((A.map fun f=>D.str (wr f))++.str p::B.map .str)):=by
  rw [ev_meth]
  show smD "split" [.str x,.str sSep]=_
  rw [sm_split (by decide +kernel) (by omega),hs,List.map_append,List.map_map]; rfl
 have ep:=he p R.bad
 refine runF_er (ρ:=[.im (.str x)]) rfl (ex_nx (ex_f ?_ ex_nop) (ex_xer ?_ ?_ hx))
 ·show op2 .eq (.str x) (.str "")=_
  rw [eq_str (asc_ok R.asc) (by decide +kernel),ne_bool R.ne]
 ·have n:ev G (.comp 2 [] [1] false .seq (.meth (.var 0) "split" (.cons (.lit (.str ", ")) .nil)) (.lit (.bl true)) (.call "read_fold" (.cons (.var 1) .nil))) [.im (.str x)]=none:=by
   rw [ev_comp,e,Option.bind_some]
   show (compGo _ _).map D.lst=_
   rw [compGo_at]; · rfl
   show (okOf (G.fn "read_fold" [.str p])).map some=none
   rw [ep]; rfl
  show (match ev G _ [.im (.str x)] with|some d=>some d|none=>match ev G _ [.im (.str x)] with|some d=>if scal d then some d else none|none=>none)=none
  rw [n]
 ·show (ev G (.meth (.var 0) "split" (.cons (.lit (.str ", ")) .nil)) [.im (.str x)]).bind _=_
  rw [e]
  refine errGo_at (fun a ha=>?_) ?_
  ·obtain ⟨f,hf,rfl⟩:=List.mem_map.mp ha
   exact ⟨f.d,hr f (R.ok f hf)⟩
  ·exact ep
theorem refused_ok (hx:G.xn "NoWord" = true) (hx2:G.xn "LeafError" = true) (hsu:G.sub "NoWord" "LeafError" = true) (hwd:G.wd "_law_word_of" "NoWord" = some ("word":Str)) {x:Str} (h:G.fn "read" [.str x]=some (.er "NoWord")):runF G 2 i_refused [.str x]=some (.ok (.bl true)):=by
 have h':evR G (.call "read" (.cons (.var 0) .nil)) (view [.im (.str x),.un])=some (.er "NoWord"):=h
 refine runF_rt (ρ:=[.im (.str x),.un]) rfl (ex_st ((ex_tryE (k:="NoWord") h').trans ?_) fun _ z=>nomatch z)
 rw [hx,hx2,hsu]
 show ((G.wd "_law_word_of" "NoWord").map fun y=>D.bl (y == ("word":Str))).map Out.rt=_
 rw [hwd]
 show some (Out.rt (D.bl (("word":Str) == ("word":Str))))=_
 rw [beq_self_eq_true]
theorem ok2_no44 {p:List Nat} (h:44 ∉ p):Ok2 44 32 p:=fun i e=>h (List.mem_of_getElem? e.1)
theorem ok2_no32 {p:List Nat} (h:32 ∉ p):Ok2 44 32 p:=fun i e=>h (List.mem_of_getElem? e.2)
theorem ok2_snoc {p:List Nat} (h:44 ∉ p):Ok2 44 32 (p++[44]):=fun i e=>by
 have hi:=(List.getElem?_eq_some_iff.mp e.2).1
 have e1:=e.1
 rw [List.length_append] at hi
 have hi:i+1<p.length+1:=hi
 rw [List.getElem?_append_left (by omega)] at e1
 exact h (List.mem_of_getElem? e1)
theorem ok2_glue {a q:List Nat} (ha:44 ∉ a) (hq:Ok2 44 32 q) (hh:q[0]?≠some 32):Ok2 44 32 (a++44::q):=fun i e=>by
 obtain ⟨e1,e2⟩:=e
 by_cases h1:i<a.length
 ·rw [List.getElem?_append_left h1] at e1
  exact ha (List.mem_of_getElem? e1)
 ·rw [List.getElem?_append_right (by omega)] at e1 e2
  rw [show i+1-a.length=(i-a.length)+1 by omega,List.getElem?_cons_succ] at e2
  cases hj:i-a.length with
  | zero=>rw [hj] at e2; exact hh e2
  | succ j =>
   rw [hj,List.getElem?_cons_succ] at e1
   rw [hj] at e2
   exact hq j ⟨e1,e2⟩
structure W1 (l:List Nat):Prop where
 a32:32 ∉ l
 a44:44 ∉ l
 al:∀ c ∈ l,c<128
 le:l.length≤9
theorem W1.c {l:List Nat} (h:W1 l):l.count 32=0:=List.count_eq_zero.mpr h.a32
theorem all_app {a b:List Nat} (ha:∀ c ∈ a,c<128) (hb:∀ c ∈ b,c<128):∀ c ∈ a++b,c<128:=fun c hc=>(List.mem_append.mp hc).elim (ha c) (hb c)
theorem q0:("  ":Str).cps.toList=[32,32]:=by decide +kernel
theorem q1:(" ":Str).cps.toList=[32]:=by decide +kernel
theorem q2:(" +":Str).cps.toList=[32,43]:=by decide +kernel
theorem q3:(" -":Str).cps.toList=[32,45]:=by decide +kernel
theorem q4:(" 0":Str).cps.toList=[32,48]:=by decide +kernel
theorem q5:(" 1":Str).cps.toList=[32,49]:=by decide +kernel
theorem q6:(" 1000000000":Str).cps.toList=[32,49,48,48,48,48,48,48,48,48,48]:=by decide +kernel
theorem q7:(" 1_0":Str).cps.toList=[32,49,95,48]:=by decide +kernel
theorem q8:(" Over ":Str).cps.toList=[32,79,118,101,114,32]:=by decide +kernel
theorem q9:(" \t":Str).cps.toList=[32,9]:=by decide +kernel
theorem q10:("":Str).cps.toList=[]:=by decide +kernel
theorem q11:(",":Str).cps.toList=[44]:=by decide +kernel
theorem q12:("\n":Str).cps.toList=[10]:=by decide +kernel
theorem q13:("\t":Str).cps.toList=[9]:=by decide +kernel
theorem q14:("a":Str).cps.toList=[97]:=by decide +kernel
theorem q15:("up ":Str).cps.toList=[117,112,32]:=by decide +kernel
theorem q16:("west over 1":Str).cps.toList=[119,101,115,116,32,111,118,101,114,32,49]:=by decide +kernel
noncomputable def texts (s w n u t:Str):List Str:=[(((("up ":Str)++w)++(" ":Str))++n),((((u++(" ":Str))++w)++(" ":Str))++n),((s++(" Over ":Str))++n),((s++(" ":Str))++n),((w++(" ":Str))++n),((s++(" ":Str))++w),(((s++(" ":Str))++w)++(" ":Str)),((((s++("  ":Str))++w)++(" ":Str))++n),((((s++(" ":Str))++w)++("  ":Str))++n),(((((" ":Str)++s)++(" ":Str))++w)++(" 1":Str)),(((((s++(" ":Str))++w)++(" ":Str))++n)++(" ":Str)),((((s++(" ":Str))++w)++(" +":Str))++n),((((s++(" ":Str))++w)++(" -":Str))++n),((((s++(" ":Str))++w)++(" 0":Str))++n),(((s++(" ":Str))++w)++(" 0":Str)),(((((s++(" ":Str))++w)++(" ":Str))++n)++("a":Str)),(((s++(" ":Str))++w)++(" 1000000000":Str)),("":Str),(((((s++(" ":Str))++w)++(" ":Str))++n)++(" 1":Str)),(((((s++(" ":Str))++w)++(" ":Str))++n)++("\n":Str)),t,(((((s++(" ":Str))++w)++(" ":Str))++n)++(",":Str)),((((s++(",":Str))++w)++(",":Str))++n),(s++("west over 1":Str)),(((s++(" ":Str))++w)++(" 1_0":Str)),(((((s++(" ":Str))++w)++(" ":Str))++n)++("\t":Str)),((((s++("\t":Str))++w)++(" ":Str))++n),((((s++(" ":Str))++w)++(" \t":Str))++n)]
end
def Frm2 (p:Str):Prop:=Frm p∧Ok2 44 32 p.cps.toList∧p.length≤60
theorem frm2 {p:Str} (E:List Nat) (e:p.cps.toList=E) (b:Bad E) (o:Ok2 44 32 E) (a:∀ c ∈ E,c<128) (l:E.length≤60):Frm2 p:=by
 subst e
 rw [← T15.len_list] at l
 exact ⟨⟨b,a,Nat.le_trans l (by decide)⟩,o,l⟩
section
variable {s w n u t:Str}{S W N U T:List Nat}(es:s.cps.toList=S)(ew:w.cps.toList=W)(en:n.cps.toList=N)(eu:u.cps.toList=U)(et:t.cps.toList=T)(hs:W1 S)(hw:W1 W)(hn:W1 N)(hu:W1 U)(ht:W1 T)(hU:U ∉ sidesL)(hX:(S++[119,101,115,116]) ∉ sidesL)
include es ew en eu et hs hw hn hu ht hU hX
theorem fm0:Frm2 (((("up ":Str)++w)++(" ":Str))++n):=by
 have l1:=hs.le
 have l2:=hw.le
 have l3:=hn.le
 have l4:=hu.le
 have l5:=ht.le
 exact frm2 ((([117,112,32]++W)++[32])++N) (by simp only [app_cps,es,ew,en,eu,et,q0,q1,q2,q3,q4,q5,q6,q7,q8,q9,q10,q11,q12,q13,q14,q15,q16]) (.inr ⟨[117,112],W,N,by simp,by simp [hs.a32,hs.a44,hw.a32,hw.a44,hn.a32,hn.a44,hu.a32,hu.a44,ht.a32,ht.a44],by simp [hs.a32,hs.a44,hw.a32,hw.a44,hn.a32,hn.a44,hu.a32,hu.a44,ht.a32,ht.a44],by simp [hs.a32,hs.a44,hw.a32,hw.a44,hn.a32,hn.a44,hu.a32,hu.a44,ht.a32,ht.a44],.inl (by decide)⟩) (ok2_no44 (by simp [hs.a32,hs.a44,hw.a32,hw.a44,hn.a32,hn.a44,hu.a32,hu.a44,ht.a32,ht.a44])) (all_app (all_app (all_app (by decide) hw.al) (by decide)) hn.al) (by simp only [List.length_append,List.length_cons,List.length_nil]; omega)
theorem fm1:Frm2 ((((u++(" ":Str))++w)++(" ":Str))++n):=by
 have l1:=hs.le
 have l2:=hw.le
 have l3:=hn.le
 have l4:=hu.le
 have l5:=ht.le
 exact frm2 ((((U++[32])++W)++[32])++N) (by simp only [app_cps,es,ew,en,eu,et,q0,q1,q2,q3,q4,q5,q6,q7,q8,q9,q10,q11,q12,q13,q14,q15,q16]) (.inr ⟨U,W,N,by simp,by simp [hs.a32,hs.a44,hw.a32,hw.a44,hn.a32,hn.a44,hu.a32,hu.a44,ht.a32,ht.a44],by simp [hs.a32,hs.a44,hw.a32,hw.a44,hn.a32,hn.a44,hu.a32,hu.a44,ht.a32,ht.a44],by simp [hs.a32,hs.a44,hw.a32,hw.a44,hn.a32,hn.a44,hu.a32,hu.a44,ht.a32,ht.a44],.inl hU⟩) (ok2_no44 (by simp [hs.a32,hs.a44,hw.a32,hw.a44,hn.a32,hn.a44,hu.a32,hu.a44,ht.a32,ht.a44])) (all_app (all_app (all_app (all_app hu.al (by decide)) hw.al) (by decide)) hn.al) (by simp only [List.length_append,List.length_cons,List.length_nil]; omega)
theorem fm2:Frm2 ((s++(" Over ":Str))++n):=by
 have l1:=hs.le
 have l2:=hw.le
 have l3:=hn.le
 have l4:=hu.le
 have l5:=ht.le
 exact frm2 ((S++[32,79,118,101,114,32])++N) (by simp only [app_cps,es,ew,en,eu,et,q0,q1,q2,q3,q4,q5,q6,q7,q8,q9,q10,q11,q12,q13,q14,q15,q16]) (.inr ⟨S,[79,118,101,114],N,by simp,by simp [hs.a32,hs.a44,hw.a32,hw.a44,hn.a32,hn.a44,hu.a32,hu.a44,ht.a32,ht.a44],by simp [hs.a32,hs.a44,hw.a32,hw.a44,hn.a32,hn.a44,hu.a32,hu.a44,ht.a32,ht.a44],by simp [hs.a32,hs.a44,hw.a32,hw.a44,hn.a32,hn.a44,hu.a32,hu.a44,ht.a32,ht.a44],.inr (.inl (by decide))⟩) (ok2_no44 (by simp [hs.a32,hs.a44,hw.a32,hw.a44,hn.a32,hn.a44,hu.a32,hu.a44,ht.a32,ht.a44])) (all_app (all_app hs.al (by decide)) hn.al) (by simp only [List.length_append,List.length_cons,List.length_nil]; omega)
theorem fm3:Frm2 ((s++(" ":Str))++n):=by
 have l1:=hs.le
 have l2:=hw.le
 have l3:=hn.le
 have l4:=hu.le
 have l5:=ht.le
 exact frm2 ((S++[32])++N) (by simp only [app_cps,es,ew,en,eu,et,q0,q1,q2,q3,q4,q5,q6,q7,q8,q9,q10,q11,q12,q13,q14,q15,q16]) (.inl (by simp [List.count_cons,hs.c,hw.c,hn.c,hu.c,ht.c])) (ok2_no44 (by simp [hs.a32,hs.a44,hw.a32,hw.a44,hn.a32,hn.a44,hu.a32,hu.a44,ht.a32,ht.a44])) (all_app (all_app hs.al (by decide)) hn.al) (by simp only [List.length_append,List.length_cons,List.length_nil]; omega)
theorem fm4:Frm2 ((w++(" ":Str))++n):=by
 have l1:=hs.le
 have l2:=hw.le
 have l3:=hn.le
 have l4:=hu.le
 have l5:=ht.le
 exact frm2 ((W++[32])++N) (by simp only [app_cps,es,ew,en,eu,et,q0,q1,q2,q3,q4,q5,q6,q7,q8,q9,q10,q11,q12,q13,q14,q15,q16]) (.inl (by simp [List.count_cons,hs.c,hw.c,hn.c,hu.c,ht.c])) (ok2_no44 (by simp [hs.a32,hs.a44,hw.a32,hw.a44,hn.a32,hn.a44,hu.a32,hu.a44,ht.a32,ht.a44])) (all_app (all_app hw.al (by decide)) hn.al) (by simp only [List.length_append,List.length_cons,List.length_nil]; omega)
theorem fm5:Frm2 ((s++(" ":Str))++w):=by
 have l1:=hs.le
 have l2:=hw.le
 have l3:=hn.le
 have l4:=hu.le
 have l5:=ht.le
 exact frm2 ((S++[32])++W) (by simp only [app_cps,es,ew,en,eu,et,q0,q1,q2,q3,q4,q5,q6,q7,q8,q9,q10,q11,q12,q13,q14,q15,q16]) (.inl (by simp [List.count_cons,hs.c,hw.c,hn.c,hu.c,ht.c])) (ok2_no44 (by simp [hs.a32,hs.a44,hw.a32,hw.a44,hn.a32,hn.a44,hu.a32,hu.a44,ht.a32,ht.a44])) (all_app (all_app hs.al (by decide)) hw.al) (by simp only [List.length_append,List.length_cons,List.length_nil]; omega)
theorem fm6:Frm2 (((s++(" ":Str))++w)++(" ":Str)):=by
 have l1:=hs.le
 have l2:=hw.le
 have l3:=hn.le
 have l4:=hu.le
 have l5:=ht.le
 exact frm2 (((S++[32])++W)++[32]) (by simp only [app_cps,es,ew,en,eu,et,q0,q1,q2,q3,q4,q5,q6,q7,q8,q9,q10,q11,q12,q13,q14,q15,q16]) (.inr ⟨S,W,[],by simp,by simp [hs.a32,hs.a44,hw.a32,hw.a44,hn.a32,hn.a44,hu.a32,hu.a44,ht.a32,ht.a44],by simp [hs.a32,hs.a44,hw.a32,hw.a44,hn.a32,hn.a44,hu.a32,hu.a44,ht.a32,ht.a44],by simp [hs.a32,hs.a44,hw.a32,hw.a44,hn.a32,hn.a44,hu.a32,hu.a44,ht.a32,ht.a44],.inr (.inr (.inr (.inr (.inl rfl))))⟩) (ok2_no44 (by simp [hs.a32,hs.a44,hw.a32,hw.a44,hn.a32,hn.a44,hu.a32,hu.a44,ht.a32,ht.a44])) (all_app (all_app (all_app hs.al (by decide)) hw.al) (by decide)) (by simp only [List.length_append,List.length_cons,List.length_nil]; omega)
theorem fm7:Frm2 ((((s++("  ":Str))++w)++(" ":Str))++n):=by
 have l1:=hs.le
 have l2:=hw.le
 have l3:=hn.le
 have l4:=hu.le
 have l5:=ht.le
 exact frm2 ((((S++[32,32])++W)++[32])++N) (by simp only [app_cps,es,ew,en,eu,et,q0,q1,q2,q3,q4,q5,q6,q7,q8,q9,q10,q11,q12,q13,q14,q15,q16]) (.inl (by simp [List.count_cons,hs.c,hw.c,hn.c,hu.c,ht.c])) (ok2_no44 (by simp [hs.a32,hs.a44,hw.a32,hw.a44,hn.a32,hn.a44,hu.a32,hu.a44,ht.a32,ht.a44])) (all_app (all_app (all_app (all_app hs.al (by decide)) hw.al) (by decide)) hn.al) (by simp only [List.length_append,List.length_cons,List.length_nil]; omega)
theorem fm8:Frm2 ((((s++(" ":Str))++w)++("  ":Str))++n):=by
 have l1:=hs.le
 have l2:=hw.le
 have l3:=hn.le
 have l4:=hu.le
 have l5:=ht.le
 exact frm2 ((((S++[32])++W)++[32,32])++N) (by simp only [app_cps,es,ew,en,eu,et,q0,q1,q2,q3,q4,q5,q6,q7,q8,q9,q10,q11,q12,q13,q14,q15,q16]) (.inl (by simp [List.count_cons,hs.c,hw.c,hn.c,hu.c,ht.c])) (ok2_no44 (by simp [hs.a32,hs.a44,hw.a32,hw.a44,hn.a32,hn.a44,hu.a32,hu.a44,ht.a32,ht.a44])) (all_app (all_app (all_app (all_app hs.al (by decide)) hw.al) (by decide)) hn.al) (by simp only [List.length_append,List.length_cons,List.length_nil]; omega)
theorem fm9:Frm2 (((((" ":Str)++s)++(" ":Str))++w)++(" 1":Str)):=by
 have l1:=hs.le
 have l2:=hw.le
 have l3:=hn.le
 have l4:=hu.le
 have l5:=ht.le
 exact frm2 (((([32]++S)++[32])++W)++[32,49]) (by simp only [app_cps,es,ew,en,eu,et,q0,q1,q2,q3,q4,q5,q6,q7,q8,q9,q10,q11,q12,q13,q14,q15,q16]) (.inl (by simp [List.count_cons,hs.c,hw.c,hn.c,hu.c,ht.c])) (ok2_no44 (by simp [hs.a32,hs.a44,hw.a32,hw.a44,hn.a32,hn.a44,hu.a32,hu.a44,ht.a32,ht.a44])) (all_app (all_app (all_app (all_app (by decide) hs.al) (by decide)) hw.al) (by decide)) (by simp only [List.length_append,List.length_cons,List.length_nil]; omega)
theorem fm10:Frm2 (((((s++(" ":Str))++w)++(" ":Str))++n)++(" ":Str)):=by
 have l1:=hs.le
 have l2:=hw.le
 have l3:=hn.le
 have l4:=hu.le
 have l5:=ht.le
 exact frm2 (((((S++[32])++W)++[32])++N)++[32]) (by simp only [app_cps,es,ew,en,eu,et,q0,q1,q2,q3,q4,q5,q6,q7,q8,q9,q10,q11,q12,q13,q14,q15,q16]) (.inl (by simp [List.count_cons,hs.c,hw.c,hn.c,hu.c,ht.c])) (ok2_no44 (by simp [hs.a32,hs.a44,hw.a32,hw.a44,hn.a32,hn.a44,hu.a32,hu.a44,ht.a32,ht.a44])) (all_app (all_app (all_app (all_app (all_app hs.al (by decide)) hw.al) (by decide)) hn.al) (by decide)) (by simp only [List.length_append,List.length_cons,List.length_nil]; omega)
theorem fm11:Frm2 ((((s++(" ":Str))++w)++(" +":Str))++n):=by
 have l1:=hs.le
 have l2:=hw.le
 have l3:=hn.le
 have l4:=hu.le
 have l5:=ht.le
 exact frm2 ((((S++[32])++W)++[32,43])++N) (by simp only [app_cps,es,ew,en,eu,et,q0,q1,q2,q3,q4,q5,q6,q7,q8,q9,q10,q11,q12,q13,q14,q15,q16]) (.inr ⟨S,W,(43::N),by simp,by simp [hs.a32,hs.a44,hw.a32,hw.a44,hn.a32,hn.a44,hu.a32,hu.a44,ht.a32,ht.a44],by simp [hs.a32,hs.a44,hw.a32,hw.a44,hn.a32,hn.a44,hu.a32,hu.a44,ht.a32,ht.a44],by simp [hs.a32,hs.a44,hw.a32,hw.a44,hn.a32,hn.a44,hu.a32,hu.a44,ht.a32,ht.a44],.inr (.inr (.inl ⟨43,by simp,by decide⟩))⟩) (ok2_no44 (by simp [hs.a32,hs.a44,hw.a32,hw.a44,hn.a32,hn.a44,hu.a32,hu.a44,ht.a32,ht.a44])) (all_app (all_app (all_app (all_app hs.al (by decide)) hw.al) (by decide)) hn.al) (by simp only [List.length_append,List.length_cons,List.length_nil]; omega)
theorem fm12:Frm2 ((((s++(" ":Str))++w)++(" -":Str))++n):=by
 have l1:=hs.le
 have l2:=hw.le
 have l3:=hn.le
 have l4:=hu.le
 have l5:=ht.le
 exact frm2 ((((S++[32])++W)++[32,45])++N) (by simp only [app_cps,es,ew,en,eu,et,q0,q1,q2,q3,q4,q5,q6,q7,q8,q9,q10,q11,q12,q13,q14,q15,q16]) (.inr ⟨S,W,(45::N),by simp,by simp [hs.a32,hs.a44,hw.a32,hw.a44,hn.a32,hn.a44,hu.a32,hu.a44,ht.a32,ht.a44],by simp [hs.a32,hs.a44,hw.a32,hw.a44,hn.a32,hn.a44,hu.a32,hu.a44,ht.a32,ht.a44],by simp [hs.a32,hs.a44,hw.a32,hw.a44,hn.a32,hn.a44,hu.a32,hu.a44,ht.a32,ht.a44],.inr (.inr (.inl ⟨45,by simp,by decide⟩))⟩) (ok2_no44 (by simp [hs.a32,hs.a44,hw.a32,hw.a44,hn.a32,hn.a44,hu.a32,hu.a44,ht.a32,ht.a44])) (all_app (all_app (all_app (all_app hs.al (by decide)) hw.al) (by decide)) hn.al) (by simp only [List.length_append,List.length_cons,List.length_nil]; omega)
theorem fm13:Frm2 ((((s++(" ":Str))++w)++(" 0":Str))++n):=by
 have l1:=hs.le
 have l2:=hw.le
 have l3:=hn.le
 have l4:=hu.le
 have l5:=ht.le
 exact frm2 ((((S++[32])++W)++[32,48])++N) (by simp only [app_cps,es,ew,en,eu,et,q0,q1,q2,q3,q4,q5,q6,q7,q8,q9,q10,q11,q12,q13,q14,q15,q16]) (.inr ⟨S,W,(48::N),by simp,by simp [hs.a32,hs.a44,hw.a32,hw.a44,hn.a32,hn.a44,hu.a32,hu.a44,ht.a32,ht.a44],by simp [hs.a32,hs.a44,hw.a32,hw.a44,hn.a32,hn.a44,hu.a32,hu.a44,ht.a32,ht.a44],by simp [hs.a32,hs.a44,hw.a32,hw.a44,hn.a32,hn.a44,hu.a32,hu.a44,ht.a32,ht.a44],.inr (.inr (.inr (.inr (.inr ⟨_,rfl⟩))))⟩) (ok2_no44 (by simp [hs.a32,hs.a44,hw.a32,hw.a44,hn.a32,hn.a44,hu.a32,hu.a44,ht.a32,ht.a44])) (all_app (all_app (all_app (all_app hs.al (by decide)) hw.al) (by decide)) hn.al) (by simp only [List.length_append,List.length_cons,List.length_nil]; omega)
theorem fm14:Frm2 (((s++(" ":Str))++w)++(" 0":Str)):=by
 have l1:=hs.le
 have l2:=hw.le
 have l3:=hn.le
 have l4:=hu.le
 have l5:=ht.le
 exact frm2 (((S++[32])++W)++[32,48]) (by simp only [app_cps,es,ew,en,eu,et,q0,q1,q2,q3,q4,q5,q6,q7,q8,q9,q10,q11,q12,q13,q14,q15,q16]) (.inr ⟨S,W,[48],by simp,by simp [hs.a32,hs.a44,hw.a32,hw.a44,hn.a32,hn.a44,hu.a32,hu.a44,ht.a32,ht.a44],by simp [hs.a32,hs.a44,hw.a32,hw.a44,hn.a32,hn.a44,hu.a32,hu.a44,ht.a32,ht.a44],by simp [hs.a32,hs.a44,hw.a32,hw.a44,hn.a32,hn.a44,hu.a32,hu.a44,ht.a32,ht.a44],.inr (.inr (.inr (.inr (.inr ⟨_,rfl⟩))))⟩) (ok2_no44 (by simp [hs.a32,hs.a44,hw.a32,hw.a44,hn.a32,hn.a44,hu.a32,hu.a44,ht.a32,ht.a44])) (all_app (all_app (all_app hs.al (by decide)) hw.al) (by decide)) (by simp only [List.length_append,List.length_cons,List.length_nil]; omega)
theorem fm15:Frm2 (((((s++(" ":Str))++w)++(" ":Str))++n)++("a":Str)):=by
 have l1:=hs.le
 have l2:=hw.le
 have l3:=hn.le
 have l4:=hu.le
 have l5:=ht.le
 exact frm2 (((((S++[32])++W)++[32])++N)++[97]) (by simp only [app_cps,es,ew,en,eu,et,q0,q1,q2,q3,q4,q5,q6,q7,q8,q9,q10,q11,q12,q13,q14,q15,q16]) (.inr ⟨S,W,(N++[97]),by simp,by simp [hs.a32,hs.a44,hw.a32,hw.a44,hn.a32,hn.a44,hu.a32,hu.a44,ht.a32,ht.a44],by simp [hs.a32,hs.a44,hw.a32,hw.a44,hn.a32,hn.a44,hu.a32,hu.a44,ht.a32,ht.a44],by simp [hs.a32,hs.a44,hw.a32,hw.a44,hn.a32,hn.a44,hu.a32,hu.a44,ht.a32,ht.a44],.inr (.inr (.inl ⟨97,by simp,by decide⟩))⟩) (ok2_no44 (by simp [hs.a32,hs.a44,hw.a32,hw.a44,hn.a32,hn.a44,hu.a32,hu.a44,ht.a32,ht.a44])) (all_app (all_app (all_app (all_app (all_app hs.al (by decide)) hw.al) (by decide)) hn.al) (by decide)) (by simp only [List.length_append,List.length_cons,List.length_nil]; omega)
theorem fm16:Frm2 (((s++(" ":Str))++w)++(" 1000000000":Str)):=by
 have l1:=hs.le
 have l2:=hw.le
 have l3:=hn.le
 have l4:=hu.le
 have l5:=ht.le
 exact frm2 (((S++[32])++W)++[32,49,48,48,48,48,48,48,48,48,48]) (by simp only [app_cps,es,ew,en,eu,et,q0,q1,q2,q3,q4,q5,q6,q7,q8,q9,q10,q11,q12,q13,q14,q15,q16]) (.inr ⟨S,W,[49,48,48,48,48,48,48,48,48,48],by simp,by simp [hs.a32,hs.a44,hw.a32,hw.a44,hn.a32,hn.a44,hu.a32,hu.a44,ht.a32,ht.a44],by simp [hs.a32,hs.a44,hw.a32,hw.a44,hn.a32,hn.a44,hu.a32,hu.a44,ht.a32,ht.a44],by simp [hs.a32,hs.a44,hw.a32,hw.a44,hn.a32,hn.a44,hu.a32,hu.a44,ht.a32,ht.a44],.inr (.inr (.inr (.inl (by decide))))⟩) (ok2_no44 (by simp [hs.a32,hs.a44,hw.a32,hw.a44,hn.a32,hn.a44,hu.a32,hu.a44,ht.a32,ht.a44])) (all_app (all_app (all_app hs.al (by decide)) hw.al) (by decide)) (by simp only [List.length_append,List.length_cons,List.length_nil]; omega)
theorem fm17:Frm2 ("":Str):=by
 have l1:=hs.le
 have l2:=hw.le
 have l3:=hn.le
 have l4:=hu.le
 have l5:=ht.le
 exact frm2 [] (by simp only [app_cps,es,ew,en,eu,et,q0,q1,q2,q3,q4,q5,q6,q7,q8,q9,q10,q11,q12,q13,q14,q15,q16]) (.inl (by simp [List.count_cons,hs.c,hw.c,hn.c,hu.c,ht.c])) (ok2_no44 (by simp [hs.a32,hs.a44,hw.a32,hw.a44,hn.a32,hn.a44,hu.a32,hu.a44,ht.a32,ht.a44])) (by decide) (by decide)
theorem fm18:Frm2 (((((s++(" ":Str))++w)++(" ":Str))++n)++(" 1":Str)):=by
 have l1:=hs.le
 have l2:=hw.le
 have l3:=hn.le
 have l4:=hu.le
 have l5:=ht.le
 exact frm2 (((((S++[32])++W)++[32])++N)++[32,49]) (by simp only [app_cps,es,ew,en,eu,et,q0,q1,q2,q3,q4,q5,q6,q7,q8,q9,q10,q11,q12,q13,q14,q15,q16]) (.inl (by simp [List.count_cons,hs.c,hw.c,hn.c,hu.c,ht.c])) (ok2_no44 (by simp [hs.a32,hs.a44,hw.a32,hw.a44,hn.a32,hn.a44,hu.a32,hu.a44,ht.a32,ht.a44])) (all_app (all_app (all_app (all_app (all_app hs.al (by decide)) hw.al) (by decide)) hn.al) (by decide)) (by simp only [List.length_append,List.length_cons,List.length_nil]; omega)
theorem fm19:Frm2 (((((s++(" ":Str))++w)++(" ":Str))++n)++("\n":Str)):=by
 have l1:=hs.le
 have l2:=hw.le
 have l3:=hn.le
 have l4:=hu.le
 have l5:=ht.le
 exact frm2 (((((S++[32])++W)++[32])++N)++[10]) (by simp only [app_cps,es,ew,en,eu,et,q0,q1,q2,q3,q4,q5,q6,q7,q8,q9,q10,q11,q12,q13,q14,q15,q16]) (.inr ⟨S,W,(N++[10]),by simp,by simp [hs.a32,hs.a44,hw.a32,hw.a44,hn.a32,hn.a44,hu.a32,hu.a44,ht.a32,ht.a44],by simp [hs.a32,hs.a44,hw.a32,hw.a44,hn.a32,hn.a44,hu.a32,hu.a44,ht.a32,ht.a44],by simp [hs.a32,hs.a44,hw.a32,hw.a44,hn.a32,hn.a44,hu.a32,hu.a44,ht.a32,ht.a44],.inr (.inr (.inl ⟨10,by simp,by decide⟩))⟩) (ok2_no44 (by simp [hs.a32,hs.a44,hw.a32,hw.a44,hn.a32,hn.a44,hu.a32,hu.a44,ht.a32,ht.a44])) (all_app (all_app (all_app (all_app (all_app hs.al (by decide)) hw.al) (by decide)) hn.al) (by decide)) (by simp only [List.length_append,List.length_cons,List.length_nil]; omega)
theorem fm20:Frm2 t:=by
 have l1:=hs.le
 have l2:=hw.le
 have l3:=hn.le
 have l4:=hu.le
 have l5:=ht.le
 exact frm2 T (by simp only [app_cps,es,ew,en,eu,et,q0,q1,q2,q3,q4,q5,q6,q7,q8,q9,q10,q11,q12,q13,q14,q15,q16]) (.inl (by simp [List.count_cons,hs.c,hw.c,hn.c,hu.c,ht.c])) (ok2_no44 (by simp [hs.a32,hs.a44,hw.a32,hw.a44,hn.a32,hn.a44,hu.a32,hu.a44,ht.a32,ht.a44])) ht.al (by omega)
theorem fm21:Frm2 (((((s++(" ":Str))++w)++(" ":Str))++n)++(",":Str)):=by
 have l1:=hs.le
 have l2:=hw.le
 have l3:=hn.le
 have l4:=hu.le
 have l5:=ht.le
 exact frm2 (((((S++[32])++W)++[32])++N)++[44]) (by simp only [app_cps,es,ew,en,eu,et,q0,q1,q2,q3,q4,q5,q6,q7,q8,q9,q10,q11,q12,q13,q14,q15,q16]) (.inr ⟨S,W,(N++[44]),by simp,by simp [hs.a32,hs.a44,hw.a32,hw.a44,hn.a32,hn.a44,hu.a32,hu.a44,ht.a32,ht.a44],by simp [hs.a32,hs.a44,hw.a32,hw.a44,hn.a32,hn.a44,hu.a32,hu.a44,ht.a32,ht.a44],by simp [hs.a32,hs.a44,hw.a32,hw.a44,hn.a32,hn.a44,hu.a32,hu.a44,ht.a32,ht.a44],.inr (.inr (.inl ⟨44,by simp,by decide⟩))⟩) (ok2_snoc (by simp [hs.a32,hs.a44,hw.a32,hw.a44,hn.a32,hn.a44,hu.a32,hu.a44,ht.a32,ht.a44])) (all_app (all_app (all_app (all_app (all_app hs.al (by decide)) hw.al) (by decide)) hn.al) (by decide)) (by simp only [List.length_append,List.length_cons,List.length_nil]; omega)
theorem fm22:Frm2 ((((s++(",":Str))++w)++(",":Str))++n):=by
 have l1:=hs.le
 have l2:=hw.le
 have l3:=hn.le
 have l4:=hu.le
 have l5:=ht.le
 exact frm2 ((((S++[44])++W)++[44])++N) (by simp only [app_cps,es,ew,en,eu,et,q0,q1,q2,q3,q4,q5,q6,q7,q8,q9,q10,q11,q12,q13,q14,q15,q16]) (.inl (by simp [List.count_cons,hs.c,hw.c,hn.c,hu.c,ht.c])) (ok2_no32 (by simp [hs.a32,hs.a44,hw.a32,hw.a44,hn.a32,hn.a44,hu.a32,hu.a44,ht.a32,ht.a44])) (all_app (all_app (all_app (all_app hs.al (by decide)) hw.al) (by decide)) hn.al) (by simp only [List.length_append,List.length_cons,List.length_nil]; omega)
theorem fm23:Frm2 (s++("west over 1":Str)):=by
 have l1:=hs.le
 have l2:=hw.le
 have l3:=hn.le
 have l4:=hu.le
 have l5:=ht.le
 exact frm2 (S++[119,101,115,116,32,111,118,101,114,32,49]) (by simp only [app_cps,es,ew,en,eu,et,q0,q1,q2,q3,q4,q5,q6,q7,q8,q9,q10,q11,q12,q13,q14,q15,q16]) (.inr ⟨(S++[119,101,115,116]),[111,118,101,114],[49],by simp,by simp [hs.a32,hs.a44,hw.a32,hw.a44,hn.a32,hn.a44,hu.a32,hu.a44,ht.a32,ht.a44],by simp [hs.a32,hs.a44,hw.a32,hw.a44,hn.a32,hn.a44,hu.a32,hu.a44,ht.a32,ht.a44],by simp [hs.a32,hs.a44,hw.a32,hw.a44,hn.a32,hn.a44,hu.a32,hu.a44,ht.a32,ht.a44],.inl hX⟩) (ok2_no44 (by simp [hs.a32,hs.a44,hw.a32,hw.a44,hn.a32,hn.a44,hu.a32,hu.a44,ht.a32,ht.a44])) (all_app hs.al (by decide)) (by simp only [List.length_append,List.length_cons,List.length_nil]; omega)
theorem fm24:Frm2 (((s++(" ":Str))++w)++(" 1_0":Str)):=by
 have l1:=hs.le
 have l2:=hw.le
 have l3:=hn.le
 have l4:=hu.le
 have l5:=ht.le
 exact frm2 (((S++[32])++W)++[32,49,95,48]) (by simp only [app_cps,es,ew,en,eu,et,q0,q1,q2,q3,q4,q5,q6,q7,q8,q9,q10,q11,q12,q13,q14,q15,q16]) (.inr ⟨S,W,[49,95,48],by simp,by simp [hs.a32,hs.a44,hw.a32,hw.a44,hn.a32,hn.a44,hu.a32,hu.a44,ht.a32,ht.a44],by simp [hs.a32,hs.a44,hw.a32,hw.a44,hn.a32,hn.a44,hu.a32,hu.a44,ht.a32,ht.a44],by simp [hs.a32,hs.a44,hw.a32,hw.a44,hn.a32,hn.a44,hu.a32,hu.a44,ht.a32,ht.a44],.inr (.inr (.inl ⟨95,by simp,by decide⟩))⟩) (ok2_no44 (by simp [hs.a32,hs.a44,hw.a32,hw.a44,hn.a32,hn.a44,hu.a32,hu.a44,ht.a32,ht.a44])) (all_app (all_app (all_app hs.al (by decide)) hw.al) (by decide)) (by simp only [List.length_append,List.length_cons,List.length_nil]; omega)
theorem fm25:Frm2 (((((s++(" ":Str))++w)++(" ":Str))++n)++("\t":Str)):=by
 have l1:=hs.le
 have l2:=hw.le
 have l3:=hn.le
 have l4:=hu.le
 have l5:=ht.le
 exact frm2 (((((S++[32])++W)++[32])++N)++[9]) (by simp only [app_cps,es,ew,en,eu,et,q0,q1,q2,q3,q4,q5,q6,q7,q8,q9,q10,q11,q12,q13,q14,q15,q16]) (.inr ⟨S,W,(N++[9]),by simp,by simp [hs.a32,hs.a44,hw.a32,hw.a44,hn.a32,hn.a44,hu.a32,hu.a44,ht.a32,ht.a44],by simp [hs.a32,hs.a44,hw.a32,hw.a44,hn.a32,hn.a44,hu.a32,hu.a44,ht.a32,ht.a44],by simp [hs.a32,hs.a44,hw.a32,hw.a44,hn.a32,hn.a44,hu.a32,hu.a44,ht.a32,ht.a44],.inr (.inr (.inl ⟨9,by simp,by decide⟩))⟩) (ok2_no44 (by simp [hs.a32,hs.a44,hw.a32,hw.a44,hn.a32,hn.a44,hu.a32,hu.a44,ht.a32,ht.a44])) (all_app (all_app (all_app (all_app (all_app hs.al (by decide)) hw.al) (by decide)) hn.al) (by decide)) (by simp only [List.length_append,List.length_cons,List.length_nil]; omega)
theorem fm26:Frm2 ((((s++("\t":Str))++w)++(" ":Str))++n):=by
 have l1:=hs.le
 have l2:=hw.le
 have l3:=hn.le
 have l4:=hu.le
 have l5:=ht.le
 exact frm2 ((((S++[9])++W)++[32])++N) (by simp only [app_cps,es,ew,en,eu,et,q0,q1,q2,q3,q4,q5,q6,q7,q8,q9,q10,q11,q12,q13,q14,q15,q16]) (.inl (by simp [List.count_cons,hs.c,hw.c,hn.c,hu.c,ht.c])) (ok2_no44 (by simp [hs.a32,hs.a44,hw.a32,hw.a44,hn.a32,hn.a44,hu.a32,hu.a44,ht.a32,ht.a44])) (all_app (all_app (all_app (all_app hs.al (by decide)) hw.al) (by decide)) hn.al) (by simp only [List.length_append,List.length_cons,List.length_nil]; omega)
theorem fm27:Frm2 ((((s++(" ":Str))++w)++(" \t":Str))++n):=by
 have l1:=hs.le
 have l2:=hw.le
 have l3:=hn.le
 have l4:=hu.le
 have l5:=ht.le
 exact frm2 ((((S++[32])++W)++[32,9])++N) (by simp only [app_cps,es,ew,en,eu,et,q0,q1,q2,q3,q4,q5,q6,q7,q8,q9,q10,q11,q12,q13,q14,q15,q16]) (.inr ⟨S,W,(9::N),by simp,by simp [hs.a32,hs.a44,hw.a32,hw.a44,hn.a32,hn.a44,hu.a32,hu.a44,ht.a32,ht.a44],by simp [hs.a32,hs.a44,hw.a32,hw.a44,hn.a32,hn.a44,hu.a32,hu.a44,ht.a32,ht.a44],by simp [hs.a32,hs.a44,hw.a32,hw.a44,hn.a32,hn.a44,hu.a32,hu.a44,ht.a32,ht.a44],.inr (.inr (.inl ⟨9,by simp,by decide⟩))⟩) (ok2_no44 (by simp [hs.a32,hs.a44,hw.a32,hw.a44,hn.a32,hn.a44,hu.a32,hu.a44,ht.a32,ht.a44])) (all_app (all_app (all_app (all_app hs.al (by decide)) hw.al) (by decide)) hn.al) (by simp only [List.length_append,List.length_cons,List.length_nil]; omega)
theorem fm_all:∀ p ∈ texts s w n u t,Frm2 p:=
 List.forall_mem_cons.mpr ⟨fm0 es ew en eu et hs hw hn hu ht hU hX,List.forall_mem_cons.mpr ⟨fm1 es ew en eu et hs hw hn hu ht hU hX,List.forall_mem_cons.mpr ⟨fm2 es ew en eu et hs hw hn hu ht hU hX,List.forall_mem_cons.mpr ⟨fm3 es ew en eu et hs hw hn hu ht hU hX,List.forall_mem_cons.mpr ⟨fm4 es ew en eu et hs hw hn hu ht hU hX,List.forall_mem_cons.mpr ⟨fm5 es ew en eu et hs hw hn hu ht hU hX,List.forall_mem_cons.mpr ⟨fm6 es ew en eu et hs hw hn hu ht hU hX,List.forall_mem_cons.mpr ⟨fm7 es ew en eu et hs hw hn hu ht hU hX,List.forall_mem_cons.mpr ⟨fm8 es ew en eu et hs hw hn hu ht hU hX,List.forall_mem_cons.mpr ⟨fm9 es ew en eu et hs hw hn hu ht hU hX,List.forall_mem_cons.mpr ⟨fm10 es ew en eu et hs hw hn hu ht hU hX,List.forall_mem_cons.mpr ⟨fm11 es ew en eu et hs hw hn hu ht hU hX,List.forall_mem_cons.mpr ⟨fm12 es ew en eu et hs hw hn hu ht hU hX,List.forall_mem_cons.mpr ⟨fm13 es ew en eu et hs hw hn hu ht hU hX,List.forall_mem_cons.mpr ⟨fm14 es ew en eu et hs hw hn hu ht hU hX,List.forall_mem_cons.mpr ⟨fm15 es ew en eu et hs hw hn hu ht hU hX,List.forall_mem_cons.mpr ⟨fm16 es ew en eu et hs hw hn hu ht hU hX,List.forall_mem_cons.mpr ⟨fm17 es ew en eu et hs hw hn hu ht hU hX,List.forall_mem_cons.mpr ⟨fm18 es ew en eu et hs hw hn hu ht hU hX,List.forall_mem_cons.mpr ⟨fm19 es ew en eu et hs hw hn hu ht hU hX,List.forall_mem_cons.mpr ⟨fm20 es ew en eu et hs hw hn hu ht hU hX,List.forall_mem_cons.mpr ⟨fm21 es ew en eu et hs hw hn hu ht hU hX,List.forall_mem_cons.mpr ⟨fm22 es ew en eu et hs hw hn hu ht hU hX,List.forall_mem_cons.mpr ⟨fm23 es ew en eu et hs hw hn hu ht hU hX,List.forall_mem_cons.mpr ⟨fm24 es ew en eu et hs hw hn hu ht hU hX,List.forall_mem_cons.mpr ⟨fm25 es ew en eu et hs hw hn hu ht hU hX,List.forall_mem_cons.mpr ⟨fm26 es ew en eu et hs hw hn hu ht hU hX,List.forall_mem_cons.mpr ⟨fm27 es ew en eu et hs hw hn hu ht hU hX,fun _ z=>(nomatch z)⟩⟩⟩⟩⟩⟩⟩⟩⟩⟩⟩⟩⟩⟩⟩⟩⟩⟩⟩⟩⟩⟩⟩⟩⟩⟩⟩⟩
end
section
variable {G:GS}{d0 d1:D}{s w n u t:Str}{s5:Sl}
noncomputable def R5 (d0 d1:D) (s w n:Str) (s5:Sl):List Sl:=[.im d0,.im d1,.im (.str s),.im (.str w),.im (.str n),s5]
def Cat (G:GS) (ρ:List Sl) (e:IE) (x:Str) (m:Nat):Prop:=ev G e ρ=some (.str x)∧x.length≤m
theorem cl {ρ:List Sl} {x:Str} (h:x.length≤20:=by decide +kernel):Cat G ρ (.lit (.str x)) x 20:=⟨rfl,h⟩
theorem ca {ρ:List Sl} {a b:IE} {x y:Str} {i j:Nat} (ha:Cat G ρ a x i) (hb:Cat G ρ b y j) (h:i+j≤1000:=by decide):Cat G ρ (.bin .add a b) (x++y) (i+j):=by
 have h1:=ha.2
 have h2:=hb.2
 exact ⟨ev_addS ha.1 hb.1 (by omega),by rw [len_app]; omega⟩
theorem el_nil {ρ:List Sl}:ev G .nil ρ=some (.tup []):=rfl
theorem el_cons {ρ:List Sl} {e es:IE} {x:Str} {ds:List D} (h:ev G e ρ=some (.str x)) (hs:ev G es ρ=some (.tup ds)):ev G (.cons e es) ρ=some (.tup (.str x::ds)):=by rw [ev_cons,h,hs]; rfl
theorem ev_l5 {es:IE} {ds:List D} (h:ev G es (R5 d0 d1 s w n s5)=some (.tup ds)):ev G (.lst es) (R5 d0 d1 s w n s5)=some (.lst ds):=by rw [ev_lst,h]; rfl
theorem ev_a5 {es:IE} {as ds:List D} (h:ev G es (R5 d0 d1 s w n (.im (.lst as)))=some (.tup ds)) (hl:as.length+ds.length≤1000):ev G (.bin .add (.var 5) (.lst es)) (R5 d0 d1 s w n (.im (.lst as)))=some (.lst (as++ds)):=by
 rw [ev_bin,ev_l5 h]
 exact if_pos (Nat.le_trans hl (by decide))
theorem up_ev (h:s.length≤9):ev G (.meth (.var 2) "upper" .nil) (R5 d0 d1 s w n s5)=some (.str (Txt.upper s)):=by
 rw [ev_meth]
 show smD "upper" [.str s]=_
 unfold smD
 rw [if_neg (by decide +kernel),if_neg (by decide +kernel),if_neg (by decide +kernel),if_pos rfl]
 exact if_pos (by omega)
theorem sl_ev (h:s.length≤9):ev G (.sl (.var 2) false (.lit .non) true (.neg (.lit (.int 1)))) (R5 d0 d1 s w n s5)=some (.str (Txt.slice s none (some (-1)))):=by
 rw [ev_sl]
 exact if_pos (Nat.le_trans h (by decide))
end
section
variable {G:GS}
theorem w1_side (sd:Side):W1 sd.str.cps.toList:=by cases sd<;>exact ⟨by decide +kernel,by decide +kernel,by decide +kernel,by decide +kernel⟩
theorem w1_way (b:Bool):W1 (wayS b).cps.toList:=by cases b<;>exact ⟨by decide +kernel,by decide +kernel,by decide +kernel,by decide +kernel⟩
theorem w1_num {k:Nat} (h:k≤999999999):W1 (numS k).cps.toList:=⟨num_no.1,num_no.2,asc_num k,by rw [← T15.len_list]; exact num_len h⟩
theorem w1_up (sd:Side):W1 (Txt.upper sd.str).cps.toList:=by cases sd<;>exact ⟨by decide +kernel,by decide +kernel,by decide +kernel,by decide +kernel⟩
theorem w1_sl (sd:Side):W1 (Txt.slice sd.str none (some (-1))).cps.toList:=by cases sd<;>exact ⟨by decide +kernel,by decide +kernel,by decide +kernel,by decide +kernel⟩
theorem up_no (sd:Side):(Txt.upper sd.str).cps.toList ∉ sidesL:=by cases sd<;>decide +kernel
theorem west_no (sd:Side):(sd.str.cps.toList++[119,101,115,116]) ∉ sidesL:=by cases sd<;>decide +kernel
noncomputable def tx (f:Fold):List Str:=texts f.sd.str (wayS f.over) (numS f.k) (Txt.upper f.sd.str) (Txt.slice f.sd.str none (some (-1)))
theorem tx_bad {f:Fold} (h:Ok9 f):∀ p ∈ tx f,Frm2 p:=fm_all rfl rfl rfl rfl rfl (w1_side _) (w1_way _) (w1_num h.2) (w1_up _) (w1_sl _) (up_no _) (west_no _)
theorem spoilt_ok {f:Fold} (h:Ok9 f) {v:Nat} {p:Str} (hv:(tx f)[v]?=some p):runF G 6 i_spoilt [f.d,.int v]=some (.ok (.str p)):=by
 have hl:v<28:=(List.getElem?_eq_some_iff.mp hv).1
 have h5:f.sd.str.length≤9:=Nat.le_trans side_len (by decide)
 have cvs:∀ {s5:Sl},Cat G (R5 f.d (.int v) f.sd.str (wayS f.over) (numS f.k) s5) (.var 2) f.sd.str 9:=⟨rfl,h5⟩
 have cvw:∀ {s5:Sl},Cat G (R5 f.d (.int v) f.sd.str (wayS f.over) (numS f.k) s5) (.var 3) (wayS f.over) 9:=⟨rfl,Nat.le_trans way_len (by decide)⟩
 have cvn:∀ {s5:Sl},Cat G (R5 f.d (.int v) f.sd.str (wayS f.over) (numS f.k) s5) (.var 4) (numS f.k) 9:=⟨rfl,num_len h.2⟩
 have hu:∀ {s5:Sl},Cat G (R5 f.d (.int v) f.sd.str (wayS f.over) (numS f.k) s5) (.meth (.var 2) "upper" .nil) (Txt.upper f.sd.str) 9:=⟨up_ev h5,by have:=(w1_up f.sd).le; rwa [← T15.len_list] at this⟩
 have ht:∀ {s5:Sl},Cat G (R5 f.d (.int v) f.sd.str (wayS f.over) (numS f.k) s5) (.sl (.var 2) false (.lit .non) true (.neg (.lit (.int 1)))) (Txt.slice f.sd.str none (some (-1))) 9:=⟨sl_ev h5,by have:=(w1_sl f.sd).le; rwa [← T15.len_list] at this⟩
 refine runF_rt (ρ:=[.im f.d,.im (.int v),.un,.un,.un,.un]) rfl (ex_nx (ex_set (d:=.str f.sd.str) rfl) (ex_nx (ex_set (ite_way (over:=f.over) rfl)) (ex_nx (ex_set (d:=.str (numS f.k)) ?_) ?_)))
 ·show fStr [.int f.k]=_
  exact if_pos (log_num h.2)
 show ex G _ (R5 f.d (.int v) f.sd.str (wayS f.over) (numS f.k) .un)=_
 refine (ex_nx (ex_set (ev_l5 (el_cons (ca (ca (ca cl cvw) cl) cvn).1 (el_cons (ca (ca (ca (ca hu cl) cvw) cl) cvn).1 (el_cons (ca (ca cvs cl) cvn).1 el_nil))))) (ex_nx (ex_set (ev_a5 (el_cons (ca (ca cvs cl) cvn).1 (el_cons (ca (ca cvw cl) cvn).1 (el_cons (ca (ca cvs cl) cvw).1 (el_cons (ca (ca (ca cvs cl) cvw) cl).1 el_nil)))) (Nat.le_of_ble_eq_true rfl))) (ex_nx (ex_set (ev_a5 (el_cons (ca (ca (ca (ca cvs cl) cvw) cl) cvn).1 (el_cons (ca (ca (ca (ca cvs cl) cvw) cl) cvn).1 el_nil)) (Nat.le_of_ble_eq_true rfl))) (ex_nx (ex_set (ev_a5 (el_cons (ca (ca (ca (ca cl cvs) cl) cvw) cl).1 el_nil) (Nat.le_of_ble_eq_true rfl))) (ex_nx (ex_set (ev_a5 (el_cons (ca (ca (ca (ca (ca cvs cl) cvw) cl) cvn) cl).1 (el_cons (ca (ca (ca (ca cvs cl) cvw) cl) cvn).1 el_nil)) (Nat.le_of_ble_eq_true rfl))) (ex_nx (ex_set (ev_a5 (el_cons (ca (ca (ca (ca cvs cl) cvw) cl) cvn).1 (el_cons (ca (ca (ca (ca cvs cl) cvw) cl) cvn).1 (el_cons (ca (ca (ca cvs cl) cvw) cl).1 el_nil))) (Nat.le_of_ble_eq_true rfl))) (ex_nx (ex_set (ev_a5 (el_cons (ca (ca (ca (ca (ca cvs cl) cvw) cl) cvn) cl).1 (el_cons (ca (ca (ca cvs cl) cvw) cl).1 (el_cons rfl el_nil))) (Nat.le_of_ble_eq_true rfl))) (ex_nx (ex_set (ev_a5 (el_cons (ca (ca (ca (ca (ca cvs cl) cvw) cl) cvn) cl).1 (el_cons (ca (ca (ca (ca (ca cvs cl) cvw) cl) cvn) cl).1 (el_cons ht.1 el_nil))) (Nat.le_of_ble_eq_true rfl))) (ex_nx (ex_set (ev_a5 (el_cons (ca (ca (ca (ca (ca cvs cl) cvw) cl) cvn) cl).1 (el_cons (ca (ca (ca (ca cvs cl) cvw) cl) cvn).1 (el_cons (ca cvs cl).1 el_nil))) (Nat.le_of_ble_eq_true rfl))) (ex_nx (ex_set (ev_a5 (el_cons (ca (ca (ca cvs cl) cvw) cl).1 (el_cons (ca (ca (ca (ca (ca cvs cl) cvw) cl) cvn) cl).1 el_nil)) (Nat.le_of_ble_eq_true rfl))) (ex_nx (ex_set (ev_a5 (el_cons (ca (ca (ca (ca cvs cl) cvw) cl) cvn).1 (el_cons (ca (ca (ca (ca cvs cl) cvw) cl) cvn).1 el_nil)) (Nat.le_of_ble_eq_true rfl))) (ex_ret ?_))))))))))))
 have e:ev G (.bin .mod (.var 1) (.lit (.int 28))) (R5 f.d (.int v) f.sd.str (wayS f.over) (numS f.k) (.im (.lst ((tx f).map .str))))=some (.int v):=by
  show op2 .mod (.int v) (.int 28)=_
  rw [o_mod (by decide),show (v:Int) % 28=v by omega]
 show ev G _ (R5 f.d (.int v) f.sd.str (wayS f.over) (numS f.k) (.im (.lst ((tx f).map .str))))=_
 rw [ev_ix,e]
 show atI ((tx f).map D.str) (v:Int)=_
 exact at_nat (by rw [List.getElem?_map,hv]; rfl)
end
section
variable {G:GS}
noncomputable def i_rest:IS:=(.seq (.set 5 (.meth (.lit (.str ", ")) "join" (.cons (.var 2) .nil))) (.seq (.iff (.and (.bin .lt (.var 3) (.lit (.int 28))) (.bin .eq (.var 5) (.lit (.str "")))) (.ret false (.call "_law_same_folds" (.cons (.call "read" (.cons (.var 5) .nil)) (.cons (.lst .nil) .nil)))) .nop) tail))
abbrev sCm:Str:=","
noncomputable def yOf (v:Int) (n:Nat) (x:Str):Str:=if v=28 then x++sCm else if v=29 then x++sSep else if v=30 then (if (1:Int)<n then Txt.replace x sSep sCm else sBl) else x
theorem tail_ok {d0 d1 d4:D} {v:Int} {x:Str} {ds:List D} (hx:x.length≤100000) (hr:G.fn "_law_refused" [.str (yOf v ds.length x)]=some (.ok (.bl true))):ex G tail [.im d0,.im d1,.mu (.lst ds),.im (.int v),.im d4,.im (.str x)]=some (.rt (.bl true)):=by
 have fin:ex G (.ret false (.call "_law_refused" (.cons (.var 5) .nil))) [.im d0,.im d1,.mu (.lst ds),.im (.int v),.im d4,.im (.str (yOf v ds.length x))]=some (.rt (.bl true)):=ex_ret (by
  rw [ev_call]
  show okOf (G.fn "_law_refused" [.str (yOf v ds.length x)])=_
  rw [hr]; rfl)
 have c:∀ (k:Int) (z:Str) (q:Bool),(v == k)=q→ev G (.bin .eq (.var 3) (.lit (.int k))) (view [.im d0,.im d1,.mu (.lst ds),.im (.int v),.im d4,.im (.str z)])=some (.bl q):=fun k z q h=>by rw [← h]; rfl
 have t:∀ k:Int,v=k→(v == k)=true:=fun k h=>by rw [h]; exact beq_self_eq_true k
 have fl:∀ k:Int,v≠k→(v == k)=false:=fun k h=>beq_eq_false_iff_ne.mpr h
 have l1:sCm.length=1:=by decide +kernel
 have l2:sSep.length=2:=by decide +kernel
 by_cases h1:v=28
 ·refine ex_nx (ex_t (c 28 x true (t 28 h1)) (ex_set (d:=.str (yOf v ds.length x)) ?_)) (ex_nx (ex_f (c 29 _ false (fl 29 (by omega))) ex_nop) (ex_nx (ex_f (c 30 _ false (fl 30 (by omega))) ex_nop) fin))
  unfold yOf
  rw [if_pos h1]
  exact ev_addS (x:=x) (y:=sCm) rfl rfl (by omega)
 refine ex_nx (ex_f (c 28 x false (fl 28 h1)) ex_nop) ?_
 by_cases h2:v=29
 ·refine ex_nx (ex_t (c 29 x true (t 29 h2)) (ex_set (d:=.str (yOf v ds.length x)) ?_)) (ex_nx (ex_f (c 30 _ false (fl 30 (by omega))) ex_nop) fin)
  unfold yOf
  rw [if_neg h1,if_pos h2]
  exact ev_addS (x:=x) (y:=sSep) rfl rfl (by omega)
 refine ex_nx (ex_f (c 29 x false (fl 29 h2)) ex_nop) ?_
 by_cases h3:v=30
 ·refine ex_nx (ex_t (c 30 x true (t 30 h3)) (ex_set (d:=.str (yOf v ds.length x)) ?_)) fin
  unfold yOf
  rw [if_neg h1,if_neg h2,if_pos h3]
  show (if (1:Int)<(ds.length:Nat) then fRepl sSep sCm (.str x) else some (.str sBl))=_
  by_cases h:(1:Int)<(ds.length:Nat)
  ·rw [if_pos h,if_pos h]
   exact if_pos ⟨hx,by omega⟩
  ·rw [if_neg h,if_neg h]
 have e:yOf v ds.length x=x:=by
  unfold yOf
  rw [if_neg h1,if_neg h2,if_neg h3]
 rw [e] at fin
 exact ex_nx (ex_f (c 30 x false (fl 30 h3)) ex_nop) fin
theorem sum_le {m:Nat}:∀ {ps:List Str},(∀ p ∈ ps,p.length≤m)→(ps.map (·.length)).sum≤m*ps.length
 | [],_=>Nat.zero_le _
 | p::r,h=>by
  have h1:=h p List.mem_cons_self
  have h2:=sum_le fun z hz=>h z (List.mem_cons_of_mem p hz)
  rw [List.map_cons,List.sum_cons,List.length_cons,Nat.mul_succ]
  omega
theorem join_len {m:Nat} {y:Str}:∀ {ps:List Str},(∀ p ∈ ps,p.length≤m)→(Str.join y ps).length≤(m+y.length)*ps.length
 | [],_=>Nat.zero_le _
 | [p],h=>by
  have:=h p List.mem_cons_self
  rw [PyProof.Rows.join_one]
  show p.length≤(m+y.length)*1
  omega
 | p::q::r,h=>by
  have h1:=h p List.mem_cons_self
  have h2:=join_len (y:=y) (ps:=q::r) fun z hz=>h z (List.mem_cons_of_mem p hz)
  rw [PyProof.Rows.join_cons_cons,len_app,len_app,List.length_cons,Nat.mul_succ]
  omega
theorem join_evP {ρ:List Sl} {e:IE} {ps:List Str} (h:∀ p ∈ ps,p.length≤60) (hl:ps.length≤30) (he:ev G e ρ=some (.lst (ps.map D.str))):ev G (.meth (.lit (.str ", ")) "join" (.cons e .nil)) ρ=some (.str (Str.join sSep ps)):=by
 rw [ev_meth,ev_lit,Option.bind_some]
 show (argsOf (ev G (.cons e .nil) ρ)).bind _=_
 rw [ev_cons,he,Option.bind_some,ev_nil,Option.bind_some]
 show (strsD (ps.map fun p=>D.str p)).bind _=_
 rw [strs_map (g:=fun p=>p),Option.bind_some,List.map_id',if_pos]
 ·rw [show Txt.join sSep ps=Str.join sSep ps from StrLaws.glued_eq_join sSep ps]
 ·have:=sum_le h
  have e:sSep.length=2:=by decide +kernel
  have hb:big=1000000:=rfl
  rw [e]
  omega
theorem rest_ok {d0 d1 d4:D} {v:Int} {P:List Str} (hp:∀ p ∈ P,p.length≤60) (ha:∀ p ∈ P,Asc p) (hl:P.length≤30) (h0:G.fn "read" [.str ""]=some (.ok (.lst []))) (h00:G.fn "_law_same_folds" [.lst [],.lst []]=some (.ok (.bl true)))
  (hr:¬ (v<28∧(Str.join sSep P).cps.toList=[])→G.fn "_law_refused" [.str (yOf v P.length (Str.join sSep P))]=some (.ok (.bl true))):ex G i_rest [.im d0,.im d1,.mu (.lst (P.map .str)),.im (.int v),.im d4,.un]=some (.rt (.bl true)):=by
 have e:sSep.length=2:=by decide +kernel
 have jl:=join_len (y:=sSep) hp
 have ja:=asc_join asc_sep ha
 have q:∀ b,(decide (v<28)&&(Str.join sSep P == ("":Str)))=b→ev G (.and (.bin .lt (.var 3) (.lit (.int 28))) (.bin .eq (.var 5) (.lit (.str "")))) [.im d0,.im d1,.im (.lst (P.map .str)),.im (.int v),.im d4,.im (.str (Str.join sSep P))]=some (.bl b):=fun b h=>by
  rw [← h]
  exact ev_andB rfl fun _=>eq_str (asc_ok ja) (by decide +kernel)
 refine ex_nx (ρ':=[.im d0,.im d1,.mu (.lst (P.map .str)),.im (.int v),.im d4,.im (.str (Str.join sSep P))]) ?_ ?_
 ·show (evs G _ _).map _=_
  rw [evs_view rfl (join_evP (ps:=P) hp hl rfl) rfl]; rfl
 by_cases hq:v<28∧(Str.join sSep P).cps.toList=[]
 ·have z:Str.join sSep P = "":=T15.str_ext hq.2
  refine ex_st (ex_t (q true ?_) (ex_ret ?_)) fun _ z=>nomatch z
  ·rw [z,decide_eq_true hq.1]; rfl
  ·have e1:∀ ρ:List Sl,slot ρ 5=some (.str "")→ev G (.call "read" (.cons (.var 5) .nil)) ρ=some (.lst []):=fun ρ h=>by
    rw [ev_call,ev_cons,ev_var,h]
    show okOf (G.fn "read" [.str ""])=_
    rw [h0]; rfl
   rw [z,ev_call,ev_cons,e1 _ rfl]
   show okOf (G.fn "_law_same_folds" [.lst [],.lst []])=_
   rw [h00]; rfl
 ·refine ex_nx (ex_f (q false ?_) ex_nop) (tail_ok (by rw [e] at jl; omega) (by rw [List.length_map]; exact hr hq))
  by_cases hv:v<28
  ·rw [ne_bool fun z=>hq ⟨hv,z⟩,Bool.and_false]
  ·rw [decide_eq_false hv]; rfl
theorem joinL_snoc {y q z:List Nat}:∀ {ps:List (List Nat)},T15.joinL y (ps++[q])++z=T15.joinL y (ps++[q++z])
 | []=>rfl
 | [p]=>by
  show p++(y++q)++z=p++(y++(q++z))
  simp only [List.append_assoc]
 | p::p2::r=>by
  show p++(y++T15.joinL y ((p2::r)++[q]))++z=p++(y++T15.joinL y ((p2::r)++[q++z]))
  rw [← joinL_snoc]
  simp only [List.append_assoc]
theorem joinL_blank {y:List Nat}:∀ {ps:List (List Nat)},ps≠[]→T15.joinL y ps++y=T15.joinL y (ps++[[]])
 | [],h=>absurd rfl h
 | [p],_=>by
  show p++y=p++(y++[])
  rw [List.append_nil]
 | p::p2::r,_=>by
  show p++(y++T15.joinL y (p2::r))++y=p++(y++T15.joinL y ((p2::r)++[[]]))
  rw [← joinL_blank (List.cons_ne_nil _ _)]
  simp only [List.append_assoc]
theorem join_snoc {y q z:Str} {ps:List Str}:Str.join y (ps++[q])++z=Str.join y (ps++[q++z]):=T15.str_ext (by
 rw [app_cps,T15.join_list,T15.join_list,List.map_append,List.map_append]
 show T15.joinL _ (_++[q.cps.toList])++_=T15.joinL _ (_++[(q++z).cps.toList])
 rw [app_cps]
 exact joinL_snoc)
theorem join_blank {y:Str} {ps:List Str} (h:ps≠[]):Str.join y ps++y=Str.join y (ps++[("":Str)]):=T15.str_ext (by
 rw [app_cps,T15.join_list,T15.join_list,List.map_append]
 exact joinL_blank (by simpa using h))
theorem cnt_wr {f:Fold}:(wr f).cps.toList.count 32=2:=by
 unfold wr
 simp only [app_cps,bl_cps,List.count_append,(w1_side f.sd).c,(w1_way f.over).c,List.count_eq_zero.mpr (num_no (k:=f.k)).1]
 rfl
theorem hd_side (sd:Side):∃ c r,sd.str.cps.toList=c::r∧c≠32:=by cases sd<;>exact ⟨_,_,rfl,by decide +kernel⟩
theorem hd_wr {f:Fold} {q:List Nat}:((wr f).cps.toList++q)[0]?≠some 32:=by
 obtain ⟨c,r,e,h⟩:=hd_side f.sd
 unfold wr
 simp only [app_cps,e]
 intro z
 exact h (Option.some.inj z)
theorem comma_row:∀ {F:List Fold},F≠[]→(T15.joinL [44] (F.map fun f=>(wr f).cps.toList)).count 32=2*F.length∧Ok2 44 32 (T15.joinL [44] (F.map fun f=>(wr f).cps.toList))∧(T15.joinL [44] (F.map fun f=>(wr f).cps.toList))[0]?≠some 32
 | [],h=>absurd rfl h
 | [f],_=>by
  have:=hd_wr (f:=f) (q:=[])
  rw [List.append_nil] at this
  exact ⟨cnt_wr,ok2_no44 wr_no,this⟩
 | f::g::r,_=>by
  obtain ⟨h1,h2,h3⟩:=comma_row (F:=g::r) (List.cons_ne_nil _ _)
  have e:T15.joinL [44] ((f::g::r).map fun f=>(wr f).cps.toList)=(wr f).cps.toList++44::T15.joinL [44] ((g::r).map fun f=>(wr f).cps.toList):=rfl
  rw [e]
  refine ⟨?_,ok2_glue wr_no h2 h3,hd_wr⟩
  rw [List.count_append,cnt_wr,List.count_cons_of_ne (by decide),h1,List.length_cons (a:=f)]
  omega
theorem row_ok {ns:List Int}:∃ F:List Fold,(∀ f ∈ F,Ok9 f)∧F.length≤30∧runF G 6 i_row_by [.frz (ns.map .int),.int 3,.int 30]=some (.ok (.lst (F.map Fold.d))):=by
 have hc:(cut ns (some ((3:Nat):Int)) (some ((33:Nat):Int))).length≤33-3:=cut_len
 obtain ⟨ρ',e,F,s4,s5,rfl,hF,hl⟩:=forGo_lst (enc:=D.int) (bind:=bindT [4] false) (body:=ex G b_row) (fun k ρ=>∃ F s4 s5,ρ=[.im (.frz (ns.map .int)),.im (.int 3),.im (.int 30),.mu (.lst (F.map Fold.d)),s4,s5]∧(∀ f ∈ F,Ok9 f)∧F.length=k)
  (L:=cut ns (some ((3:Nat):Int)) (some ((33:Nat):Int))) (ρ:=[.im (.frz (ns.map .int)),.im (.int 3),.im (.int 30),.mu (.lst []),.un,.un]) ⟨[],.un,.un,rfl,fun _ z=>(nomatch z),rfl⟩ (by
   rintro k z hk ρ ⟨F,s4,s5,rfl,hF,hl⟩
   have hk:=(List.getElem?_eq_some_iff.mp hk).1
   obtain ⟨f,s5',h9,e⟩:=row_step (G:=G) (z:=z) (A:=[]) (F:=F) (s0:=.im (.frz (ns.map .int))) (s1:=.im (.int 3)) (s2:=.im (.int 30)) (s5:=s5) (by omega)
   refine ⟨[.im (.frz (ns.map .int)),.im (.int 3),.im (.int 30),.mu (.lst (F.map Fold.d)),.im (.int z),s5],rfl,_,e,F++[f],_,_,rfl,fun g hg=>?_,by simp [hl]⟩
   rcases List.mem_append.mp hg with hg|hg
   ·exact hF g hg
   ·rw [List.mem_singleton.mp hg]; exact h9)
 refine ⟨F,hF,by omega,runF_rt (ρ:=[.im (.frz (ns.map .int)),.im (.int 3),.im (.int 30),.un,.un,.un]) rfl (ex_nx (ex_setm (ds:=[]) rfl) (ex_nx ((ex_loop (d:=.lst (cut (ns.map D.int) (some ((3:Nat):Int)) (some ((33:Nat):Int)))) rfl (by rw [cut_map]; rfl)).trans e) (ex_retm rfl)))⟩
theorem wr60 {f:Fold} (h:Ok9 f):(wr f).length≤60:=Nat.le_trans (wr_len h) (by decide)
theorem re_end {F:List Fold} (hF:∀ f ∈ F,Ok9 f) (hl:F.length≤30) (hn:F≠[]) {v:Int} (h28:28≤v) (h30:v≤30):∃ A p B,RE (yOf v F.length (txt F)) A p B:=by
 have l1:sCm.length=1:=by decide +kernel
 have l2:sSep.length=2:=by decide +kernel
 have ac:Asc sCm:=by unfold Asc; decide +kernel
 have tl:=txt_len hF
 by_cases h1:v=28
 ·have e:yOf v F.length (txt F)=txt F++sCm:=if_pos h1
  rw [e]
  rcases List.eq_nil_or_concat F with z|⟨A,g,rfl⟩
  ·exact absurd z hn
  ·rw [List.concat_eq_append] at hF hl tl ⊢
   have g9:=hF g (by simp)
   have b:Frm2 (wr g++sCm):=tx_bad g9 _ (List.mem_of_getElem? (i:=21) rfl)
   refine ⟨A,wr g++sCm,[],fun f hf=>hF f (by simp [hf]),b.1,?_,?_,?_,asc_app asc_txt ac,by rw [len_app]; omega⟩
   ·show Str.join sSep ((A++[g]).map wr)++sCm=_
    rw [List.map_append]
    exact join_snoc
   ·intro q hq
    rcases List.mem_append.mp hq with hq|hq
    ·obtain ⟨f,_,rfl⟩:=List.mem_map.mp hq
     exact ok2_no44 wr_no
    ·rw [List.mem_singleton.mp hq]; exact b.2.1
   ·rw [app_cps]
    intro z
    exact absurd (List.append_eq_nil_iff.mp z).2 (by decide +kernel)
 by_cases h2:v=29
 ·have e:yOf v F.length (txt F)=txt F++sSep:=by
   unfold yOf
   rw [if_neg h1,if_pos h2]
  rw [e]
  refine ⟨F,"",[],hF,⟨.inl (by decide +kernel),fun c hc=>(nomatch (show c ∈ ([]:List Nat) from hc)),by decide +kernel⟩,?_,?_,?_,asc_app asc_txt asc_sep,by rw [len_app]; omega⟩
  ·exact join_blank (ps:=F.map wr) (by simpa using hn)
  ·intro q hq
   rcases List.mem_append.mp hq with hq|hq
   ·obtain ⟨f,_,rfl⟩:=List.mem_map.mp hq
    exact ok2_no44 wr_no
   ·rw [List.mem_singleton.mp hq]
    exact ok2_no44 (by decide +kernel)
  ·rw [app_cps]
   intro z
   exact absurd (List.append_eq_nil_iff.mp z).2 (by decide +kernel)
 have h3:v=30:=by omega
 by_cases h:(1:Int)<(F.length:Nat)
 ·have e:yOf v F.length (txt F)=Str.join sCm (F.map wr):=by
   unfold yOf
   rw [if_neg h1,if_neg h2,if_pos h3,if_pos h]
   exact replace2 (by decide +kernel:sSep.cps.toList=[44,32]) (by decide) (by simpa using hn) (fun p hp=>by
    obtain ⟨f,_,rfl⟩:=List.mem_map.mp hp
    exact ok2_no44 wr_no) (by rw [List.length_map]; omega)
  rw [e]
  obtain ⟨c1,c2,c3⟩:=comma_row hn
  have ec:(Str.join sCm (F.map wr)).cps.toList=T15.joinL [44] (F.map fun f=>(wr f).cps.toList):=by
   rw [T15.join_list,List.map_map,show sCm.cps.toList=[44] by decide +kernel]; rfl
  have ja:Asc (Str.join sCm (F.map wr)):=asc_join ac fun p hp=>by
   obtain ⟨f,_,rfl⟩:=List.mem_map.mp hp
   exact asc_wr f
  have jl:=join_len (m:=30) (y:=sCm) (ps:=F.map wr) fun p hp=>by
   obtain ⟨f,hf,rfl⟩:=List.mem_map.mp hp
   exact wr_len (hF f hf)
  rw [l1,List.length_map] at jl
  refine ⟨[],Str.join sCm (F.map wr),[],fun _ z=>(nomatch z),⟨.inl ?_,ja,by omega⟩,(PyProof.Rows.join_one _ _).symm,?_,?_,ja,by omega⟩
  ·rw [ec,c1]; omega
  ·intro q hq
   have hq:q ∈ [Str.join sCm (F.map wr)]:=hq
   rw [List.mem_singleton.mp hq,ec]; exact c2
  ·intro z
   rw [ec] at z
   rw [z] at c1
   have c1:0=2*F.length:=c1
   omega
 ·have e:yOf v F.length (txt F)=sBl:=by
   unfold yOf
   rw [if_neg h1,if_neg h2,if_pos h3,if_neg h]
  rw [e]
  refine ⟨[],sBl,[],fun _ z=>(nomatch z),⟨.inl (by decide +kernel),asc_bl,by decide +kernel⟩,(PyProof.Rows.join_one _ _).symm,?_,by decide +kernel,asc_bl,by decide +kernel⟩
  intro q hq
  have hq:q ∈ [sBl]:=hq
  rw [List.mem_singleton.mp hq]
  exact ok2_no44 (by decide +kernel)
theorem law_ok {ns:List Int} (hce:∀ k:Nat,G.fn "_law_cell_at" [.frz (ns.map .int),.int k]=some (.ok (.int (at0 ns k))))
  (hrow:∃ F:List Fold,(∀ f ∈ F,Ok9 f)∧F.length≤30∧G.fn "_law_row_by" [.frz (ns.map .int),.int 3,.int 30]=some (.ok (.lst (F.map Fold.d))))
  (hwr:∀ f,Ok9 f→G.fn "_law_written" [f.d]=some (.ok (.str (wr f))))
  (hre:∀ F:List Fold,(∀ f ∈ F,Ok9 f)→F.length≤30→G.fn "read" [.str (txt F)]=some (.ok (.lst (F.map Fold.d))))
  (hsf:∀ F:List Fold,F.length≤1000→G.fn "_law_same_folds" [.lst (F.map Fold.d),.lst (F.map Fold.d)]=some (.ok (.bl true)))
  (hsp:∀ (f:Fold) (v:Nat) (p:Str),Ok9 f→(tx f)[v]?=some p→G.fn "_law_spoilt" [f.d,.int v]=some (.ok (.str p)))
  (hrf:∀ (x:Str) (A:List Fold) (p:Str) (B:List Str),RE x A p B→G.fn "_law_refused" [.str x]=some (.ok (.bl true))) :
  runF G 6 i_law [.frz (ns.map .int)]=some (.ok (.bl true)):=by
 obtain ⟨F,hF,hl,er⟩:=hrow
 have l2:sSep.length=2:=by decide +kernel
 have ecell:∀ (k:Nat) (ρ:List Sl),slot ρ 0=some (.frz (ns.map .int))→ev G (.call "_law_cell_at" (.cons (.var 0) (.cons (.lit (.int k)) .nil))) ρ=some (.int (at0 ns k)):=fun k ρ h=>by
  rw [ev_call,ev_cons,ev_var,h]
  show okOf (G.fn "_law_cell_at" [.frz (ns.map .int),.int k])=_
  rw [hce k]; rfl
 have ec0:∀ ρ:List Sl,slot ρ 0=some (.frz (ns.map .int))→ev G (.call "_law_cell_at" (.cons (.var 0) (.cons (.lit (.int 0)) .nil))) ρ=some (.int (at0 ns 0)):=fun ρ h=>ecell 0 ρ h
 have ec1:∀ ρ:List Sl,slot ρ 0=some (.frz (ns.map .int))→ev G (.call "_law_cell_at" (.cons (.var 0) (.cons (.lit (.int 1)) .nil))) ρ=some (.int (at0 ns 1)):=fun ρ h=>ecell 1 ρ h
 have hv0:0≤at0 ns 0 / 2 % 31:=by omega
 have hv1:at0 ns 0 / 2 % 31<31:=by omega
 refine runF_rt (ρ:=[.im (.frz (ns.map .int)),.un,.un,.un,.un,.un]) rfl (ex_nx (ex_set (d:=.lst (F.map Fold.d)) ?_) (ex_nx (ex_setm (ds:=(F.map wr).map .str) ?_) (ex_nx (ex_set (d:=.int (at0 ns 0 / 2 % 31)) ?_) ?_)))
 ·rw [ev_call]
  show okOf (G.fn "_law_row_by" [.frz (ns.map .int),.int 3,.int 30])=_
  rw [er]; rfl
 ·rw [List.map_map]
  refine ev_compT (L:=F) Fold.d (fun f=>D.str (wr f)) (s:=.lst (F.map Fold.d)) rfl rfl fun f hf=>⟨[.un,.im f.d],rfl,rfl,?_⟩
  rw [ev_call]
  show okOf (G.fn "_law_written" [f.d])=_
  rw [hwr f (hF f hf)]; rfl
 ·rw [ev_bin,ev_bin,ec0]
  ·show (op2 .fdiv (.int (at0 ns 0)) (.int 2)).bind _=_
   rw [o_div (by decide) (by decide)]
   show op2 .mod (.int (at0 ns 0 / 2)) (.int 31)=_
   rw [o_mod (by decide)]
  ·rfl
 generalize hv:at0 ns 0 / 2 % 31=v at hv0 hv1
 have hP:∀ p ∈ F.map wr,p.length≤60:=fun p hp=>by
  obtain ⟨f,hf,rfl⟩:=List.mem_map.mp hp
  exact wr60 (hF f hf)
 have hA:∀ p ∈ F.map wr,Asc p:=fun p hp=>by
  obtain ⟨f,hf,rfl⟩:=List.mem_map.mp hp
  exact asc_wr f
 have q:∀ b,((at0 ns 0 % 2 == 0) || F.isEmpty)=b→ev G (.or (.bin .eq (.bin .mod (.call "_law_cell_at" (.cons (.var 0) (.cons (.lit (.int 0)) .nil))) (.lit (.int 2))) (.lit (.int 0))) (.bin .eq (.var 1) (.lst .nil))) [.im (.frz (ns.map .int)),.im (.lst (F.map Fold.d)),.im (.lst ((F.map wr).map .str)),.im (.int v),.un,.un]=some (.bl b):=fun b h=>by
  rw [← h]
  refine ev_orB ?_ fun _=>?_
  ·rw [ev_bin,ev_bin,ec0]
   ·show (op2 .mod (.int (at0 ns 0)) (.int 2)).bind _=_
    rw [o_mod (by decide)]; rfl
   ·rfl
  ·show oEq (.lst (F.map Fold.d)) (.lst [])=_
   unfold oEq
   rw [flat_folds]
   show some (D.bl (deq (.lst (F.map Fold.d)) (.lst [])))=_
   rw [deq_lst]
   cases F with
   | nil=>rw [List.map_nil,deqs]; rfl
   | cons f r =>
    rw [List.map_cons,deqs]
    ·rfl
    ·intros; contradiction
    ·intros; contradiction
 show ex G _ [.im (.frz (ns.map .int)),.im (.lst (F.map Fold.d)),.mu (.lst ((F.map wr).map .str)),.im (.int v),.un,.un]=_
 by_cases hq:((at0 ns 0 % 2 == 0) || F.isEmpty)=true
 ·refine ex_st (ex_t (q true hq) ?_) fun _ z=>nomatch z
  show (evs G _ _).map Out.rt=_
  have e1:∀ ρ:List Sl,slot ρ 2=some (.lst ((F.map wr).map .str))→ev G (.call "read" (.cons (.meth (.lit (.str ", ")) "join" (.cons (.var 2) .nil)) .nil)) ρ=some (.lst (F.map Fold.d)):=fun ρ h=>by
   rw [ev_call,ev_cons,join_evP (G:=G) (e:=.var 2) (ρ:=ρ) hP (by rw [List.length_map]; exact hl) h]
   show okOf (G.fn "read" [.str (txt F)])=_
   rw [hre F hF hl]; rfl
  rw [evs_view (d:=.bl true) rfl ?_ rfl]; · rfl
  show ev G _ [.im (.frz (ns.map .int)),.im (.lst (F.map Fold.d)),.im (.lst ((F.map wr).map .str)),.im (.int v),.un,.un]=_
  rw [ev_call,ev_cons,e1]
  ·show okOf (G.fn "_law_same_folds" [.lst (F.map Fold.d),.lst (F.map Fold.d)])=_
   rw [hsf F (by omega)]; rfl
  ·rfl
 have hq:=Bool.eq_false_iff.mpr hq
 refine ex_nx (ex_f (q false hq) ex_nop) ?_
 have hn:F≠[]:=by
  rw [Bool.or_eq_false_iff] at hq
  intro z
  rw [z] at hq
  exact nomatch hq.2
 have hpos:0<F.length:=List.length_pos_iff.mpr hn
 have r0:=Int.emod_nonneg (at0 ns 1) (show (F.length:Int)≠0 by omega)
 have r1:=Int.emod_lt_of_pos (at0 ns 1) (show 0<(F.length:Int) by omega)
 obtain ⟨i,hi⟩:∃ i:Nat,at0 ns 1 % (F.length:Int)=(i:Int):=⟨_,(Int.toNat_of_nonneg r0).symm⟩
 have hil:i<F.length:=by omega
 have hfi:F[i]?=some F[i]:=List.getElem?_eq_getElem hil
 have h9:Ok9 F[i]:=hF _ (List.getElem_mem hil)
 refine ex_nx (ex_set (d:=.int i) ?_) ?_
 ·rw [ev_bin,ec1]
  ·show op2 .mod (.int (at0 ns 1)) (.int (((F.map wr).map D.str).length:Nat))=_
   rw [List.length_map,List.length_map,o_mod (by omega),hi]
  ·rfl
 show ex G _ [.im (.frz (ns.map .int)),.im (.lst (F.map Fold.d)),.mu (.lst ((F.map wr).map .str)),.im (.int v),.im (.int i),.un]=_
 have h0:G.fn "read" [.str ""]=some (.ok (.lst [])):=hre [] (fun _ z=>(nomatch z)) (by decide)
 have h00:=hsf [] (by decide)
 have put:∀ (p:Str) (P:List Str),(F.map wr).set i p=P→ev G (.ite (.bin .lt (.var 3) (.lit (.int 28))) (.call "_law_spoilt" (.cons (.ix (.var 1) (.var 4)) (.cons (.var 3) .nil))) (.ixm 2 (.var 4))) [.im (.frz (ns.map .int)),.im (.lst (F.map Fold.d)),.mu (.lst ((F.map wr).map .str)),.im (.int v),.im (.int i),.un]=some (.str p)→ex G (.put 2 (.var 4) (.ite (.bin .lt (.var 3) (.lit (.int 28))) (.call "_law_spoilt" (.cons (.ix (.var 1) (.var 4)) (.cons (.var 3) .nil))) (.ixm 2 (.var 4)))) [.im (.frz (ns.map .int)),.im (.lst (F.map Fold.d)),.mu (.lst ((F.map wr).map .str)),.im (.int v),.im (.int i),.un]=some (.nx [.im (.frz (ns.map .int)),.im (.lst (F.map Fold.d)),.mu (.lst (P.map .str)),.im (.int v),.im (.int i),.un]):=fun p P hPp he=>by
  show (evs G _ _).bind _=_
  rw [evs_of he]
  show (putO (.lst ((F.map wr).map .str)) (i:Int) (.str p)).map _=_
  show ((ixN ((F.map wr).map D.str).length (i:Int)).map fun j=>D.lst (((F.map wr).map D.str).set j (.str p))).map _=_
  have:ixN ((F.map wr).map D.str).length (i:Int)=some i:=by
   unfold ixN
   rw [if_pos (by omega),if_pos (by rw [List.length_map,List.length_map]; omega)]; rfl
  rw [this,← hPp,List.map_set]; rfl
 by_cases h28:v<28
 ·obtain ⟨vn,rfl⟩:∃ vn:Nat,v=(vn:Int):=⟨v.toNat,(Int.toNat_of_nonneg hv0).symm⟩
  have hvl:vn<(tx F[i]).length:=by show vn<28; omega
  have hp:(tx F[i])[vn]?=some (tx F[i])[vn]:=List.getElem?_eq_getElem hvl
  generalize (tx F[i])[vn]=p at hp
  have b:=tx_bad h9 p (List.mem_of_getElem? hp)
  have hset:(F.map wr).set i p=(F.take i).map wr++p::(F.drop (i+1)).map wr:=by
   rw [List.set_eq_take_append_cons_drop,if_pos (by rw [List.length_map]; exact hil),List.map_take,List.map_drop]
  have mem:∀ q ∈ (F.take i).map wr++p::(F.drop (i+1)).map wr,q=p∨∃ f ∈ F,q=wr f:=fun q hq=>by
   rcases List.mem_append.mp hq with hq|hq
   ·obtain ⟨f,hf,rfl⟩:=List.mem_map.mp hq
    exact .inr ⟨f,List.mem_of_mem_take hf,rfl⟩
   ·rcases List.mem_cons.mp hq with rfl|hq
    ·exact .inl rfl
    ·obtain ⟨f,hf,rfl⟩:=List.mem_map.mp hq
     exact .inr ⟨f,List.mem_of_mem_drop hf,rfl⟩
  have m60:∀ q ∈ (F.take i).map wr++p::(F.drop (i+1)).map wr,q.length≤60:=fun q hq=>by
   rcases mem q hq with rfl|⟨f,hf,rfl⟩
   ·exact b.2.2
   ·exact wr60 (hF f hf)
  have mA:∀ q ∈ (F.take i).map wr++p::(F.drop (i+1)).map wr,Asc q:=fun q hq=>by
   rcases mem q hq with rfl|⟨f,hf,rfl⟩
   ·exact b.1.2.1
   ·exact asc_wr f
  have pl:((F.take i).map wr++p::(F.drop (i+1)).map wr).length=F.length:=by rw [← hset,List.length_set,List.length_map]
  refine ex_nx (put p _ hset ?_) (rest_ok m60 mA (by rw [pl]; exact hl) h0 h00 fun hne=>?_)
  ·rw [ev_ite]
   show (match D.bl (decide ((vn:Int)<28)) with | .bl true=>_ | .bl false=>_|_=>none)=_
   rw [decide_eq_true h28]
   have ei:ev G (.ix (.var 1) (.var 4)) [.im (.frz (ns.map .int)),.im (.lst (F.map Fold.d)),.mu (.lst ((F.map wr).map .str)),.im (.int vn),.im (.int i),.un]=some F[i].d:=at_nat (by rw [List.getElem?_map,hfi]; rfl)
   show ev G (.call "_law_spoilt" (.cons (.ix (.var 1) (.var 4)) (.cons (.var 3) .nil))) _=_
   rw [ev_call,ev_cons,ei]
   show okOf (G.fn "_law_spoilt" [F[i].d,.int vn])=_
   rw [hsp _ vn p h9 hp]; rfl
  ·have e:yOf vn ((F.take i).map wr++p::(F.drop (i+1)).map wr).length (Str.join sSep ((F.take i).map wr++p::(F.drop (i+1)).map wr))=Str.join sSep ((F.take i).map wr++p::(F.drop (i+1)).map wr):=by
    unfold yOf
    rw [if_neg (by omega),if_neg (by omega),if_neg (by omega)]
   rw [e]
   have jl:=join_len (y:=sSep) m60
   rw [l2,pl] at jl
   exact hrf _ (F.take i) p ((F.drop (i+1)).map wr) ⟨fun f hf=>hF f (List.mem_of_mem_take hf),b.1,rfl,fun q hq=>by
    rcases mem q hq with rfl|⟨f,hf,rfl⟩
    ·exact b.2.1
    ·exact ok2_no44 wr_no,fun z=>hne ⟨h28,z⟩,asc_join asc_sep mA,by omega⟩
 ·have hgi:(F.map wr)[i]?=some (wr F[i]):=by rw [List.getElem?_map,hfi]; rfl
  refine ex_nx (put (wr F[i]) (F.map wr) ?_ ?_) (rest_ok hP hA (by rw [List.length_map]; exact hl) h0 h00 fun _=>?_)
  ·rw [show wr F[i]=(F.map wr)[i]'(by rw [List.length_map]; exact hil) from (List.getElem_map wr).symm]
   exact List.set_getElem_self _
  ·rw [ev_ite]
   show (match D.bl (decide (v<28)) with | .bl true=>_ | .bl false=>_|_=>none)=_
   rw [decide_eq_false h28]
   show atI ((F.map wr).map D.str) (i:Int)=_
   exact at_nat (by rw [List.getElem?_map,hgi]; rfl)
  ·obtain ⟨A,p,B,R⟩:=re_end hF hl hn (v:=v) (by omega) (by omega)
   rw [List.length_map]
   exact hrf _ A p B R
end
end K14
end Z
namespace Z
open PySem
structure CC where
 N:List Str
 sc:Scope
 fns:List Str
 cls:List Str
 csts:List Str
 mus:List Str
 /-- defs (class,name) that hand back a list of their own -/
 fresh:List Str
noncomputable def slotOf (c:CC) (x:Str):Option Nat:=match c.sc.names.lookup x with
 | some .local=>c.N.idxOf? x
 | some .cell=>c.N.idxOf? x
 | some .free=>c.N.idxOf? x
 | _=>none
noncomputable def isGlob (c:CC) (x:Str):Bool:=c.sc.names.lookup x == some .globalImplicit
noncomputable def muOf (c:CC) (x:Str):Option Nat:=if c.mus.contains x then slotOf c x else none
noncomputable def one? {α:Type}:List α→Option α
 | [a]=>some a
 | _=>none
noncomputable def nameP:Expr→Option (Str × Pos)
 | .Name x p=>some (x,p)
 | _=>none
noncomputable def attrP:Expr→Option (Expr × Str × Pos)
 | .Attribute o m p=>some (o,m,p)
 | _=>none
noncomputable def callP:Expr→Option (Expr × List Expr × List Keyword × Pos)
 | .Call f as kw p=>some (f,as,kw,p)
 | _=>none
noncomputable def slP:Expr→Option (Option Expr × Option Expr × Option Expr × Pos)
 | .Slice a b st p=>some (a,b,st,p)
 | _=>none
noncomputable def tupP:Expr→Option (List Expr × Nat × Pos)
 | .Tuple es k p=>some (es,k,p)
 | _=>none
noncomputable def cstP:Expr→Option (Const × Nat × Pos)
 | .Constant v k p=>some (v,k,p)
 | _=>none
noncomputable def muName (c:CC) (e:Expr):Option Nat:=(nameP e).bind fun x=>muOf c x.1
noncomputable def opOf:Operator→Option O2
 | .Add=>some .add
 | .Sub=>some .sub
 | .Mult=>some .mul
 | .FloorDiv=>some .fdiv
 | .Mod=>some .mod
 | .Pow=>some .pow
 | _=>none
noncomputable def cmpOf:CmpOp→O2
 | .Eq=>.eq
 | .NotEq=>.ne
 | .Lt=>.lt
 | .LtE=>.le
 | .Gt=>.gt
 | .GtE=>.ge
 | .Is=>.is
 | .IsNot=>.isnot
 | .In=>.isin
 | .NotIn=>.notin
noncomputable def bfOf (x:Str):Option BF:=
 if x = "all" then some .all else
 if x = "len" then some .len else if x = "int" then some .int else if x = "list" then some .list else if x = "tuple" then some .tuple else if x = "max" then some .max
 else if x = "min" then some .min else if x = "str" then some .str else if x = "any" then some .any else none
noncomputable def srcOf (x:Str):Option Src:=
 if x = "range" then some .rng else if x = "reversed" then some .rev else none
noncomputable def forOk (_:Bool) (_:Src):Bool:=true
noncomputable def tyNames:List Str:=["int","bool","str","list","tuple"]
noncomputable def nameT (c:CC):Expr→Option Nat
 | .Name x _=>match c.sc.names.lookup x with
  | some .local=>c.N.idxOf? x
  | some .cell=>c.N.idxOf? x
  | _=>none
 | _=>none
noncomputable def namesT (c:CC):List Expr→Option (List Nat)
 | []=>some []
 | e::r=>do some ((← nameT c e)::(← namesT c r))
noncomputable def targetN (c:CC):Expr→Option (List Nat × Bool)
 | .Name x p=>(nameT c (.Name x p)).map fun i=>([i],false)
 | .Tuple es _ _=>(namesT c es).map fun is=>(is,true)
 | _=>none
noncomputable def isGlobalKind:NameKind→Bool
 | .globalImplicit=>true
 | .globalExplicit=>true
 | _=>false
noncomputable def ownNames (sc:Scope):List Str:=(sc.names.filter fun x=>!isGlobalKind x.2).map (·.1)
noncomputable def noSuper:Expr→Bool
 | .Call _ _ _ _=>false
 | _=>true
noncomputable def compOk (c:CC) (sc:Scope):Bool:=
 sc.kind == .function&&sc.names.all (fun x=>x.2 != .cell)&&sc.names.all (fun x=>x.2 != .local || sc.names.lookup x.1 == some .local)&&sc.names.all (fun x=>x.2 != .free || sc.names.lookup x.1 == some .free)&&decide (ownNames sc).Nodup &&
 (ownNames sc).all (fun x=>!(x == ("__debug__":Str))&&!(x == ("__classdict__":Str)))&&!(sc.names.lookup ("__debug__":Str) == some NameKind.globalImplicit) &&
 sc.names.all (fun x=>x.2 != .free || (c.sc.names.lookup x.1 == some .cell || c.sc.names.lookup x.1 == some .free))
noncomputable def freeOf (c:CC) (sc:Scope):List (Str × NameKind)→Option (List (Nat × Nat))
 | []=>some []
 | x::r=>do some ((← (ownNames sc).idxOf? x.1,← slotOf c x.1)::(← freeOf c sc r))
noncomputable def own (c:CC) (x:Str):Bool:=c.fns.contains x || c.cls.contains x
noncomputable def rdName (c:CC) (x:Str):Option IE:=match slotOf c x with
 | some i=>some (.var i)
 | none=>if isGlob c x&&c.csts.contains x then some (.glo x) else none
noncomputable def rdConst:Const→Option IE
 | .int i=>some (.lit (.int i))
 | .bool b=>some (.lit (.bl b))
 | .str x=>some (.lit (.str x))
 | .none=>some (.lit .non)
 | _=>none
noncomputable def rdUn (a:Option IE):UnaryOp→Option IE
 | .USub=>a.map .neg
 | .Not=>a.map fun x=>.not (.tr x)
 | _=>none
noncomputable def boK:BoolOp→Bool
 | .And=>true
 | .Or=>false
noncomputable def dictNames:List Str:=["SPINE_LINES","WAYS"]
noncomputable def inNeg:CmpOp→Option Bool
 | .In=>some false
 | .NotIn=>some true
 | _=>none
noncomputable def inDk (c:CC) (o:CmpOp) (b:Expr):Option (Bool × Str):=(inNeg o).bind fun k=>(nameP b).bind fun q=>if isGlob c q.1&&dictNames.contains q.1 then some (k,q.1) else none
noncomputable def rdCmp (c:CC) (f:Expr→Option IE) (a:Option IE):List CmpOp→List Expr→Option IE
 | [o],[b]=>a.bind fun x=>match inDk c o b with
  | some q=>some (.inC q.1 q.2 x)
  | none=>(f b).map fun y=>.bin (cmpOf o) x y
 | [o,o'],[b,d]=>a.bind fun x=>(f b).bind fun y=>(f d).map fun z=>.chain (cmpOf o) (cmpOf o') x y z
 | _,_=>none
noncomputable def rdPart (f:Expr→Option IE):Option Expr→Option IE
 | none=>some (.lit .non)
 | some e=>f e
noncomputable def rdSl (m:Option Nat) (a:Option IE) (bl:Bool) (l:IE) (bh:Bool) (h:IE):Option IE:=match m with
 | some i=>some (.slm i bl l bh h)
 | none=>a.map fun x=>.sl x bl l bh h
noncomputable def rdIx (m:Option Nat) (a:Option IE) (k:IE):Option IE:=match m with
 | some i=>some (.ixm i k)
 | none=>a.map fun x=>.ix x k
noncomputable def rdSub (f:Expr→Option IE) (m:Option Nat) (a:Option IE) (i:Expr):Option IE:=match slP i with
 | some q=>if q.2.2.1.isSome then none else (rdPart f q.1).bind fun l=>(rdPart f q.2.1).bind fun h=>rdSl m a q.1.isSome l q.2.1.isSome h
 | none=>(f i).bind (rdIx m a)
noncomputable def ixDk (c:CC) (a:Expr):Option Str:=(nameP a).bind fun q=>if isGlob c q.1&&dictNames.contains q.1 then some q.1 else none
noncomputable def rdIxC (f:Expr→Option IE) (x:Str) (i:Expr):Option IE:=match slP i with
 | some _=>none
 | none=>(f i).map fun k=>.ixC x k
noncomputable def fsP:Expr→Option Expr
 | .FormattedValue v k none _=>if k=-1 then some v else none
 | .Constant (.str s) k p=>some (.Constant (.str s) k p)
 | _=>none
noncomputable def rdFs (f:Expr→Option IE):List Expr→Option IE
 | []=>some .nil
 | v::r=>(fsP v).bind fun e=>(f e).bind fun x=>(rdFs f r).map fun y=>.cons x y
noncomputable def rdIsi (f:Expr→Option IE) (c:CC):List Expr→Option IE
 | [a,y]=>(nameP y).bind fun y=>if isGlob c y.1&&tyNames.contains y.1&&!own c y.1 then (f a).map fun x=>.isi x y.1 else none
 | _=>none
noncomputable def muArg (c:CC) (args:List Expr):Option Nat:=(one? args).bind (muName c)
noncomputable def biCall (c:CC) (e:Expr):Option (Str × List Expr):=(callP e).bind fun q=>(nameP q.1).bind fun x=>if q.2.2.1.isEmpty&&isGlob c x.1&&!own c x.1 then some (x.1,q.2.1) else none
noncomputable def revArg (c:CC) (args:List Expr):Option Expr:=(one? args).bind fun e=>(biCall c e).bind fun q=>if q.1 == "reversed" then one? q.2 else none
noncomputable def rdMu (b:BF) (as:Option IE) (i:Nat):Option IE:=match b with
 | .len=>some (.lenm i)
 | _=>as.map fun x=>.bcall b x
noncomputable def rdList (b:BF) (as:Option IE) (w:Option (Option IE)):Option IE:=match b,w with
 | .list,some o=>o.map fun x=>.walk .rev x
 | _,_=>as.map fun x=>.bcall b x
noncomputable def rdBf (f:Expr→Option IE) (c:CC) (b:BF) (args:List Expr) (as:Option IE):Option IE:=match muArg c args with
 | some i=>rdMu b as i
 | none=>rdList b as ((revArg c args).map f)
noncomputable def rdCallN (f:Expr→Option IE) (c:CC) (x:Str) (args:List Expr) (as:Option IE):Option IE:=
 if isGlob c x then
  (if c.fns.contains x then as.map fun y=>.call x y
   else if c.cls.contains x then as.map fun y=>.mk x y
   else if x == "isinstance" then rdIsi f c args
   else (bfOf x).bind fun b=>rdBf f c b args as)
 else none
noncomputable def rdCall (f:Expr→Option IE) (c:CC) (g:Expr) (args:List Expr) (as:Option IE) (p:Pos):Option IE:=match g with
 | .Name x _=>rdCallN f c x args as
 | .Attribute o m ap=>if noSuper o&&decide (args.length<30)&&(ap.endLine == p.line) then (f o).bind fun x=>as.map fun y=>.meth x m y else none
 | _=>none
noncomputable def rdTest (f:Expr→Option IE):List Expr→Option IE
 | []=>some (.lit (.bl true))
 | [e]=>f e
 | _=>none
noncomputable def rdComp (c:CC) (sc:Scope) (g:Comprehension) (it:Option (Src × IE)) (ct:Expr→Option IE) (el:Option IE):Option IE:=
 (targetN { c with N:=ownNames sc,sc:=sc } g.target).bind fun tg=>it.bind fun k=>(rdTest ct g.ifs).bind fun te=>el.bind fun el=>(freeOf c sc (sc.names.filter fun x=>x.2 == .free)).bind fun fr =>
  if compOk c sc&&tg.1.all (fun i=>(fr.lookup i).isNone) then some (.comp (ownNames sc).length fr tg.1 tg.2 k.1 k.2 te el) else none
noncomputable def replP:Expr→Expr→Option (Expr × Int × Expr × Str × Str)
 | .Compare b [.Gt] [.Constant (.int i) _ _] _,.Call (.Attribute o m ap) [.Constant (.str y) _ _,.Constant (.str z) _ _] [] p=>if m == "replace" && noSuper o&&ap.endLine == p.line&&!(y == z) then some (b,i,o,y,z) else none
 | _,_=>none
noncomputable def few (es:List Expr):Bool:=decide (es.length≤100)
mutual
noncomputable def cE:Nat→CC→Expr→Option IE
 | 0,_,_=>none
 | n+1,c,e=>match e with
  | .Name x _=>rdName c x
  | .Constant v _ _=>rdConst v
  | .BinOp a o b _=>(opOf o).bind fun o=>(cE n c a).bind fun x=>(cE n c b).map fun y=>.bin o x y
  | .UnaryOp o a _=>rdUn (cE n c a) o
  | .BoolOp o vs _=>cB n c false (boK o) vs
  | .IfExp d a b _=>(match replP d a with
   | some q=>(cE n c q.1).bind fun x=>(cE n c q.2.2.1).bind fun y=>(cE n c b).map fun z=>.repl x q.2.1 y q.2.2.2.1 q.2.2.2.2 z
   | none=>(cT n c d).bind fun x=>(cE n c a).bind fun y=>(cE n c b).map fun z=>.ite x y z)
  | .Compare a os bs _=>rdCmp c (cE n c) (cE n c a) os bs
  | .Tuple es _ _=>if few es then (cA n c es).map .tup else none
  | .List es _=>if few es then (cA n c es).map .lst else none
  | .Subscript a i _=>(match ixDk c a with|some x=>rdIxC (cE n c) x i|none=>rdSub (cE n c) (muName c a) (cE n c a) i)
  | .JoinedStr vs _=>if decide (2≤vs.length) then (rdFs (cE n c) vs).map .fst else none
  | .Attribute a f _=>if noSuper a then (cE n c a).map fun x=>.fld x f else none
  | .ListComp elt gs sc _=>(one? gs).bind fun g=>if g.is_async=0 then rdComp c sc g (cI n c g.iter) (cT n { c with N:=ownNames sc,sc:=sc }) (cE n { c with N:=ownNames sc,sc:=sc } elt) else none
  | .Call f args kw p=>if kw.isEmpty then rdCall (cE n c) c f args (cA n c args) p else none
  | _=>none
/-- as a test -/
noncomputable def cT:Nat→CC→Expr→Option IE
 | 0,_,_=>none
 | n+1,c,e=>match e with
  | .BoolOp o vs _=>cB n c true (boK o) vs
  | .UnaryOp .Not a _=>(cT n c a).map .not
  | .Compare a os bs _=>rdCmp c (cE n c) (cE n c a) os bs
  | .IfExp _ _ _ _=>none
  | e=>(cE n c e).map .tr
/-- and (k),or -/
noncomputable def cB:Nat→CC→Bool→Bool→List Expr→Option IE
 | 0,_,_,_,_=>none
 | n+1,c,t,k,[]=>none
 | n+1,c,t,k,[a]=>if t then cT n c a else cE n c a
 | n+1,c,t,k,a::b::r=>(if t then cT n c a else cE n c a).bind fun x=>(cB n c t k (b::r)).map fun y=>if k then .and x y else .or x y
/-- an argument list -/
noncomputable def cA:Nat→CC→List Expr→Option IE
 | 0,_,_=>none
 | n+1,c,[]=>some .nil
 | n+1,c,e::es=>(cE n c e).bind fun x=>(cA n c es).map fun y=>.cons x y
/-- what a for walks -/
noncomputable def cI:Nat→CC→Expr→Option (Src × IE)
 | 0,_,_=>none
 | n+1,c,e=>match (biCall c e).bind fun q=>(srcOf q.1).map fun k=>(k,q.2) with
  | some q=>(match q.1 with
   | .rng=>(cA n c q.2).map fun y=>(.rng,.tup y)
   | k=>(one? q.2).bind fun a=>(cE n c a).map fun y=>(k,y))
  | none=>(cE n c e).map fun y=>(.seq,y)
end
noncomputable def isSl (i:Expr):Bool:=(slP i).isSome
noncomputable def freshF (c:CC):Expr→Bool
 | .Name x _=>(c.fns.contains x&&c.fresh.contains x) || (isGlob c x&&(x == "list" || x == "sorted")&&!own c x)
 | .Attribute _ m _=>(c.fresh.contains m&&!(m == "split"))
 | _=>false
noncomputable def freshE (c:CC):Expr→Bool
 | .List _ _=>true
 | .ListComp _ _ _ _=>true
 | .Subscript _ i _=>isSl i
 | .Call f _ _ _=>freshF c f
 | _=>false
noncomputable def cW (c:CC) (nm:Option Str) (e:Expr):Option Str:=(callP e).bind fun q=>(nameP q.1).bind fun f=>(one? q.2.1).bind fun a=>(nameP a).bind fun y=>if q.2.2.1.isEmpty&&nm == some y.1&&isGlob c f.1 then some f.1 else none
noncomputable def strC (e:Expr):Option Str:=(cstP e).bind fun v=>match v.1 with
 | .str x=>some x
 | _=>none
noncomputable def cH (c:CC) (nm:Option Str):Expr→Option HR
 | .Constant (.bool b) _ _=>some (.lit (.bl b))
 | .Compare e os bs _=>(cW c nm e).bind fun f=>(one? os).bind fun o=>(one? bs).bind fun b=>(strC b).bind fun x=>if o == .Eq then some (.weq f x) else none
 | e=>(cW c nm e).map .word
noncomputable def cN (c:CC):Option Str→Option (Option Nat)
 | none=>some none
 | some n=>if c.sc.names.lookup n == some .local&&!(n == ("__debug__":Str))&&!(n == ("__classdict__":Str)) then (c.N.idxOf? n).map some else none
noncomputable def retxE:Expr→Bool
 | .Tuple [_,_,.Call (.Name _ _) _ _ _] _ _=>true
 | .ListComp (.Call (.Name _ _) _ _ _) [⟨_,_,[],_⟩] sc _=>sc.names.all fun x=>x.2 != .free
 | _=>false
noncomputable def rdR (f:Expr→Option IE) (c:CC) (e:Expr):Option IS:=(f e).map fun x=>if retxE e then .retx (freshE c e) x else .ret (freshE c e) x
noncomputable def rdRet (f:Expr→Option IE) (c:CC):Option Expr→Option IS
 | none=>some .retn
 | some e=>match muName c e with
  | some i=>some (.retm i)
  | none=>rdR f c e
noncomputable def isDict0:Expr→Bool
 | .Dict [] [] _=>true
 | _=>false
noncomputable def rdAsgN (f:Expr→Option IE) (c:CC) (x:Str) (e:Expr) (i:Nat):Option IS:=
 if c.mus.contains x then (if isDict0 e then some (.setd i) else if freshE c e then (f e).map fun y=>.setm i y else none) else (f e).map fun y=>.set i y
noncomputable def rdTupA (f:Expr→Option IE) (c:CC) (ts:List Expr) (e:Expr):Option IS:=match tupP e with
 | some _=>none
 | none=>(namesT c ts).bind fun is=>(f e).map fun y=>.sett is y
noncomputable def rdAsg (f:Expr→Option IE) (c:CC) (e:Expr):Expr→Option IS
 | .Name x p=>(nameT c (.Name x p)).bind (rdAsgN f c x e)
 | .Tuple ts _ _=>rdTupA f c ts e
 | .Subscript a i _=>(muName c a).bind fun j=>(f i).bind fun k=>(f e).map fun y=>.put j k y
 | _=>none
noncomputable def appP (c:CC) (e:Expr):Option (Nat × Expr):=(callP e).bind fun q=>(attrP q.1).bind fun g=>(muName c g.1).bind fun j=>(one? q.2.1).bind fun a=>if q.2.2.1.isEmpty&&g.2.1 == "append" && g.2.2.endLine == q.2.2.2.line then some (j,a) else none
noncomputable def rdDrop (f:Expr→Option IE) (_:CC) (e:Expr):Option IS:=(callP e).bind fun _=>(f e).map .drop
noncomputable def rdEx (f:Expr→Option IE) (c:CC) (e:Expr):Option IS:=match appP c e with
 | some q=>(f q.2).map fun x=>.app q.1 x
 | none=>rdDrop f c e
noncomputable def rdRse (c:CC) (e:Option Expr) (h:Option Expr):Option IS:=e.bind fun e=>(callP e).bind fun q=>(nameP q.1).bind fun x=>(one? q.2.1).bind fun a=>(strC a).bind fun _ =>
 if h.isNone&&q.2.2.1.isEmpty&&isGlob c x.1&&c.cls.contains x.1 then some (.rse x.1) else none
noncomputable def exP:Stmt→Option (Expr × Pos)
 | .Expr e p=>some (e,p)
 | _=>none
noncomputable def retP:Stmt→Option (Option Expr × Pos)
 | .Return e p=>some (e,p)
 | _=>none
noncomputable def rdTry (f:Expr→Option IE) (c:CC) (b:List Stmt):List ExceptHandler→Option IS
 | [.ExceptHandler ty nm body _]=>(one? b).bind fun s=>(exP s).bind fun e=>(callP e.1).bind fun _=>ty.bind fun ty=>(nameP ty).bind fun x=>(one? body).bind fun r=>(retP r).bind fun r=>r.1.bind fun re =>
   if isGlob c x.1 then (cN c nm).bind fun i=>(cH c nm re).bind fun r=>(f e.1).map fun u=>.tryx u x.1 i r else none
 | _=>none
mutual
noncomputable def cS:Nat→CC→Stmt→Option IS
 | 0,_,_=>none
 | n+1,c,st=>match st with
  | .Pass _=>some .nop
  | .Return v _=>rdRet (cE n c) c v
  | .Assign ts e _=>(one? ts).bind (rdAsg (cE n c) c e)
  | .If t a b _=>(cT n c t).bind fun t=>(cSs n c a).bind fun a=>(cSs n c b).map fun b=>.iff t a b
  | .For tg iter body els _=>if els.isEmpty then (targetN c tg).bind fun g=>(cI n c iter).bind fun k=>if forOk g.2 k.1 then (cSs n c body).map fun b=>.loop g.1 g.2 k.1 k.2 b else none else none
  | .Expr e _=>rdEx (cE n c) c e
  | .Raise e h _=>rdRse c e h
  | .Try b hs els fin _=>if els.isEmpty&&fin.isEmpty then rdTry (cE n c) c b hs else none
  | _=>none
noncomputable def cSs:Nat→CC→List Stmt→Option IS
 | 0,_,_=>none
 | n+1,c,[]=>some .nop
 | n+1,c,[s]=>cS n c s
 | n+1,c,s::s2::r=>(cS n c s).bind fun a=>(cSs n c (s2::r)).map fun b=>.seq a b
end
theorem one_some {α:Type} {l:List α} {a:α} (h:one? l=some a):l=[a]:=by
 match l,h with
 | [_],h=>exact congrArg (fun x=>[x]) (Option.some.inj h)
theorem nameP_some {e:Expr} {x:Str × Pos} (h:nameP e=some x):e=.Name x.1 x.2:=by
 cases e<;>first|exact nomatch (show none=some x from h)|(cases (show some _=some x from h); rfl)
theorem attrP_some {e:Expr} {x:Expr × Str × Pos} (h:attrP e=some x):e=.Attribute x.1 x.2.1 x.2.2:=by
 cases e<;>first|exact nomatch (show none=some x from h)|(cases (show some _=some x from h); rfl)
theorem callP_some {e:Expr} {x:Expr × List Expr × List Keyword × Pos} (h:callP e=some x):e=.Call x.1 x.2.1 x.2.2.1 x.2.2.2:=by
 cases e<;>first|exact nomatch (show none=some x from h)|(cases (show some _=some x from h); rfl)
theorem slP_some {e:Expr} {x:Option Expr × Option Expr × Option Expr × Pos} (h:slP e=some x):e=.Slice x.1 x.2.1 x.2.2.1 x.2.2.2:=by
 cases e<;>first|exact nomatch (show none=some x from h)|(cases (show some _=some x from h); rfl)
theorem cstP_some {e:Expr} {x:Const × Nat × Pos} (h:cstP e=some x):e=.Constant x.1 x.2.1 x.2.2:=by
 cases e<;>first|exact nomatch (show none=some x from h)|(cases (show some _=some x from h); rfl)
theorem b_some {α β:Type} {o:Option α} {f:α→Option β} {b:β} (h:o.bind f=some b):∃ a,o=some a∧f a=some b:=Option.bind_eq_some_iff.mp h
theorem m_some {α β:Type} {o:Option α} {f:α→β} {b:β} (h:o.map f=some b):∃ a,o=some a∧b=f a:=by
 obtain ⟨a,h1,h2⟩:=Option.map_eq_some_iff.mp h
 exact ⟨a,h1,h2.symm⟩
theorem i_some {α:Type} {k:Bool} {o:Option α} {a:α} (h:(if k then o else none)=some a):k=true∧o=some a:=by
 cases k with
 | true=>exact ⟨rfl,h⟩
 | false=>exact nomatch (show none=some a from h)
theorem and_t {a b:Bool} (h:(a&&b)=true):a=true∧b=true:=(Bool.and_eq_true a b) ▸ h
theorem not_t {a:Bool} (h:(!a)=true):a=false:=by cases a<;>first|rfl|exact h.symm
theorem emp_t {α:Type} {l:List α} (h:l.isEmpty=true):l=[]:=List.isEmpty_iff.mp h
theorem own_f {c:CC} {x:Str} (h:own c x=false):c.fns.contains x=false∧c.cls.contains x=false:=by
 unfold own at h
 rw [Bool.or_eq_false_iff] at h
 exact h
theorem biCall_some {c:CC} {e:Expr} {q:Str × List Expr} (h:biCall c e=some q):∃ p1 p2,e=.Call (.Name q.1 p1) q.2 [] p2∧isGlob c q.1=true∧own c q.1=false:=by
 obtain ⟨r,h1,h⟩:=b_some h
 obtain ⟨x,h2,h⟩:=b_some h
 obtain ⟨h3,h⟩:=i_some h
 obtain ⟨h3,h5⟩:=and_t h3
 obtain ⟨h3,h4⟩:=and_t h3
 cases h
 exact ⟨x.2,r.2.2.2,by rw [callP_some h1,nameP_some h2,emp_t h3],h4,not_t h5⟩
theorem strC_some {e:Expr} {x:Str} (h:strC e=some x):∃ j p,e=.Constant (.str x) j p:=by
 obtain ⟨v,h1,h⟩:=b_some h
 obtain ⟨v,j,p⟩:=v
 have e1:=cstP_some h1
 cases v<;>first|exact nomatch (show none=some x from h)|(cases (show some _=some x from h); exact ⟨j,p,e1⟩)
end Z
namespace Z
open PySem PySem.Spec PyProof.Rows L2
def ExcAt (xc:Str→Option Addr) (H:Hp) (a:Addr) (c:Str):Prop:=
 ∃ φ C,H a=some (.ext φ)∧xc c=some C∧∀ h:Heap,φ h→∃ o,h.get? a=some o∧o.cls=.ref C
structure Tx where
 cl:Str→Option Addr
 xc:Str→Option Addr
section
variable (K:PySem.W.Frag)(T:Tx)(H:Hp)(S:Addr→Prop)
mutual
noncomputable def Rep:D→V→Prop
 | .non,v=>v=.non
 | .bl b,v=>v=.bl b
 | .int i,v=>v=.int i
 | .str x,v=>v=.str x
 | .lst ds,v=>∃ a xs,v=.ref a∧¬ S a∧H a=some (.lst xs)∧RepL ds xs
 | .tup ds,v=>∃ a xs,v=.ref a∧¬ S a∧SqT K H a xs∧RepL ds xs
 | .obj c fs,v=>∃ a C dx gs,v=.ref a∧¬ S a∧T.cl c=some C∧H a=some (.ins C dx gs)∧RepF fs gs
 | .exc c,v=>∃ a,v=.ref a∧¬ S a∧ExcAt T.xc H a c
 | .dct kvs,v=>∃ a gs,v=.ref a∧¬ S a∧H a=some (.dK gs)∧RepK kvs gs
 | .frz ds,v=>∃ a xs,v=.ref a∧¬ S a∧SqL K H a xs∧RepL ds xs
noncomputable def RepL:List D→List V→Prop
 | [],xs=>xs=[]
 | d::ds,xs=>∃ x r,xs=x::r∧Rep d x∧RepL ds r
noncomputable def RepF:List (Str × D)→List (Str × V)→Prop
 | [],gs=>gs=[]
 | (f,d)::fs,gs=>∃ x r,gs=(f,x)::r∧Rep d x∧RepF fs r
noncomputable def RepK:List (Int × D)→List (Key × V)→Prop
 | [],gs=>gs=[]
 | (i,d)::fs,gs=>∃ x r,gs=(Sum.inl i,x)::r∧Rep d x∧RepK fs r
end
end
section
variable {K:PySem.W.Frag}{T:Tx}{H H':Hp}{S S':Addr→Prop}
theorem SqT.keeps {a:Addr} {xs:List V} (h:SqT K H a xs) (k:∀ o,H a=some o→H' a=some o):SqT K H' a xs:=by
 rcases h with (h|⟨o,h⟩)|h
 ·exact .inl (.inl (k _ h))
 ·exact .inl (.inr ⟨o,k _ h⟩)
 ·exact .inr h
theorem SqL.keeps {a:Addr} {xs:List V} (h:SqL K H a xs) (k:∀ o,H a=some o→H' a=some o):SqL K H' a xs:=by
 rcases h with (h|⟨o,h⟩)|h
 ·exact .inl (.inl (k _ h))
 ·exact .inl (.inr ⟨o,k _ h⟩)
 ·exact .inr h
def Moves (K:PySem.W.Frag) (H H':Hp) (S S':Addr→Prop):Prop:=∀ a,¬ S a→((∃ o,H a=some o)∨∃ o,K.lookup a=some o)→¬ S' a∧∀ o,H a=some o→H' a=some o
theorem SqT.has {a:Addr} {xs:List V} (h:SqT K H a xs):(∃ o,H a=some o)∨∃ o,K.lookup a=some o:=by
 rcases h with (h|⟨o,h⟩)|⟨o,_,_,h,_⟩
 ·exact .inl ⟨_,h⟩
 ·exact .inl ⟨_,h⟩
 ·exact .inr ⟨_,h⟩
theorem SqL.has {a:Addr} {xs:List V} (h:SqL K H a xs):(∃ o,H a=some o)∨∃ o,K.lookup a=some o:=by
 rcases h with (h|⟨o,h⟩)|⟨o,_,_,h,_⟩
 ·exact .inl ⟨_,h⟩
 ·exact .inl ⟨_,h⟩
 ·exact .inr ⟨_,h⟩
mutual
theorem Rep.gen (hk:Moves K H H' S S'):∀ (d:D) (v:V),Rep K T H S d v→Rep K T H' S' d v
 | .non,v,h=>by unfold Rep at h ⊢; exact h
 | .bl b,v,h=>by unfold Rep at h ⊢; exact h
 | .int i,v,h=>by unfold Rep at h ⊢; exact h
 | .str x,v,h=>by unfold Rep at h ⊢; exact h
 | .lst ds,v,h=>by
  unfold Rep at h ⊢
  obtain ⟨a,xs,e,n,q,r⟩:=h
  obtain ⟨n',k⟩:=hk a n (.inl ⟨_,q⟩)
  exact ⟨a,xs,e,n',k _ q,RepL.gen hk ds xs r⟩
 | .tup ds,v,h=>by
  unfold Rep at h ⊢
  obtain ⟨a,xs,e,n,q,r⟩:=h
  obtain ⟨n',k⟩:=hk a n (SqT.has q)
  exact ⟨a,xs,e,n',SqT.keeps q k,RepL.gen hk ds xs r⟩
 | .obj c fs,v,h=>by
  unfold Rep at h ⊢
  obtain ⟨a,C,dx,gs,e,n,ec,q,r⟩:=h
  obtain ⟨n',k⟩:=hk a n (.inl ⟨_,q⟩)
  exact ⟨a,C,dx,gs,e,n',ec,k _ q,RepF.gen hk fs gs r⟩
 | .exc c,v,h=>by
  unfold Rep at h ⊢
  obtain ⟨a,e,n,φ,C,q,r⟩:=h
  obtain ⟨n',k⟩:=hk a n (.inl ⟨_,q⟩)
  exact ⟨a,e,n',φ,C,k _ q,r⟩
 | .dct kvs,v,h=>by
  unfold Rep at h ⊢
  obtain ⟨a,gs,e,n,q,r⟩:=h
  obtain ⟨n',k⟩:=hk a n (.inl ⟨_,q⟩)
  exact ⟨a,gs,e,n',k _ q,RepK.gen hk kvs gs r⟩
 | .frz ds,v,h=>by
  unfold Rep at h ⊢
  obtain ⟨a,xs,e,n,q,r⟩:=h
  obtain ⟨n',k⟩:=hk a n (SqL.has q)
  exact ⟨a,xs,e,n',SqL.keeps q k,RepL.gen hk ds xs r⟩
theorem RepL.gen (hk:Moves K H H' S S'):∀ (ds:List D) (xs:List V),RepL K T H S ds xs→RepL K T H' S' ds xs
 | [],xs,h=>by unfold RepL at h ⊢; exact h
 | d::ds,xs,h=>by
  unfold RepL at h ⊢
  obtain ⟨x,r,e,p,q⟩:=h
  exact ⟨x,r,e,Rep.gen hk d x p,RepL.gen hk ds r q⟩
theorem RepF.gen (hk:Moves K H H' S S'):∀ (ds:List (Str × D)) (xs:List (Str × V)),RepF K T H S ds xs→RepF K T H' S' ds xs
 | [],xs,h=>by unfold RepF at h ⊢; exact h
 | (f,d)::ds,xs,h=>by
  unfold RepF at h ⊢
  obtain ⟨x,r,e,p,q⟩:=h
  exact ⟨x,r,e,Rep.gen hk d x p,RepF.gen hk ds r q⟩
theorem RepK.gen (hk:Moves K H H' S S'):∀ (ds:List (Int × D)) (xs:List (Key × V)),RepK K T H S ds xs→RepK K T H' S' ds xs
 | [],xs,h=>by unfold RepK at h ⊢; exact h
 | (f,d)::ds,xs,h=>by
  unfold RepK at h ⊢
  obtain ⟨x,r,e,p,q⟩:=h
  exact ⟨x,r,e,Rep.gen hk d x p,RepK.gen hk ds r q⟩
end
theorem Moves.mk (hS:∀ a,S' a→S a) (hk:∀ b o,¬ S b→H b=some o→H' b=some o):Moves K H H' S S':=fun a n _=>⟨fun z=>n (hS a z),fun o=>hk a o n⟩
theorem Moves.add {D:Addr} {o:HO} (hD:H D=none) (hK:K.lookup D=none):Moves K H (upd H D o) S (fun a=>S a∨a=D):=fun a n h=>by
 have ne:a≠D:=by
  rintro rfl
  rcases h with ⟨u,e⟩|⟨u,e⟩
  ·rw [hD] at e; cases e
  ·rw [hK] at e; cases e
 exact ⟨fun z=>z.elim n ne,fun u e=>by rw [upd_ne ne]; exact e⟩
theorem Rep.mono (hS:∀ a,S' a→S a) (hk:∀ b o,¬ S b→H b=some o→H' b=some o) (d:D) (v:V) (h:Rep K T H S d v):Rep K T H' S' d v:=Rep.gen (Moves.mk hS hk) d v h
theorem RepL.mono (hS:∀ a,S' a→S a) (hk:∀ b o,¬ S b→H b=some o→H' b=some o) (d:List D) (v:List V) (h:RepL K T H S d v):RepL K T H' S' d v:=RepL.gen (Moves.mk hS hk) d v h
theorem Rep.same (k:Same H H') {d:D} {v:V} (h:Rep K T H S d v):Rep K T H' S d v:=Rep.mono (fun _ z=>z) (fun b o _=>k b o) d v h
theorem RepL.same (k:Same H H') {d:List D} {v:List V} (h:RepL K T H S d v):RepL K T H' S d v:=RepL.mono (fun _ z=>z) (fun b o _=>k b o) d v h
theorem RepL.len:∀ {ds:List D} {xs:List V},RepL K T H S ds xs→ds.length=xs.length
 | [],xs,h=>by unfold RepL at h; subst h; rfl
 | d::ds,xs,h=>by
  unfold RepL at h
  obtain ⟨x,r,rfl,_,q⟩:=h
  simp [RepL.len q]
theorem RepL.get:∀ {ds:List D} {xs:List V} {i:Nat} {d:D},RepL K T H S ds xs→ds[i]?=some d→∃ x,xs[i]?=some x∧Rep K T H S d x
 | [],_,_,_,_,e=>by simp at e
 | d::ds,xs,0,d',h,e=>by
  unfold RepL at h
  obtain ⟨x,r,rfl,p,q⟩:=h
  simp at e
  subst e
  exact ⟨x,rfl,p⟩
 | d::ds,xs,i+1,d',h,e=>by
  unfold RepL at h
  obtain ⟨x,r,rfl,p,q⟩:=h
  obtain ⟨y,h1,h2⟩:=RepL.get (i:=i) (d:=d') q (by simpa using e)
  exact ⟨y,by simpa using h1,h2⟩
theorem RepL.app:∀ {ds es:List D} {xs ys:List V},RepL K T H S ds xs→RepL K T H S es ys→RepL K T H S (ds++es) (xs++ys)
 | [],es,xs,ys,h,g=>by unfold RepL at h; subst h; exact g
 | d::ds,es,xs,ys,h,g=>by
  unfold RepL at h
  obtain ⟨x,r,rfl,p,q⟩:=h
  show RepL K T H S (d::(ds++es)) _
  unfold RepL
  exact ⟨x,r++ys,rfl,p,RepL.app q g⟩
theorem RepL.nil:RepL K T H S [] []:=by unfold RepL; rfl
theorem RepL.cons {d:D} {x:V} {ds:List D} {xs:List V} (h:Rep K T H S d x) (g:RepL K T H S ds xs):RepL K T H S (d::ds) (x::xs):=by unfold RepL; exact ⟨x,xs,rfl,h,g⟩
theorem RepL.drop:∀ {ds:List D} {xs:List V} (n:Nat),RepL K T H S ds xs→RepL K T H S (ds.drop n) (xs.drop n)
 | ds,xs,0,h=>h
 | [],xs,n+1,h=>by unfold RepL at h; subst h; exact RepL.nil
 | d::ds,xs,n+1,h=>by
  unfold RepL at h
  obtain ⟨x,r,rfl,p,q⟩:=h
  exact RepL.drop n q
theorem RepL.take:∀ {ds:List D} {xs:List V} (n:Nat),RepL K T H S ds xs→RepL K T H S (ds.take n) (xs.take n)
 | ds,xs,0,h=>by simp; exact RepL.nil
 | [],xs,n+1,h=>by unfold RepL at h; subst h; exact RepL.nil
 | d::ds,xs,n+1,h=>by
  unfold RepL at h
  obtain ⟨x,r,rfl,p,q⟩:=h
  exact RepL.cons p (RepL.take n q)
theorem RepL.set:∀ {ds:List D} {xs:List V} (n:Nat) {d:D} {v:V},RepL K T H S ds xs→Rep K T H S d v→RepL K T H S (ds.set n d) (xs.set n v)
 | [],xs,n,d,v,h,g=>by unfold RepL at h; subst h; exact RepL.nil
 | _::ds,xs,0,d,v,h,g=>by
  unfold RepL at h
  obtain ⟨x,r,rfl,p,q⟩:=h
  exact RepL.cons g q
 | _::ds,xs,n+1,d,v,h,g=>by
  unfold RepL at h
  obtain ⟨x,r,rfl,p,q⟩:=h
  exact RepL.cons p (RepL.set n q g)
theorem RepL.rev:∀ {ds:List D} {xs:List V},RepL K T H S ds xs→RepL K T H S ds.reverse xs.reverse
 | [],xs,h=>by unfold RepL at h; subst h; exact RepL.nil
 | d::ds,xs,h=>by
  unfold RepL at h
  obtain ⟨x,r,rfl,p,q⟩:=h
  rw [List.reverse_cons,List.reverse_cons]
  exact RepL.app (RepL.rev q) (RepL.cons p RepL.nil)
theorem RepF.look {f:Str}:∀ {ds:List (Str × D)} {xs:List (Str × V)},RepF K T H S ds xs→(∀ d,ds.lookup f=some d→∃ x,xs.lookup f=some x∧Rep K T H S d x)∧(ds.lookup f=none→xs.lookup f=none)
 | [],xs,h=>by unfold RepF at h; subst h; exact ⟨fun d e=>by simp at e,fun _=>rfl⟩
 | (g,d)::ds,xs,h=>by
  unfold RepF at h
  obtain ⟨x,r,rfl,p,q⟩:=h
  obtain ⟨i1,i2⟩:=RepF.look (f:=f) q
  rw [List.lookup_cons,List.lookup_cons]
  cases e:f == g with
  | true=>exact ⟨fun d' z=>⟨x,rfl,by cases z; exact p⟩,fun z=>by cases z⟩
  | false=>exact ⟨i1,i2⟩
end
noncomputable def er (H:Hp) (p:Addr):Hp:=fun a=>if a=p then none else H a
theorem er_at {H:Hp} {p a:Addr} {o:HO}:er H p a=some o↔a≠p∧H a=some o:=by
 unfold er
 split<;>simp_all
theorem er_upd {H:Hp} {p:Addr} {o:HO} (h:H p=none):er (upd H p o) p=H:=by
 funext a
 unfold er
 by_cases e:a=p
 ·rw [if_pos e,e,h]
 ·rw [if_neg e,upd_ne e]
theorem RepL.er {K:PySem.W.Frag} {T:Tx} {H:Hp} {S:Addr→Prop} {p:Addr} {ds:List D} {xs:List V} (h:RepL K T (er H p) S ds xs):RepL K T H S ds xs:=RepL.mono (fun _ z=>z) (fun b o _ e=>(er_at.mp e).2) ds xs h
theorem RepL.disown {K:PySem.W.Frag} {T:Tx} {H:Hp} {S S':Addr→Prop} {p:Addr} {ds:List D} {xs:List V} (hp:S p) (hs:∀ a,S' a→S a) (h:RepL K T H S ds xs):RepL K T (Z.er H p) S' ds xs:=
 RepL.gen (fun a n _=>⟨fun z=>n (hs a z),fun o e=>er_at.mpr ⟨fun z=>n (by rw [z]; exact hp),e⟩⟩) ds xs h
theorem Moves.own {K:PySem.W.Frag} {H:Hp} {S:Addr→Prop} {p:Addr} (hk:K.lookup p=none):Moves K (Z.er H p) H S (fun a=>S a∨a=p):=fun a n q=>by
 have ne:a≠p:=by
  rintro rfl
  rcases q with ⟨o,e⟩|⟨o,e⟩
  ·exact (er_at.mp e).1 rfl
  ·rw [hk] at e; cases e
 exact ⟨fun z=>z.elim n ne,fun o e=>(er_at.mp e).2⟩
def RepM (K:PySem.W.Frag) (T:Tx) (H:Hp) (S:Addr→Prop) (d:D) (o:HO):Prop:=(∃ ds xs,d=.lst ds∧o=.lst xs∧RepL K T H S ds xs)∨∃ kvs gs,d=.dct kvs∧o=.dK gs∧RepK K T H S kvs gs
theorem RepM.gen {K:PySem.W.Frag} {T:Tx} {H H':Hp} {S S':Addr→Prop} {d:D} {o:HO} (mv:Moves K H H' S S') (h:RepM K T H S d o):RepM K T H' S' d o:=by
 rcases h with ⟨ds,xs,e1,e2,r⟩|⟨ds,xs,e1,e2,r⟩
 ·exact .inl ⟨ds,xs,e1,e2,RepL.gen mv _ _ r⟩
 ·exact .inr ⟨ds,xs,e1,e2,RepK.gen mv _ _ r⟩
theorem RepM.lst {K:PySem.W.Frag} {T:Tx} {H:Hp} {S:Addr→Prop} {ds:List D} {o:HO} (h:RepM K T H S (.lst ds) o):∃ xs,o=.lst xs∧RepL K T H S ds xs:=by
 rcases h with ⟨ds',xs,e1,e2,r⟩|⟨ds',xs,e1,e2,r⟩
 ·cases e1; exact ⟨xs,e2,r⟩
 ·cases e1
theorem RepM.dct {K:PySem.W.Frag} {T:Tx} {H:Hp} {S:Addr→Prop} {ds:List (Int × D)} {o:HO} (h:RepM K T H S (.dct ds) o):∃ xs,o=.dK xs∧RepK K T H S ds xs:=by
 rcases h with ⟨ds',xs,e1,e2,r⟩|⟨ds',xs,e1,e2,r⟩
 ·cases e1
 ·cases e1; exact ⟨xs,e2,r⟩
theorem RepM.rep {K:PySem.W.Frag} {T:Tx} {H:Hp} {S S':Addr→Prop} {d:D} {o:HO} {p:Addr} (h:RepM K T H S d o) (hp:H p=some o) (hn:¬ S' p) (hs:∀ a,S' a→S a):Rep K T H S' d (.ref p):=by
 rcases h with ⟨ds,xs,rfl,rfl,r⟩|⟨ds,xs,rfl,rfl,r⟩
 ·unfold Rep; exact ⟨p,xs,rfl,hn,hp,RepL.gen (Moves.mk hs fun _ _ _ e=>e) _ _ r⟩
 ·unfold Rep; exact ⟨p,xs,rfl,hn,hp,RepK.gen (Moves.mk hs fun _ _ _ e=>e) _ _ r⟩
section
variable (K:PySem.W.Frag)(T:Tx)(H:Hp)(S:Addr→Prop)
def RepS (s:Sl) (o:Option (Option V)):Prop:=match s with
 | .un=>True
 | .im d=>∃ v,o=some (some v)∧Rep K T H S d v
 | .mu d=>∃ p ob,o=some (some (.ref p))∧S p∧H p=some ob∧RepM K T H S d ob
structure RE (ρ:List Sl) (σ:L2.St):Prop where
 dom:∀ a,S a→∃ o,H a=some o
 len:ρ.length=σ.length
 at_:∀ (i:Nat) s,ρ[i]?=some s→RepS K T H S s σ[i]?
def tD (ρ:List Sl) (d:D):TE:=fun σ H Q=>RE K T H S ρ σ∧∀ v H',Same H H'→Rep K T H' S d v→Q v H'
def tAs (ρ:List Sl) (ds:List D):TA:=fun σ H Q=>RE K T H S ρ σ∧∀ vs H',Same H H'→RepL K T H' S ds vs→Q vs H'
noncomputable def tTe (ρ:List Sl) (b:Bool):TT:=fun σ H Q=>RE K T H S ρ σ∧∀ H',Same H H'→Q b H'
def tNw (ρ:List Sl) (ds:List D):TE:=fun σ H Q=>RE K T H S ρ σ∧∀ p xs H',Same H H'→H p=none→H' p=some (.lst xs)→RepL K T (er H' p) S ds xs→Q (.ref p) H'
end
section
variable {K:PySem.W.Frag}{T:Tx}{H H':Hp}{S S':Addr→Prop}{ρ:List Sl}{σ:L2.St}
theorem RepS.same (k:Same H H') {s:Sl} {o:Option (Option V)} (h:RepS K T H S s o):RepS K T H' S s o:=by
 cases s with
 | un=>trivial
 | im d=>obtain ⟨v,e,r⟩:=h; exact ⟨v,e,r.same k⟩
 | mu ds=>obtain ⟨p,xs,e,n,q,r⟩:=h; exact ⟨p,xs,e,n,k _ _ q,r.gen (Moves.mk (fun _ z=>z) fun b o _=>k b o)⟩
theorem RE.same (k:Same H H') (h:RE K T H S ρ σ):RE K T H' S ρ σ:=
 ⟨fun a z=>let ⟨o,e⟩:=h.dom a z; ⟨o,k a o e⟩,h.len,fun i s e=>(h.at_ i s e).same k⟩
theorem RE.nS (h:RE K T H S ρ σ) {a:Addr} (e:H a=none):¬ S a:=fun z=>by
 obtain ⟨o,q⟩:=h.dom a z
 rw [e] at q; cases q
end
theorem PE.mono {X:Cx} {e:Expr} {t t':TE} (h:PE X e t) (m:∀ σ H Q,t' σ H Q→t σ H Q):PE X e t':=fun pins s σ H Q I hw=>h pins s σ H Q I (m σ H Q hw)
theorem PT.mono {X:Cx} {e:Expr} {t t':TT} (h:PT X e t) (m:∀ σ H Q,t' σ H Q→t σ H Q):PT X e t':=fun pins s σ H Q I hw=>h pins s σ H Q I (m σ H Q hw)
theorem PW.mono {X:Cx} {e:Expr} {t t':TT} (h:PW X e t) (m:∀ σ H Q,t' σ H Q→t σ H Q):PW X e t':=fun wh pins s σ H Q I hw=>h wh pins s σ H Q I (m σ H Q hw)
theorem PA.mono {X:Cx} {e:List Expr} {t t':TA} (h:PA X e t) (m:∀ σ H Q,t' σ H Q→t σ H Q):PA X e t':=fun pos pins s σ H Q I hw=>h pos pins s σ H Q I (m σ H Q hw)
theorem Same.upd {H:Hp} {p:Addr} {o:HO} (h:H p=none):Same H (upd H p o):=fun b u e=>by rw [upd_ne (ne_of_none e h)]; exact e
end Z
namespace Z
open PySem PySem.Spec PyProof.Rows L2
mutual
noncomputable def py:D→PyData
 | .non=>.none
 | .bl b=>.bool b
 | .int i=>.int i
 | .str x=>.str x
 | .lst xs=>.list (pys xs)
 | .tup xs=>.tuple (pys xs)
 | .obj _ _=>.none
 | .exc _=>.none
 | .dct _=>.none
 | .frz _=>.none
noncomputable def pys:List D→List PyData
 | []=>[]
 | d::r=>py d::pys r
end
theorem canLay_all {n:Nat} (h:∀ d,flat n d=true→(py d).canLay0=true):∀ ds:List D,ds.all (flat n)=true→PyData.canLayAll0 (pys ds)=true
 | [],_=>by simp [pys,PyData.canLayAll0]
 | d::ds,e=>by
  rw [List.all_cons,Bool.and_eq_true] at e
  simp only [pys,PyData.canLayAll0,Bool.and_eq_true]
  exact ⟨h d e.1,canLay_all h ds e.2⟩
theorem canLay:∀ (n:Nat) (d:D),flat n d=true→(py d).canLay0=true
 | n,.non,_=>by simp [py,PyData.canLay0]
 | n,.bl _,_=>by simp [py,PyData.canLay0]
 | n,.int _,_=>by simp [py,PyData.canLay0]
 | n,.str x,h=>by
  have e:okS x=true:=by cases n<;>simpa [flat] using h
  simp only [py,PyData.canLay0]
  exact e
 | 0,.lst _,h=>by simp [flat] at h
 | 0,.tup _,h=>by simp [flat] at h
 | n+1,.lst xs,h=>by
  simp only [py,PyData.canLay0]
  exact canLay_all (canLay n) xs (by simpa [flat] using h)
 | n+1,.tup xs,h=>by
  simp only [py,PyData.canLay0]
  exact canLay_all (canLay n) xs (by simpa [flat] using h)
 | n,.obj _ _,h=>by cases n<;>simp [flat] at h
 | n,.exc _,h=>by cases n<;>simp [flat] at h
 | n,.dct _,h=>by cases n<;>simp [flat] at h
 | n,.frz _,h=>by cases n<;>simp [flat] at h
theorem depth_all {n:Nat} (h:∀ d,flat n d=true→(py d).depth≤n):∀ ds:List D,ds.all (flat n)=true→PyData.depthAll (pys ds)≤n
 | [],_=>by simp [pys,PyData.depthAll]
 | d::ds,e=>by
  rw [List.all_cons,Bool.and_eq_true] at e
  simp only [pys,PyData.depthAll]
  exact Nat.max_le.mpr ⟨h d e.1,depth_all h ds e.2⟩
theorem depthD:∀ (n:Nat) (d:D),flat n d=true→(py d).depth≤n
 | n,.non,_=>by simp [py,PyData.depth]
 | n,.bl _,_=>by simp [py,PyData.depth]
 | n,.int _,_=>by simp [py,PyData.depth]
 | n,.str x,h=>by simp [py,PyData.depth]
 | 0,.lst _,h=>by simp [flat] at h
 | 0,.tup _,h=>by simp [flat] at h
 | n+1,.lst xs,h=>by
  simp only [py,PyData.depth]
  exact Nat.succ_le_succ (depth_all (depthD n) xs (by simpa [flat] using h))
 | n+1,.tup xs,h=>by
  simp only [py,PyData.depth]
  exact Nat.succ_le_succ (depth_all (depthD n) xs (by simpa [flat] using h))
 | n,.obj _ _,h=>by simp [py,PyData.depth]
 | n,.exc _,h=>by simp [py,PyData.depth]
 | n,.dct _,h=>by simp [py,PyData.depth]
 | n,.frz _,h=>by simp [py,PyData.depth]
theorem deqs_py {n:Nat} (h:∀ d e,flat n d=true→flat n e=true→deq d e=PyData.eqv (py d) (py e)):∀ ds es:List D,ds.all (flat n)=true→es.all (flat n)=true→deqs ds es=PyData.eqvAll (pys ds) (pys es)
 | [],[],_,_=>by simp [deqs,pys,PyData.eqvAll]
 | [],_::_,_,_=>by simp [deqs,pys,PyData.eqvAll]
 | _::_,[],_,_=>by simp [deqs,pys,PyData.eqvAll]
 | d::ds,e::es,a,b=>by
  rw [List.all_cons,Bool.and_eq_true] at a b
  simp only [deqs,pys,PyData.eqvAll]
  rw [h d e a.1 b.1,deqs_py h ds es a.2 b.2]
theorem deq_py:∀ (n:Nat) (d e:D),flat n d=true→flat n e=true→deq d e=PyData.eqv (py d) (py e)
 | 0,d,e,a,b=>by
  cases d<;>cases e<;>first|(simp [flat] at a; done)|(simp [flat] at b; done)|simp [deq,py,PyData.eqv]
 | n+1,d,e,a,b=>by
  cases d<;>cases e<;>first
   | (simp [flat] at a; done)
   | (simp [flat] at b; done)
   | (simp only [deq,py,PyData.eqv]; exact deqs_py (deq_py n) _ _ (by simpa [flat] using a) (by simpa [flat] using b))
   | simp [deq,py,PyData.eqv]
section
variable {X:Cx}{T:Tx}{pins:List (Addr × Obj)}{σ:L2.St}{H:Hp}{s:Shared}{S:Addr→Prop}
theorem reads_all {n:Nat} (h:∀ d v u,flat n d=true→Rep X.K T H S d v→RelV v u→∃ as,Reads s.heap u (py d) as) :
  ∀ (ds:List D) (xs:List V) (us:List Value),ds.all (flat n)=true→RepL X.K T H S ds xs→Vals xs us→∃ as,ReadsAll s.heap us (pys ds) as
 | [],xs,us,_,r,v=>by
  unfold RepL at r
  subst r
  cases v
  exact ⟨_,.nil⟩
 | d::ds,xs,us,e,r,v=>by
  rw [List.all_cons,Bool.and_eq_true] at e
  unfold RepL at r
  obtain ⟨x,q,rfl,r1,r2⟩:=r
  cases v with
  | cons v1 v2 =>
   obtain ⟨as,h1⟩:=h d x _ e.1 r1 v1
   obtain ⟨bs,h2⟩:=reads_all h ds q _ e.2 r2 v2
   exact ⟨_,.cons h1 h2⟩
theorem readsD (I:Inv X pins σ H s):∀ (n:Nat) (d:D) (v:V) (u:Value),flat n d=true→Rep X.K T H S d v→RelV v u→∃ as,Reads s.heap u (py d) as
 | n,.non,v,u,_,r,q=>by
  unfold Rep at r
  subst r
  cases q
  exact ⟨_,.none⟩
 | n,.bl b,v,u,_,r,q=>by
  unfold Rep at r
  subst r
  cases q
  exact ⟨_,.bool b⟩
 | n,.int i,v,u,_,r,q=>by
  unfold Rep at r
  subst r
  obtain ⟨t,rfl⟩:=q
  exact ⟨_,.int i t⟩
 | n,.str x,v,u,_,r,q=>by
  unfold Rep at r
  subst r
  obtain ⟨t,rfl⟩:=q
  exact ⟨_,.str x t⟩
 | 0,.lst _,_,_,h,_,_=>by simp [flat] at h
 | 0,.tup _,_,_,h,_,_=>by simp [flat] at h
 | n+1,.lst ds,v,u,h,r,q=>by
  unfold Rep at r
  obtain ⟨a,xs,rfl,_,e,r⟩:=r
  cases q
  obtain ⟨its,rv,⟨o,k,ho,hc,hd,hs⟩,_⟩:=I.list (SqL.of e)
  obtain ⟨as,ra⟩:=reads_all (readsD I n) ds xs its (by simpa [flat] using h) r rv
  simp only [py]
  exact ⟨_,.list ho hc hs (by simpa using ra)⟩
 | n+1,.tup ds,v,u,h,r,q=>by
  unfold Rep at r
  obtain ⟨a,xs,rfl,_,e,r⟩:=r
  cases q
  obtain ⟨its,rv,⟨o,ho,hc,k,hs⟩,_⟩:=I.tuple e
  obtain ⟨as,ra⟩:=reads_all (readsD I n) ds xs its (by simpa [flat] using h) r rv
  simp only [py]
  exact ⟨_,.tuple ho hc hs (by simpa using ra)⟩
 | n,.obj _ _,_,_,h,_,_=>by cases n<;>simp [flat] at h
 | n,.exc _,_,_,h,_,_=>by cases n<;>simp [flat] at h
 | n,.dct _,_,_,h,_,_=>by cases n<;>simp [flat] at h
 | n,.frz _,_,_,h,_,_=>by cases n<;>simp [flat] at h
end
noncomputable def rD (K:PySem.W.Frag) (T:Tx) (S:Addr→Prop) (o:O2):R2:=fun x y H Q =>
 ∃ a b d,(∀ a,S a→∃ o,H a=some o)∧Rep K T H S a x∧Rep K T H S b y∧op2 o a b=some d∧∀ v H',Same H H'→Rep K T H' S d v→Q v H'
theorem big_le:big≤sizeLine:=by rw [sizeLine_eq]; decide
section
variable {X:Cx}{T:Tx}{S:Addr→Prop}
theorem rep_new_lst {K:PySem.W.Frag} {H:Hp} {p:Addr} {ds:List D} {xs:List V} (dom:∀ a,S a→∃ o,H a=some o) (hp:H p=none) (r:RepL K T H S ds xs):Rep K T (upd H p (.lst xs)) S (.lst ds) (.ref p):=by
 unfold Rep
 exact ⟨p,xs,rfl,fun z=>(by obtain ⟨o,e⟩:=dom p z; rw [hp] at e; cases e),upd_same,r.same (Same.upd hp)⟩
theorem rep_new_tup {K:PySem.W.Frag} {H:Hp} {p:Addr} {ds:List D} {xs:List V} (dom:∀ a,S a→∃ o,H a=some o) (hp:H p=none) (r:RepL K T H S ds xs):Rep K T (upd H p (.tup xs)) S (.tup ds) (.ref p):=by
 unfold Rep
 exact ⟨p,xs,rfl,fun z=>(by obtain ⟨o,e⟩:=dom p z; rw [hp] at e; cases e),SqT.of upd_same,r.same (Same.upd hp)⟩
theorem cat_tup0 {prog:Program} {w:World} {A:Around} {E:Value→Shared→Prop} {s:Shared} {t b:Addr} {ws:List Value} {Q:Value→Shared→Prop} (ht:IsTup s.heap t (#[]:Array Value)) (hb:IsTup s.heap b ws.toArray)
  (h1:Q (.ref b) s) (hsz:ws.length≤sizeLine):wpAny (model prog w) A (binaryOp .Add (.ref t) (.ref b)) Q E s:=by
 obtain ⟨⟨cls,dd,data,sl⟩,ho,hc,n,hd⟩:=id ht
 obtain ⟨⟨cls2,dd2,data2,sl2⟩,ho2,hc2,n2,hd2⟩:=id hb
 simp only at hc hd hc2 hd2
 subst hc hd hc2 hd2
 exact concat_meets ⟨_,ho,rfl⟩ ⟨_,ho2,rfl⟩ noFill_tuple_add seq_tuple_add PySem.F.slot_tuple_add PySem.F.entry_tuple_add (PySem.F.args_tuple_add_2 _ _)
   (tuple_addW0 t b #[] ws.toArray n n2 dd dd2 sl sl2 (by simp)) ⟨ho,ho2,h1⟩
theorem opD_add:OpR X (binaryOp .Add) (rD X.K T S .add):=by
 rintro pins s σ H x y v u Q I rx ry ⟨a,b,d,dom,ra,rb,e,q⟩
 simp only [op2,oAdd] at e
 split at e
 ·rename_i i j
  unfold Rep at ra rb
  cases e
  exact op_add pins s σ H x y v u Q I rx ry ⟨i,j,ra,rb,q _ H (Same.refl H) (by unfold Rep; rfl)⟩
 ·rename_i i j
  unfold Rep at ra rb
  split at e
  ·rename_i hz
   cases e
   exact op_add_str pins s σ H x y v u Q I rx ry ⟨i,j,ra,rb,Nat.le_trans hz big_le,q _ H (Same.refl H) (by unfold Rep; rfl)⟩
  ·cases e
 ·rename_i as bs
  unfold Rep at ra rb
  obtain ⟨l,xs,ex,_,e1,r1⟩:=ra
  obtain ⟨b,ys,ey,_,e2,r2⟩:=rb
  split at e
  ·rename_i hz
   cases e
   refine op_cat pins s σ H x y v u Q I rx ry ⟨l,b,xs,ys,ex,ey,e1,e2,?_,fun p hp=>q _ _ (Same.upd hp) (rep_new_lst dom hp (r1.app r2))⟩
   rw [← r1.len,← r2.len]; exact Nat.le_trans hz big_le
  ·cases e
 ·rename_i as bs
  have ra':=ra
  have rb':=rb
  unfold Rep at ra rb
  obtain ⟨l,xs,ex,_,e1,r1⟩:=ra
  obtain ⟨b,ys,ey,_,e2,r2⟩:=rb
  split at e
  ·rename_i hz
   cases e
   have hz':xs.length+ys.length≤sizeLine:=by rw [← r1.len,← r2.len]; exact Nat.le_trans hz big_le
   by_cases hx:xs=[]
   ·subst hx ex ey
    cases rx
    cases ry
    have ea:as=[]:=List.length_eq_zero_iff.mp r1.len
    subst ea
    obtain ⟨its,v1,p1,_⟩:=I.tuple e1
    obtain ⟨its2,v2,p2,z2⟩:=I.tuple e2
    cases v1
    exact cat_tup0 p1 p2 ⟨.ref b,H,I,rfl,q _ H (Same.refl H) (by simpa using rb')⟩ (by rw [← v2.length]; exact z2)
   ·refine op_catT pins s σ H x y v u Q I rx ry ⟨l,b,xs,ys,ex,ey,e1,e2,hx,hz',fun hy=>?_,fun hy p hp=>q _ _ (Same.upd hp) (rep_new_tup dom hp (r1.app r2))⟩
    subst hy
    have eb:bs=[]:=List.length_eq_zero_iff.mp r2.len
    subst eb
    rw [← ex]
    exact q _ H (Same.refl H) (by simpa using ra')
  ·cases e
 ·cases e
theorem opD_sub:OpR X (binaryOp .Sub) (rD X.K T S .sub):=by
 rintro pins s σ H x y v u Q I rx ry ⟨a,b,d,dom,ra,rb,e,q⟩
 simp only [op2,oSub] at e
 split at e
 ·rename_i i j
  unfold Rep at ra rb
  cases e
  exact op_sub pins s σ H x y v u Q I rx ry ⟨i,j,ra,rb,q _ H (Same.refl H) (by unfold Rep; rfl)⟩
 ·cases e
theorem opD_mul:OpR X (binaryOp .Mult) (rD X.K T S .mul):=by
 rintro pins s σ H x y v u Q I rx ry ⟨a,b,d,dom,ra,rb,e,q⟩
 simp only [op2,oMul] at e
 split at e
 ·rename_i i j
  unfold Rep at ra rb
  split at e
  ·rename_i hz
   cases e
   exact op_mul pins s σ H x y v u Q I rx ry ⟨i,j,ra,rb,hz,q _ H (Same.refl H) (by unfold Rep; rfl)⟩
  ·cases e
 ·cases e
theorem opD_fdiv:OpR X (binaryOp .FloorDiv) (rD X.K T S .fdiv):=by
 rintro pins s σ H x y v u Q I rx ry ⟨a,b,d,dom,ra,rb,e,q⟩
 simp only [op2,oDiv] at e
 split at e
 ·rename_i i j
  unfold Rep at ra rb
  split at e
  ·rename_i hz
   cases e
   exact op_fdiv pins s σ H x y v u Q I rx ry ⟨i,j,ra,rb,hz,q _ H (Same.refl H) (by unfold Rep; rfl)⟩
  ·cases e
 ·cases e
theorem opD_mod:OpR X (binaryOp .Mod) (rD X.K T S .mod):=by
 rintro pins s σ H x y v u Q I rx ry ⟨a,b,d,dom,ra,rb,e,q⟩
 simp only [op2,oMod] at e
 split at e
 ·rename_i i j
  unfold Rep at ra rb
  split at e
  ·rename_i hz
   cases e
   exact op_mod pins s σ H x y v u Q I rx ry ⟨i,j,ra,rb,hz,q _ H (Same.refl H) (by unfold Rep; rfl)⟩
  ·cases e
 ·cases e
theorem opD_pow:OpR X (binaryOp .Pow) (rD X.K T S .pow):=by
 rintro pins s σ H x y v u Q I rx ry ⟨a,b,d,dom,ra,rb,e,q⟩
 simp only [op2,oPow] at e
 split at e
 ·rename_i i j
  unfold Rep at ra rb
  split at e
  ·rename_i hz
   cases e
   exact op_pow pins s σ H x y v u Q I rx ry ⟨i,j,ra,rb,⟨hz.1,by omega,hz.2.2⟩,q _ H (Same.refl H) (by unfold Rep; rfl)⟩
  ·cases e
 ·cases e
theorem opD_bin {op:Operator} {o:O2} (h:opOf op=some o):OpR X (binaryOp op) (rD X.K T S o):=by
 cases op<;>simp only [opOf] at h<;>first|(cases h; done)|(cases h; first|exact opD_add|exact opD_sub|exact opD_mul|exact opD_fdiv|exact opD_mod|exact opD_pow)
theorem rep_bl {K:PySem.W.Frag} {H:Hp} {b:Bool}:Rep K T H S (.bl b) (.bl b):=by unfold Rep; rfl
theorem opD_lt:OpR X (compareOp .Lt) (rD X.K T S .lt):=by
 rintro pins s σ H x y v u Q I rx ry ⟨a,b,d,dom,ra,rb,e,q⟩
 simp only [op2,oLt] at e
 split at e
 ·rename_i i j
  unfold Rep at ra rb
  cases e
  exact op_lt pins s σ H x y v u Q I rx ry ⟨i,j,ra,rb,q _ H (Same.refl H) rep_bl⟩
 ·cases e
theorem opD_le:OpR X (compareOp .LtE) (rD X.K T S .le):=by
 rintro pins s σ H x y v u Q I rx ry ⟨a,b,d,dom,ra,rb,e,q⟩
 simp only [op2,oLe] at e
 split at e
 ·rename_i i j
  unfold Rep at ra rb
  cases e
  exact op_le pins s σ H x y v u Q I rx ry ⟨i,j,ra,rb,q _ H (Same.refl H) rep_bl⟩
 ·cases e
theorem opD_gt:OpR X (compareOp .Gt) (rD X.K T S .gt):=by
 rintro pins s σ H x y v u Q I rx ry ⟨a,b,d,dom,ra,rb,e,q⟩
 simp only [op2,oGt] at e
 split at e
 ·rename_i i j
  unfold Rep at ra rb
  cases e
  exact op_gt pins s σ H x y v u Q I rx ry ⟨i,j,ra,rb,q _ H (Same.refl H) rep_bl⟩
 ·cases e
theorem opD_ge:OpR X (compareOp .GtE) (rD X.K T S .ge):=by
 rintro pins s σ H x y v u Q I rx ry ⟨a,b,d,dom,ra,rb,e,q⟩
 simp only [op2,oGe] at e
 split at e
 ·rename_i i j
  unfold Rep at ra rb
  cases e
  exact op_ge pins s σ H x y v u Q I rx ry ⟨i,j,ra,rb,q _ H (Same.refl H) rep_bl⟩
 ·cases e
theorem room8 {A:Around} (hu:A.units+64<cLine) {d e:D} (hd:plain d=true):A.units+min (py d).depth (py e).depth<cLine:=by
 have h1:=depthD 8 d hd
 have h2:min (py d).depth (py e).depth≤(py d).depth:=Nat.min_le_left _ _
 omega
theorem opD_eq (hu:X.A.units+64<cLine):OpR X (compareOp .Eq) (rD X.K T S .eq):=by
 rintro pins s σ H x y v u Q I rx ry ⟨a,b,d,dom,ra,rb,e,q⟩
 simp only [op2,oEq] at e
 split at e
 ·rename_i hp
  rw [Bool.and_eq_true] at hp
  cases e
  obtain ⟨as,h1⟩:=readsD I 8 a x v hp.1 ra rx
  obtain ⟨bs,h2⟩:=readsD I 8 b y u hp.2 rb ry
  refine SeqAt.compareEq_reads h1 h2 (canLay 8 a hp.1) (canLay 8 b hp.2) (room8 hu hp.1) ⟨.bl _,H,I,rfl,?_⟩
  rw [← deq_py 8 a b hp.1 hp.2]
  exact q _ H (Same.refl H) rep_bl
 ·cases e
theorem opD_ne (hu:X.A.units+64<cLine):OpR X (compareOp .NotEq) (rD X.K T S .ne):=by
 rintro pins s σ H x y v u Q I rx ry ⟨a,b,d,dom,ra,rb,e,q⟩
 simp only [op2,oNe] at e
 split at e
 ·rename_i hp
  rw [Bool.and_eq_true] at hp
  cases e
  obtain ⟨as,h1⟩:=readsD I 8 a x v hp.1 ra rx
  obtain ⟨bs,h2⟩:=readsD I 8 b y u hp.2 rb ry
  refine SeqAt.compareNe_reads h1 h2 (canLay 8 a hp.1) (canLay 8 b hp.2) (room8 hu hp.1) ⟨.bl _,H,I,rfl,?_⟩
  rw [← deq_py 8 a b hp.1 hp.2]
  exact q _ H (Same.refl H) rep_bl
 ·cases e
theorem any_py (a:D) (ha:plain a=true):∀ ds:List D,ds.all plain=true→((pys ds).any fun y=>PyData.eqv y (py a))=ds.any fun y=>deq y a
 | [],_=>by simp [pys]
 | d::ds,h=>by
  rw [List.all_cons,Bool.and_eq_true] at h
  simp only [pys,List.any_cons]
  rw [any_py a ha ds h.2,deq_py 8 d a h.1 ha]
theorem opD_in (hu:X.A.units+64<cLine):OpR X (compareOp .In) (rD X.K T S .isin):=by
 rintro pins s σ H x y v u Q I rx ry ⟨a,b,d,dom,ra,rb,e,q⟩
 have go:∀ (ds:List D),plain a=true→ds.all plain=true→X.A.units+1+min (PyData.depthAll (pys ds)) (py a).depth<cLine:=fun ds h1 h2=>by
  have h3:=depthD 8 a h1
  have h4:min (PyData.depthAll (pys ds)) (py a).depth≤(py a).depth:=Nat.min_le_right _ _
  omega
 simp only [op2,oIn] at e
 split at e
 ·rename_i ds
  split at e
  ·rename_i hp
   rw [Bool.and_eq_true] at hp
   cases e
   obtain ⟨as,h1⟩:=readsD I 8 a x v hp.1 ra rx
   obtain ⟨bs,h2⟩:=readsD I 9 (.lst ds) y u (by show ds.all (flat 8)=true; exact hp.2) rb ry
   simp only [py] at h2
   refine SeqAt.in_list_reads h2 h1 (canLay_all (canLay 8) ds hp.2) (canLay 8 a hp.1) (go ds hp.1 hp.2) ⟨.bl _,H,I,rfl,?_⟩
   rw [any_py a hp.1 ds hp.2]
   exact q _ H (Same.refl H) rep_bl
  ·cases e
 ·rename_i ds
  split at e
  ·rename_i hp
   rw [Bool.and_eq_true] at hp
   cases e
   obtain ⟨as,h1⟩:=readsD I 8 a x v hp.1 ra rx
   obtain ⟨bs,h2⟩:=readsD I 9 (.tup ds) y u (by show ds.all (flat 8)=true; exact hp.2) rb ry
   simp only [py] at h2
   refine SeqAt.in_tuple_reads h2 h1 (canLay_all (canLay 8) ds hp.2) (canLay 8 a hp.1) (go ds hp.1 hp.2) ⟨.bl _,H,I,rfl,?_⟩
   rw [any_py a hp.1 ds hp.2]
   exact q _ H (Same.refl H) rep_bl
  ·cases e
 ·split at e
  ·cases e
   unfold Rep at ra rb
   subst ra rb
   exact op_in_str pins s σ H _ _ v u Q I rx ry ⟨_,_,rfl,rfl,q _ H (Same.refl H) rep_bl⟩
  ·cases e
 ·cases e
theorem opD_notin (hu:X.A.units+64<cLine):OpR X (compareOp .NotIn) (rD X.K T S .notin):=by
 rintro pins s σ H x y v u Q I rx ry ⟨a,b,d,dom,ra,rb,e,q⟩
 have go:∀ (ds:List D),plain a=true→ds.all plain=true→X.A.units+1+min (PyData.depthAll (pys ds)) (py a).depth<cLine:=fun ds h1 h2=>by
  have h3:=depthD 8 a h1
  have h4:min (PyData.depthAll (pys ds)) (py a).depth≤(py a).depth:=Nat.min_le_right _ _
  omega
 simp only [op2,oNotIn] at e
 split at e
 ·rename_i ds
  split at e
  ·rename_i hp
   rw [Bool.and_eq_true] at hp
   cases e
   obtain ⟨as,h1⟩:=readsD I 8 a x v hp.1 ra rx
   obtain ⟨bs,h2⟩:=readsD I 9 (.lst ds) y u (by show ds.all (flat 8)=true; exact hp.2) rb ry
   simp only [py] at h2
   refine SeqAt.notIn_list_reads h2 h1 (canLay_all (canLay 8) ds hp.2) (canLay 8 a hp.1) (go ds hp.1 hp.2) ⟨.bl _,H,I,rfl,?_⟩
   rw [any_py a hp.1 ds hp.2]
   exact q _ H (Same.refl H) rep_bl
  ·cases e
 ·rename_i ds
  split at e
  ·rename_i hp
   rw [Bool.and_eq_true] at hp
   cases e
   obtain ⟨as,h1⟩:=readsD I 8 a x v hp.1 ra rx
   obtain ⟨bs,h2⟩:=readsD I 9 (.tup ds) y u (by show ds.all (flat 8)=true; exact hp.2) rb ry
   simp only [py] at h2
   refine SeqAt.notIn_tuple_reads h2 h1 (canLay_all (canLay 8) ds hp.2) (canLay 8 a hp.1) (go ds hp.1 hp.2) ⟨.bl _,H,I,rfl,?_⟩
   rw [any_py a hp.1 ds hp.2]
   exact q _ H (Same.refl H) rep_bl
  ·cases e
 ·cases e
theorem opD_is:OpR X (compareOp .Is) (rD X.K T S .is):=by
 rintro pins s σ H x y v u Q I rx ry ⟨a,b,d,dom,ra,rb,e,q⟩
 have go:∀ k,b=.non→k=decide (x=V.non)→d=.bl k→wpAny (model X.prog X.w) X.A (compareOp .Is v u) (EP X pins σ Q) X.xe s:=fun k hb hk hd=>by
  subst hb hd hk
  unfold Rep at rb
  exact op_isN pins s σ H x y v u Q I rx ry ⟨rb,q _ H (Same.refl H) rep_bl⟩
 simp only [op2,oIs,isD] at e
 split at e<;>simp only [Option.map_some,Option.map_none,Option.some.injEq,reduceCtorEq] at e
 all_goals subst e
 all_goals first
  | (unfold Rep at ra; refine go _ rfl ?_ rfl; first|(subst ra; rfl)|(obtain ⟨_,_,rfl,_⟩:=ra; rfl)|(obtain ⟨_,_,_,_,rfl,_⟩:=ra; rfl))
  | (unfold Rep at ra rb
     subst ra rb
     cases rx
     cases ry
     exact is_bool ⟨.bl _,H,I,rfl,q _ H (Same.refl H) rep_bl⟩)
end
end Z
namespace Z
open PySem PySem.Spec PyProof.Rows L2
structure Fly (P:Program) (w:World) (l:List Env) (H:Hp) (s:Shared) (B:Heap) (a:Addr) (cls a0:Value) (H':Hp) (s':Shared):Prop where
 os:s'.os=s.os
 bare:AllBare s'.gens
 un:Un (frs l) [] H H' s.heap s'.heap
 hok:HOk P w H' s'.heap
 fly:Heap.FlyingW B l a cls a0 s'.heap
 new:H' a=none
 old:s.heap.get? a=none
 frf:∀ b ∈ frs l,H' b=none
 cov:∀ b o,s'.heap.get? b=some o→b ∉ frs l→((∃ u,H' b=some u)∨∃ o',s.heap.get? b=some o')→B.get? b=some o
noncomputable def FlyX (P:Program) (w:World):CXT:=fun l H s E e s'=>∃ a cls a0 B H',e=.ref a∧Fly P w l H s B a cls a0 H' s'∧E cls none H'
theorem flyX0 {P:Program} {w:World}:∀ outer H s e s',FlyX P w outer H s E0 e s'→False:=fun _ _ _ _ _ ⟨_,_,_,_,_,_,_,h⟩=>h
section
variable {P:Program}{w:World}{l:List Env}{H H':Hp}{s s':Shared}{B:Heap}{a:Addr}{cls a0:Value}
theorem objOk_get {h:Heap} {b:Addr}:∀ {o:HO},ObjOk P w H h b o→∃ u,h.get? b=some u:=by
 intro o x
 cases o with
 | lst xs=>obtain ⟨_,_,_,_,e⟩:=x; exact ⟨_,e⟩
 | tup xs=>obtain ⟨_,_,_,ob,e,_⟩:=x; exact ⟨_,e⟩
 | dK kvs=>obtain ⟨_,_,_,_,o,_,_,e,_⟩:=x; exact ⟨_,e⟩
 | dT kvs=>obtain ⟨_,_,_,_,o,_,_,e,_⟩:=x; exact ⟨_,e⟩
 | set S n=>obtain ⟨o,_,_,_,e,_⟩:=x; exact ⟨_,e⟩
 | ins C dx fs=>obtain ⟨_,_,_,e,_⟩:=x; exact ⟨_,e⟩
 | own y=>obtain ⟨_,e⟩:=x; exact ⟨_,e⟩
 | xd fs=>obtain ⟨_,⟨_,_,_,e,_⟩,_⟩:=x; exact ⟨_,e⟩
 | rng lo hi=>obtain ⟨_,_,_,e⟩:=x; exact ⟨_,e⟩
 | frz ob u=>obtain ⟨e,_⟩:=x; exact ⟨_,e⟩
 | tbl ps=>exact ⟨_,(show h.get? b=some _ from x)⟩
 | met f y=>exact ⟨_,(show h.get? b=some _ from x)⟩
 | ext φ=>obtain ⟨_,⟨_,e⟩,_⟩:=x; exact ⟨_,e⟩
theorem un_onto {fs:List Addr} {h0 h1 h2:Heap} (u:Un fs [] H H' h0 h1) (keep:∀ b o,h1.get? b=some o→(∃ o',h0.get? b=some o')→b ∉ fs→h2.get? b=some o)
  (slot:∀ b o,h1.get? b=some o→b ∈ fs→∃ sl,h2.get? b=some { o with slots:=sl }):Un fs [] H H' h0 h2 where
 keep b o e n hb hx:=keep b o (u.keep b o e n hb hx) ⟨o,e⟩ hb
 slot b o e n hb hx:=by
  obtain ⟨sl,e1⟩:=u.slot b o e n hb hx
  obtain ⟨sl2,e2⟩:=slot b _ e1 hb
  exact ⟨sl2,e2⟩
 free:=u.free
 there b o e hx:=by
  obtain ⟨o',e1⟩:=u.there b o e hx
  by_cases hb:b ∈ fs
  ·obtain ⟨sl,e2⟩:=slot b _ e1 hb
   exact ⟨_,e2⟩
  ·exact ⟨_,keep b o' e1 ⟨o,e⟩ hb⟩
 tups:=u.tups
 frzs:=u.frzs
 tbls:=u.tbls
theorem hok_onto {h1 h2:Heap} (ok:HOk P w H h1) (keep:∀ b o u,H b=some u→h1.get? b=some o→h2.get? b=some o):HOk P w H h2:=fun b u e =>
 (ok b u e).stay (fun c v hc q=>by
  rcases hc with rfl|hc
  ·exact keep _ v u e q
  ·exact keep _ v _ hc q) (fun _ q=>q) fun _ _ q=>q
theorem Fly.move (F:Fly P w l H s B a cls a0 H' s') {h2:Heap} (fl:Heap.FlyingW B l a cls a0 h2) (up:s'.heap.UpToSlots h2):Fly P w l H s B a cls a0 H' { s' with heap:=h2 }:=by
 have keep:∀ b o,s'.heap.get? b=some o→((∃ u,H' b=some u)∨∃ o',s.heap.get? b=some o')→b ∉ frs l→h2.get? b=some o:=fun b o e t nb=>fl.1 b o (F.cov b o e nb t)
 have tr:∀ b u,H' b=some u→b ∉ frs l:=fun b u e z=>by rw [F.frf b z] at e; cases e
 refine ⟨F.os,F.bare,un_onto F.un (fun b o e t nb=>keep b o e (.inr t) nb) (fun b o e hb=>?_),hok_onto F.hok fun b o u e q=>keep b o q (.inl ⟨u,e⟩) (tr b u e),fl,F.new,F.old,F.frf,fun b o e nb t=>?_⟩
 ·obtain ⟨_,o2,e2,nf⟩:=F.fly.2.2.1.mem hb
  rw [e] at e2; cases e2
  exact up b o e nf
 ·have:∃ o1,s'.heap.get? b=some o1:=by
   rcases t with ⟨u,e1⟩|⟨o',e1⟩
   ·exact objOk_get (F.hok b u e1)
   ·exact F.un.there b o' e1 (by simp)
  obtain ⟨o1,e1⟩:=this
  have e2:=keep b o1 e1 t nb
  have e:h2.get? b=some o:=e
  rw [e2] at e
  cases e
  exact F.cov b _ e1 nb t
end
section
variable {X:Cx}{pins:List (Addr × Obj)}{σ:L2.St}{H H':Hp}{s s':Shared}{B:Heap}{a:Addr}{cls a0:Value}
theorem Fly.inv (I:Inv X pins σ H s) (F:Fly X.prog X.w X.stack H s B a cls a0 H' s'):Inv X pins σ H' s':=I.call' F.os F.un F.hok F.bare fun b z=>absurd z (by simp)
theorem Fly.up {env:Env} {outer:List Env} (I:Inv X pins σ H s) (hst:X.stack=env::outer) (hou:X.outer=outer) (hex:X.ex=[]) (hfr:env.frame=some X.env.locals) (F:Fly X.prog X.w X.stack H s B a cls a0 H' s') {h2:Heap} (fl:Heap.FlyingW B outer a cls a0 h2) (up:s'.heap.UpToSlots h2) :
  Fly X.prog X.w outer X.H₀ X.s₀ B a cls a0 H' { s' with heap:=h2 }:=by
 have J:=F.inv I
 have fsE:frs X.stack=X.env.locals::frs outer:=by
  rw [hst]; unfold frs; rw [List.filterMap_cons,hfr]
 have olds:∀ b o,X.s₀.heap.get? b=some o→b≠X.env.locals:=fun b o e=>Nat.ne_of_lt (Nat.lt_of_lt_of_le (Heap.lt_size e) I.ok.above)
 have tr:∀ b u,H' b=some u→b ∉ frs X.stack:=fun b u e z=>by rw [F.frf b z] at e; cases e
 have old1:∀ b o,X.s₀.heap.get? b=some o→∃ o',s.heap.get? b=some o':=fun b o e=>I.base.there b o e (by rw [hex]; simp)
 have ns:∀ b,b ∉ frs outer→b≠X.env.locals→b ∉ frs X.stack:=fun b h1 h2 z=>by
  rw [fsE] at z
  rcases List.mem_cons.mp z with z|z
  ·exact h2 z
  ·exact h1 z
 have un0:Un (frs outer) [] X.H₀ H' X.s₀.heap s'.heap:=by
  have:=J.base
  rw [hex] at this
  unfold Cx.fs at this
  rw [hou] at this
  exact this
 refine ⟨J.os,F.bare,un_onto un0 (fun b o e t nb=>?_) (fun b o e hb=>?_),hok_onto F.hok fun b o u e q=>fl.1 b o (F.cov b o q (tr b u e) (.inl ⟨u,e⟩)),fl,F.new,?_,fun b hb=>F.frf b (by rw [fsE]; exact List.mem_cons_of_mem _ hb),fun b o e nb t=>?_⟩
 ·obtain ⟨o',e'⟩:=t
  exact fl.1 b o (F.cov b o e (ns b nb (olds b o' e')) (.inr (old1 b o' e')))
 ·obtain ⟨_,o2,e2,nf⟩:=F.fly.2.2.1.mem (show b ∈ frs X.stack by rw [fsE]; exact List.mem_cons_of_mem _ hb)
  rw [e] at e2; cases e2
  exact up b o e nf
 ·cases e:X.s₀.heap.get? a with
  | none=>rfl
  | some o =>
   obtain ⟨o',e'⟩:=old1 a o e
   rw [F.old] at e'; cases e'
 ·have e:h2.get? b=some o:=e
  rcases t with ⟨u,e1⟩|⟨o',e1⟩
  ·obtain ⟨o1,q⟩:=objOk_get (F.hok b u e1)
   have c:=F.cov b o1 q (tr b u e1) (.inl ⟨u,e1⟩)
   have:=fl.1 b o1 c
   rw [e] at this; cases this
   exact c
  ·obtain ⟨o1,q⟩:=un0.there b o' e1 (by simp)
   have c:=F.cov b o1 q (ns b nb (olds b o' e1)) (.inr (old1 b o' e1))
   have:=fl.1 b o1 c
   rw [e] at this; cases this
   exact c
end
end Z
namespace Z
open PySem PySem.Spec PyProof.Rows L2
noncomputable def bmV:List Value:=[.type "ValueError",.type "Exception",.type "BaseException",.type "object"]
noncomputable def mroHas (K:PySem.W.Frag) (C:Addr) (v:Value):Bool:=match K.lookup C with
 | some ⟨_,_,.cls cd,_⟩=>cd.mro.contains v
 | _=>false
theorem xc_of {K:PySem.W.Frag} {C:Addr} (q:PySem.W.excIn K C bmV "ValueError.__new__" = true):∃ nm qn N bs bm hdct sn sub ab col dd k0 k1 k2 k3 k5,
  K.lookup C=some (excClassObj nm qn C N bs bm hdct sn sub ab col dd k0 k1 k2 k3 k5 "ValueError.__new__")∧PySem.W.tailIn K bmV bm=true∧PySem.W.nsOkIn K N=true∧PySem.W.nsIn K N "__init__" = some none∧∀ v,mroHas K C v=(Value.ref C::bm).contains v:=by
 unfold PySem.W.excIn at q
 split at q
 ·rename_i dd cd sl ho
  split at q
  ·rename_i C' bm k0 k1 k2 k3 n k5 hm hs
   simp only [Bool.and_eq_true,beq_iff_eq,Bool.not_eq_true'] at q
   obtain ⟨⟨⟨⟨⟨rfl,rfl⟩,hdel⟩,ht⟩,hok⟩,hni⟩:=q
   obtain ⟨nm,bs,mro,ns,qn,hd,sn,sub,ab,col,del⟩:=cd
   dsimp only at hm hdel hok hni
   subst hm hdel
   have hsl:sl=#[k0,k1,k2,k3,some (.builtin "ValueError.__new__"),k5]:=by
    obtain ⟨l⟩:=sl
    simp only at hs
    rw [hs]
   subst hsl
   refine ⟨nm,qn,ns,bs,bm,hd,sn,sub,ab,col,dd,k0,k1,k2,k3,k5,ho,ht,hok,hni,fun v=>?_⟩
   unfold mroHas
   rw [ho]
  ·cases q
 ·cases q
theorem ps_raise {X:Cx} {x m:Str} {j:Nat} {p p' q pos:Pos} {C:Addr} {W:Hp→Prop} (hc:X.calm=true) (hg:Gl X x) (hdb:(x == ("__debug__":Str))=false) (hm:X.mg x=some (.ref C)) (hx:PySem.W.excIn X.K C bmV "ValueError.__new__" = true)
  (hw:∀ pins σ H s h' e vs,Inv X pins σ H s→Heap.MadeExcOf s.heap h' e (.ref C) vs→W H→X.xe (.ref e) { s with heap:=h' }) :
  PS X (.Raise (some (.Call (.Name x p) [.Constant (.str m) j p'] [] q)) none pos) (fun D σ H=>W H):=by
 intro pins s σ H D I hW
 obtain ⟨nm,qn,N,bs,bm,hdct,sn,sub,ab,col,dd,k0,k1,k2,k3,k5,ho,ht,hok,hni,_⟩:=xc_of hx
 have T:OwnTail s.heap bmV bm:=PySem.W.tail_of_in I.kIn ht
 have hN:s.heap.Ns N (s.heap.nsMap N):=.of_isNs (PySem.W.isNs_of_in I.kIn hok)
 have hni':(s.heap.nsMap N) "__init__" = none:=PySem.W.nsMap_none_of_in I.kIn hok hni
 have hC:=I.kIn _ _ ho
 refine wpAny_Raise_call_subT (C:=C) (nm:=nm) (q:=qn) (N:=N) (bs:=bs) (bm:=bm) (hdct:=hdct) (sn:=sn) (sub:=sub) (ab:=ab) (col:=col) (dd:=dd) (k0:=k0) (k1:=k1) (k2:=k2) (k3:=k3) (k5:=k5)
  PySem.F.excBase_ValueError (mN:=s.heap.nsMap N) (T.hasType PySem.F.excBase_ValueError.hasBase) (I.ok.hd hc) rfl hni' (ld_glob I hg hm ⟨rfl,?_⟩ hdb)
 exact Calls.evalArgs_plain (Calls.spliced_cons (Calls.Constant_str (k:=j) (pos:=p') (Calls.spliced_nil ⟨rfl,by show 1≤sizeLine; rw [sizeLine_eq]; decide,hC,hN,T,fun h' e hm=>hw pins σ H { s with toks:=s.toks+1 } h' e _ (I.tok _) hm hW⟩)))
section
variable {P:Program}{w:World}{K:PySem.W.Frag}{mg:Str→Option Value}{base:Heap}{N:List Str}{qual:Str}{sc:Scope}{f:Addr}{cd:Value}{A:Around}{outer:List Env}{s:Shared}{H:Hp}{E:XK}
theorem leave_made {pins:List (Addr × Obj)} {σ:L2.St} {H1:Hp} {s1:Shared} {h':Heap} {e:Addr} {cls:Value} {vs:List Value} (I:Inv (cxOf (FlyX P w) P w K mg base N qual sc f cd A outer s H E) pins σ H1 s1) (hm:Heap.MadeExcOf s1.heap h' e cls vs) (hE:E cls none H1) :
  (cxOf (FlyX P w) P w K mg base N qual sc f cd A outer s H E).xe (.ref e) { s1 with heap:=h' }:=by
 have hst:=I.stack
 have hfr:∀ b ∈ frs (envOfC qual sc s.heap.objs.size f cd::outer),H1 b=none:=I.stkFree
 have fsE:frs (envOfC qual sc s.heap.objs.size f cd::outer)=s.heap.objs.size::frs outer:=rfl
 have tr:∀ b u,H1 b=some u→b ∉ frs (envOfC qual sc s.heap.objs.size f cd::outer):=fun b u e z=>by rw [hfr b z] at e; cases e
 have ns:∀ b o,s.heap.get? b=some o→b ∉ frs outer→b ∉ frs (envOfC qual sc s.heap.objs.size f cd::outer):=fun b o e h1 z=>by
  rw [fsE] at z
  rcases List.mem_cons.mp z with z|z
  ·exact absurd (Heap.lt_size e) (by rw [z]; exact Nat.lt_irrefl _)
  ·exact h1 z
 have un0:Un (frs outer) [] H H1 s.heap s1.heap:=I.base
 refine wpAny_leaves_madeW (base:=PySem.W.hideAll s1.heap (frs (envOfC qual sc s.heap.objs.size f cd::outer))) (L:=s.heap.objs.size) (outer:=outer) I.ok.frames rfl (fun b o q=>PySem.W.of_hideAll _ q)
  (PySem.W.funFrames_hide hst fun env he b hb=>List.mem_filterMap.mpr ⟨env,he,hb⟩) hm fun h2 t x1 x2 x3 x4=>⟨e,cls,.ref t,PySem.W.hideAll s1.heap (frs (envOfC qual sc s.heap.objs.size f cd::outer)),H1,rfl,?_,hE⟩
 have inB:∀ b o,s1.heap.get? b=some o→b ∉ frs (envOfC qual sc s.heap.objs.size f cd::outer)→(PySem.W.hideAll s1.heap (frs (envOfC qual sc s.heap.objs.size f cd::outer))).get? b=some o:=fun b o q n=>PySem.W.hideAll_get _ q n
 refine ⟨I.os,I.bare,un_onto un0 (fun b o e t nb=>?_) (fun b o e hb=>?_),hok_onto I.hok fun b o u e q=>x1.1 b o (inB b o q (tr b u e)),x1,?_,?_,fun b hb=>hfr b (by rw [fsE]; exact List.mem_cons_of_mem _ hb),fun b o e nb t=>?_⟩
 ·obtain ⟨o',e'⟩:=t
  exact x1.1 b o (inB b o e (ns b o' e' nb))
 ·obtain ⟨_,o2,e2,nf⟩:=hst.mem (show b ∈ frs (envOfC qual sc s.heap.objs.size f cd::outer) by rw [fsE]; exact List.mem_cons_of_mem _ hb)
  rw [e] at e2; cases e2
  exact x4 b o (hm.keeps b o e) nf
 ·cases q:H1 e with
  | none=>rfl
  | some u =>
   obtain ⟨o,q2⟩:=objOk_get (I.hok e u q)
   rw [hm.new] at q2; cases q2
 ·cases q:s.heap.get? e with
  | none=>rfl
  | some u =>
   obtain ⟨o,q2⟩:=un0.there e u q (by simp)
   rw [hm.new] at q2; cases q2
 ·have e:h2.get? b=some o:=e
  rcases t with ⟨u,e1⟩|⟨o',e1⟩
  ·obtain ⟨o1,q⟩:=objOk_get (I.hok b u e1)
   have c:=inB b o1 q (tr b u e1)
   have:=x1.1 b o1 c
   rw [e] at this; cases this
   exact c
  ·obtain ⟨o1,q⟩:=un0.there b o' e1 (by simp)
   have c:=inB b o1 q (ns b o' e1 nb)
   have:=x1.1 b o1 c
   rw [e] at this; cases this
   exact c
theorem pass_on {E1:XK} (hE:∀ cls H',E1 cls none H'→E cls none H'):Passes (FlyX P w) (cxOf (FlyX P w) P w K mg base N qual sc f cd A outer s H E) E1:=by
 rintro pins σ H1 s1 e s' I ⟨a,cls,a0,B,H',rfl,F,q⟩
 exact wpAny_leaves_onW (L:=s.heap.objs.size) (outer:=outer) I.ok.frames rfl F.fly fun h2 x1 x2=>⟨a,cls,a0,B,H',rfl,Fly.up (env:=envOfC qual sc s.heap.objs.size f cd) I rfl rfl rfl rfl F x1 x2,hE _ _ q⟩
end
structure Hd (X:Cx) (H':Hp) (B:Heap) (a:Addr) (cls a0:Value) (s':Shared):Prop where
 os:s'.os=X.s₀.os
 bare:AllBare s'.gens
 un:Un (frs X.outer) [] X.H₀ H' X.s₀.heap s'.heap
 hok:HOk X.prog X.w H' s'.heap
 held:Heap.HeldW B X.stack a cls a0 X.env.locals s'.heap
 new:H' a=none
 old:X.s₀.heap.get? a=none
 frf:∀ b ∈ frs X.stack,H' b=none
 cov:∀ b o,s'.heap.get? b=some o→b ∉ frs X.stack→((∃ u,H' b=some u)∨∃ o',X.s₀.heap.get? b=some o')→B.get? b=some o
section
variable {P:Program}{w:World}{K:PySem.W.Frag}{mg:Str→Option Value}{base:Heap}{N:List Str}{qual:Str}{sc:Scope}{f:Addr}{cd:Value}{A:Around}{outer:List Env}{s:Shared}{H:Hp}{E:XK}
theorem held_on {H':Hp} {B:Heap} {a:Addr} {cls a0:Value} {s':Shared} (F:Hd (cxOf (FlyX P w) P w K mg base N qual sc f cd A outer s H E) H' B a cls a0 s') (q:E cls none H'):(cxOf (FlyX P w) P w K mg base N qual sc f cd A outer s H E).xe (.ref a) s':=by
 show wpAny _ _ (leaving (envOfC qual sc s.heap.objs.size f cd) (.ref a)) _ _ s'
 unfold leaving
 refine wpAny_bind (wpAny_noteFrame_againW (env:=envOfC qual sc s.heap.objs.size f cd) rfl F.held.2.2.2 (wpAny_landsW F.held fun h2 fl up=>?_))
 have fl':Heap.FlyingW B outer a cls a0 h2:=by
  obtain ⟨k1,k2,⟨_,_,k3⟩,k4⟩:=fl
  exact ⟨k1,k2,k3,k4⟩
 have fsE:frs (envOfC qual sc s.heap.objs.size f cd::outer)=s.heap.objs.size::frs outer:=rfl
 have tr:∀ b u,H' b=some u→b ∉ frs (envOfC qual sc s.heap.objs.size f cd::outer):=fun b u e z=>by rw [F.frf b z] at e; cases e
 have ns:∀ b o,s.heap.get? b=some o→b ∉ frs outer→b ∉ frs (envOfC qual sc s.heap.objs.size f cd::outer):=fun b o e h1 z=>by
  rw [fsE] at z
  rcases List.mem_cons.mp z with z|z
  ·exact absurd (Heap.lt_size e) (by rw [z]; exact Nat.lt_irrefl _)
  ·exact h1 z
 refine ⟨a,cls,a0,B,H',rfl,⟨F.os,F.bare,un_onto F.un (fun b o e t nb=>?_) (fun b o e hb=>?_),hok_onto F.hok fun b o u e q=>fl'.1 b o (F.cov b o q (tr b u e) (.inl ⟨u,e⟩)),fl',F.new,F.old,fun b hb=>F.frf b (List.mem_cons_of_mem _ hb),fun b o e nb t=>?_⟩,q⟩
 ·obtain ⟨o',e'⟩:=t
  exact fl'.1 b o (F.cov b o e (ns b o' e' nb) (.inr ⟨o',e'⟩))
 ·obtain ⟨_,o2,e2,nf⟩:=F.held.2.2.1.mem (show b ∈ frs (envOfC qual sc s.heap.objs.size f cd::outer) by rw [fsE]; exact List.mem_cons_of_mem _ hb)
  rw [e] at e2; cases e2
  exact up b o e nf
 ·have e:h2.get? b=some o:=e
  rcases t with ⟨u,e1⟩|⟨o',e1⟩
  ·obtain ⟨o1,q⟩:=objOk_get (F.hok b u e1)
   have c:=F.cov b o1 q (tr b u e1) (.inl ⟨u,e1⟩)
   have:=fl'.1 b o1 c
   rw [e] at this; cases this
   exact c
  ·obtain ⟨o1,q⟩:=F.un.there b o' e1 (by simp)
   have c:=F.cov b o1 q (ns b o' e1 nb) (.inr ⟨o',e1⟩)
   have:=fl'.1 b o1 c
   rw [e] at this; cases this
   exact c
end
end Z
namespace Z
open PySem PySem.Spec PyProof.Rows L2
abbrev heldX (X:Cx) (a:Addr):Cx:={ X with A:=X.A.mark (some (.ref a)),calm:=false,xe:=fun _ _=>False }
section
variable {X:Cx}{pins:List (Addr × Obj)}{σ:L2.St}{H H':Hp}{s s':Shared}{B:Heap}{a:Addr}{cls a0:Value}
theorem okHeld (ok:X.Ok) (a:Addr):(heldX X a).Ok:=⟨ok.mod,ok.kind,ok.glob,ok.blt,ok.above,ok.inj,ok.has,ok.cab,(fun z=>by cases z),ok.frames,ok.stk,ok.exf,ok.bs,ok.bsz,ok.noex,ok.exfs,ok.funs,ok.frf⟩
theorem invHeld (I:Inv X pins σ H s) (a:Addr):Inv (heldX X a) pins σ H s:=⟨okHeld I.ok a,I.os,I.bare,I.base,I.loc,I.cell,I.free,I.freeC,I.pin,I.hok,I.len⟩
theorem invUnheld (ok:X.Ok) (I:Inv (heldX X a) pins σ H s):Inv X pins σ H s:=⟨ok,I.os,I.bare,I.base,I.loc,I.cell,I.free,I.freeC,I.pin,I.hok,I.len⟩
theorem invGone {h':Heap} {t:Nat} {m':Str→Option Value} (I:Inv X pins σ H s) (hn:h'.Ns X.env.locals m') (hs:Heap.SameBut X.env.locals s.heap h'):Inv X pins (List.replicate X.N.length none) H { s with heap:=h',toks:=t }:=by
 obtain ⟨m,hn0,hl⟩:=id I.loc
 obtain ⟨oL,_,_,hoL,_⟩:=id hn0
 have cne:=I.cne
 have old:∀ b o,X.s₀.heap.get? b=some o→b≠X.env.locals:=fun b o e=>Nat.ne_of_lt (Nat.lt_of_lt_of_le (Heap.lt_size e) I.ok.above)
 have tracked:HOk X.prog X.w H h':=fun b ob e=>by
  refine (I.hok b ob e).stay (fun c w' hc q=>(hs.2 c ?_).trans q) (fun _ q=>q) fun _ _ q=>q
  rintro rfl
  rcases hc with hc|hc
  ·rw [← hc,I.free] at e; cases e
  ·rw [I.free] at hc; cases hc
 refine ⟨I.ok,I.os,I.bare,⟨fun b o e n hb hx=>?_,fun b o e n hb hx=>?_,I.base.free,fun b o e hx=>?_,I.base.tups,I.base.frzs,I.base.tbls⟩,⟨m',hn,fun j y v' e1 e2 e3=>?_⟩,fun y c e=>?_,I.free,I.freeC,fun p hp=>?_,tracked,by simp⟩
 ·exact (hs.2 b (old b o e)).trans (I.base.keep b o e n hb hx)
 ·obtain ⟨sl,e1⟩:=I.base.slot b o e n hb hx
  exact ⟨sl,(hs.2 b (old b o e)).trans e1⟩
 ·obtain ⟨o',e1⟩:=I.base.there b o e hx
  exact ⟨o',(hs.2 b (old b o e)).trans e1⟩
 ·rw [List.getElem?_replicate] at e2
  split at e2<;>cases e2
 ·obtain ⟨w',z⟩:=I.cell y c e
  exact ⟨w',z.sameBut hs (cne y c e)⟩
 ·obtain ⟨e,n,ne,nf,d⟩:=I.pin p hp
  exact ⟨(hs.2 p.1 ne).trans e,n,ne,nf,d⟩
def isExc (a C:Addr) (h:Heap):Prop:=∃ o,h.get? a=some o∧o.cls=.ref C
theorem Fly.track {C:Addr} (I:Inv X pins σ H s) (F:Fly X.prog X.w X.stack H s B a (.ref C) a0 H' s'):Inv X pins σ (upd H' a (.ext (isExc a C))) s':=by
 obtain ⟨o,ho,hc⟩:=F.fly.there
 have ne:∀ b u,H' b=some u→b≠a:=fun b u e z=>by rw [z,F.new] at e; cases e
 refine I.call' (H':=upd H' a (.ext (isExc a C))) F.os (ch:=[]) ?_ ?_ F.bare fun b z=>absurd z (by simp)
 ·refine ⟨F.un.keep,F.un.slot,fun b o e n hx=>?_,F.un.there,fun b xs e=>?_,fun b o u e=>?_,fun b ps e=>?_⟩
  ·rw [upd_ne fun z=>by rw [z,F.old] at e; cases e]
   exact F.un.free b o e n hx
  ·have:=F.un.tups b xs e
   rw [upd_ne (ne b _ this)]; exact this
  ·have:=F.un.frzs b o u e
   rw [upd_ne (ne b _ this)]; exact this
  ·obtain ⟨more,this⟩:=F.un.tbls b ps e
   exact ⟨more,by rw [upd_ne (ne b _ this)]; exact this⟩
 ·intro b u e
  by_cases hb:b=a
  ·subst hb
   rw [upd_same] at e
   cases e
   exact ⟨⟨o,ho,hc⟩,⟨o,ho⟩,fun h1 h2 ⟨o1,e1,c1⟩ k=>⟨o1,k o1 e1,c1⟩⟩
  ·rw [upd_ne hb] at e
   refine (F.hok b u e).stay (fun _ _ _ q=>q) (fun c q=>?_) fun c xs q=>?_
   ·rw [upd_ne (ne c _ q)]; exact q
   ·rw [upd_ne (ne c _ q)]; exact q
end
section
variable {M:Model}{A:Around}{E:Value→Shared→Prop}{h:Heap}{g:Array GenState}{d:Drawn}{t:Nat}{os:OsState}
variable {nm q:Str}{C N:Addr}{bs bm:List Value}{hdct:Bool}{sn:List Str}{sub:List Value}{ab:Bool}{col:Option Bool}{dd:Option Addr}{k0 k1 k2 k3 k5:Option Value}{newId:String}
variable {nm' q':Str}{L N':Addr}{bs' bm':List Value}{hdct':Bool}{sn':List Str}{sub':List Value}{ab':Bool}{col':Option Bool}{dd':Option Addr}{k0' k1' k2' k3' k5':Option Value}{newId':String}
theorem excMatches_own {e:Addr} {oe:Obj} {Q:Bool→Shared→Prop} (hC:h.get? C=some (excClassObj nm q C N bs bm hdct sn sub ab col dd k0 k1 k2 k3 k5 newId)) (hL:h.get? L=some (excClassObj nm' q' L N' bs' bm' hdct' sn' sub' ab' col' dd' k0' k1' k2' k3' k5' newId')) (he:h.get? e=some oe) (hcls:oe.cls=.ref C) (hbase:bm'.contains (.type "BaseException")=true)
  (hs:(Value.ref C::bm).contains (.ref L)=true) (hq:Q true ⟨h,g,d,t,os⟩):wpAny M A (excMatches (.ref e) (.ref L)) Q E ⟨h,g,d,t,os⟩:=by
 have hcB:(Value.ref L::bm').contains (.type "BaseException")=true:=by rw [List.contains_cons,hbase,Bool.or_true]
 have f:=tc_notTuple
 unfold excMatches
 repeat (first|(with_reducible refine wpAny_loadPart_at he ?_; rw [hcls])|with_reducible refine wpAny_loadPart_at hL ?_|(with_reducible refine wpAny_isSubtype_exc hL ?_; rw [hcB])|(with_reducible refine wpAny_isSubtype_exc hC ?_; rw [hs])|wp_step)
 exact hq
end
section
variable {X:Cx}{pins:List (Addr × Obj)}{σ:L2.St}{H H':Hp}{s s':Shared}{B:Heap}{a C L:Addr}{a0:Value}{x:Str}{np hp:Pos}{b₀:Stmt}{suite:List Stmt}{rest:List ExceptHandler}{rt:VK}
noncomputable def rtOnly (rt:VK):Ends:={ nx:=fun _ _=>False,rt:=rt }
theorem sp_ret {D:Ends} {f:Flow} {s1:Shared} (ok:X.Ok) (hD:D.rt=rt) (h:SP (heldX X a) pins (rtOnly rt) f s1):SP X pins D f s1:=by
 cases f with
 | next=>obtain ⟨_,_,_,z⟩:=h; exact z.elim
 | brk=>obtain ⟨_,_,_,z⟩:=h; exact z.elim
 | cont=>obtain ⟨_,_,_,z⟩:=h; exact z.elim
 | ret u=>obtain ⟨v,σ',H',I,r,q⟩:=h; exact ⟨v,σ',H',invUnheld ok I,r,by rw [hD]; exact q⟩
theorem caught {D:Ends} (I:Inv X pins σ H s) (F:Fly X.prog X.w X.stack H s B a (.ref C) a0 H' s') (hst:X.stack=X.env::X.outer) (hf:X.env.frame=some X.env.locals) (hC:PySem.W.excIn X.K C bmV "ValueError.__new__" = true) (hL:PySem.W.excIn X.K L bmV "ValueError.__new__" = true) (hsub:mroHas X.K C (.ref L)=true)
  (hg:Gl X x) (hdb:(x == ("__debug__":Str))=false) (hm:X.mg x=some (.ref L)) (hD:D.rt=rt)
  (hs:PSs (heldX X a) (b₀::suite) (fun D' σ' H''=>D'=rtOnly rt∧σ'=σ∧H''=upd H' a (.ext (isExc a C)))) :
  wpAny (model X.prog X.w) X.A (noteFrame (.ref a) X.env) (fun _ s₂=>wpAny (model X.prog X.w) X.A (setFlight (.ref a) none) (fun _ s₃ =>
   wpAny (model X.prog X.w) X.A (handleBy (.ref a) X.env (.ExceptHandler (some (.Name x np)) none (b₀::suite) hp::rest)) (SP X pins D) X.xe s₃) X.xe s₂) X.xe s':=by
 refine wpAny_looks_onW (env:=X.env) (outer:=X.outer) (L:=X.env.locals) (by rw [← hst]; exact I.ok.frames) hf (by rw [← hst]; exact F.fly) fun h₄ held up4=>?_
 refine wpAny_landsW held fun h₅ fl5 up5=>?_
 have F5:=F.move (h2:=h₅) (by rw [hst]; exact fl5) (up4.trans up5)
 have I5:=F5.inv I
 refine wpAny_handleBy_cons (codeAny_handlers_test ?_) (by intro q; cases q)
 refine ld_glob (X:=heldX X a) (invHeld I5 a) hg hm ?_ hdb
 obtain ⟨nm1,qn1,N1,bs1,bm1,hdct1,sn1,sub1,ab1,col1,dd1,c0,c1,c2,c3,c5,ho1,ht1,_,_,mr1⟩:=xc_of hC
 obtain ⟨nm2,qn2,N2,bs2,bm2,hdct2,sn2,sub2,ab2,col2,dd2,d0,d1,d2,d3,d5,ho2,ht2,_,_,mr2⟩:=xc_of hL
 obtain ⟨oe,hoe,hoc⟩:=fl5.there
 refine excMatches_own (I5.kIn _ _ ho1) (I5.kIn _ _ ho2) hoe hoc ((PySem.W.tail_of_in I5.kIn ht2).hasType (by decide +kernel)) (by rw [← mr1]; exact hsub) ?_
 refine codeAny_handlers_suite (lands_againW fl5 fun h₆ fl6 up6=>?_)
 have F6:=F5.move (h2:=h₆) (by rw [hst]; exact fl6) up6
 have I6:=F6.track I
 exact wpAny_mono (hs pins _ σ _ (rtOnly rt) (invHeld I6 a) ⟨rfl,rfl,rfl⟩) (fun f s₇ h₇=>sp_ret I.ok hD h₇) fun _ _ z=>z.elim
theorem caughtAs {D:Ends} {n:Str} {i:Nat} (I:Inv X pins σ H s) (F:Fly X.prog X.w X.stack H s B a (.ref C) a0 H' s') (hst:X.stack=X.env::X.outer) (hf:X.env.frame=some X.env.locals) (hC:PySem.W.excIn X.K C bmV "ValueError.__new__" = true) (hL:PySem.W.excIn X.K L bmV "ValueError.__new__" = true) (hsub:mroHas X.K C (.ref L)=true)
  (hg:Gl X x) (hdb:(x == ("__debug__":Str))=false) (hm:X.mg x=some (.ref L)) (hD:D.rt=rt) (hN:X.N.Nodup) (hi:X.N[i]?=some n) (hlo:X.env.kindOf n=some .local)
  (hs:PSs (heldX X a) (b₀::suite) (fun D' σ' H''=>D'=rtOnly rt∧σ'=σ.set i (some (.ref a))∧H''=upd H' a (.ext (isExc a C)))) :
  wpAny (model X.prog X.w) X.A (noteFrame (.ref a) X.env) (fun _ s₂=>wpAny (model X.prog X.w) X.A (setFlight (.ref a) none) (fun _ s₃ =>
   wpAny (model X.prog X.w) X.A (handleBy (.ref a) X.env (.ExceptHandler (some (.Name x np)) (some n) (b₀::suite) hp::rest)) (SP X pins D) X.xe s₃) X.xe s₂) X.xe s':=by
 refine wpAny_looks_onW (env:=X.env) (outer:=X.outer) (L:=X.env.locals) (by rw [← hst]; exact I.ok.frames) hf (by rw [← hst]; exact F.fly) fun h₄ held up4=>?_
 refine wpAny_landsW held fun h₅ fl5 up5=>?_
 have F5:=F.move (h2:=h₅) (by rw [hst]; exact fl5) (up4.trans up5)
 have I5:=F5.inv I
 refine wpAny_handleBy_cons (codeAny_handlers_test ?_) (by intro q; cases q)
 refine ld_glob (X:=heldX X a) (invHeld I5 a) hg hm ?_ hdb
 obtain ⟨nm1,qn1,N1,bs1,bm1,hdct1,sn1,sub1,ab1,col1,dd1,c0,c1,c2,c3,c5,ho1,ht1,_,_,mr1⟩:=xc_of hC
 obtain ⟨nm2,qn2,N2,bs2,bm2,hdct2,sn2,sub2,ab2,col2,dd2,d0,d1,d2,d3,d5,ho2,ht2,_,_,mr2⟩:=xc_of hL
 obtain ⟨oe,hoe,hoc⟩:=fl5.there
 refine excMatches_own (I5.kIn _ _ ho1) (I5.kIn _ _ ho2) hoe hoc ((PySem.W.tail_of_in I5.kIn ht2).hasType (by decide +kernel)) (by rw [← mr1]; exact hsub) ?_
 refine codeAny_handlers_suite_as (lands_againW fl5 fun h₆ fl6 up6=>?_)
 have F6:=F5.move (h2:=h₆) (by rw [hst]; exact fl6) up6
 have I6:=F6.track I
 have hcls:(X.env.scope.kind == .class || (X.env.scope.kind == .module&&X.env.locals != X.env.globals))=false:=by rw [I.ok.kind]; rfl
 refine store_ok (X:=heldX X a) (v:=.ref a) (invHeld I6 a) hN hi (.inl hlo) rfl (fun s₇ I7=>?_) (.inr hlo)
 refine wpAny_mono (hs pins _ _ _ (rtOnly rt) I7 ⟨rfl,rfl,rfl⟩) (fun f s₈ h₈=>?_) fun _ _ z=>z.elim
 have h9:=sp_ret (D:={ D with nx:=fun _ _=>False,bk:=fun _ _=>False,ct:=fun _ _=>False }) I.ok hD h₈
 cases f with
 | next=>obtain ⟨_,_,_,z⟩:=h9; exact z.elim
 | brk=>obtain ⟨_,_,_,z⟩:=h9; exact z.elim
 | cont=>obtain ⟨_,_,_,z⟩:=h9; exact z.elim
 | ret u =>
  obtain ⟨v,σ',H9,I9,r,q⟩:=h9
  obtain ⟨m,hn,_⟩:=id I9.loc
  exact wpAny_nameGoes hlo hn hcls fun h' m' hn' hsb=>⟨v,_,H9,invGone I9 hn' hsb,r,q⟩
end
end Z
namespace Z
open PySem PySem.Spec PyProof.Rows L2
structure RoomM (k:Nat) (A:Around):Prop where
 dp:A.depth+3*k+5<recursionLimit
 un:A.units+16*k+200<cLine
theorem roomM {k:Nat} {A:Around} (r:Room k A):RoomM k A:=⟨r.dp,r.un⟩
theorem RoomM.mono {j k:Nat} {A:Around} (r:RoomM k A) (h:j≤k):RoomM j A:=⟨by have:=r.dp; omega,by have:=r.un; omega⟩
theorem RoomM.under {k:Nat} {A:Around} (r:RoomM (k+1) A) (env:Env):RoomM k (A.deeper env):=
 ⟨by have z:=r.dp; show A.depth+1+3*k+5<_; omega,by have z:=r.un; show A.units+3+16*k+200<_; omega⟩
structure FnM (P:Program) (w:World) (K:PySem.W.Frag) (mg:Str→Option Value) (base:Heap) (k:Nat) (f:Addr) (fd:FuncData) (ps:List Str) (sp:Sp):Prop where
 len:∀ vs H Q,sp vs H Q E0→vs.length=ps.length
 run:∀ (A:Around) (outer:List Env) (s:Shared) (H:Hp) (args:Args) (us:List Value) (vs:List V) (Q:VK),RoomM k A→Env0 P w K mg base A outer s H→BindsTo s fd args (ps.zip us)→Vals vs us→sp vs H Q E0 →
  codeAny (model P w) A (.call (.ref f) args) (CR CX0 outer P w H s Q E0) s
noncomputable def cxM (P:Program) (w:World) (K:PySem.W.Frag) (mg:Str→Option Value) (base:Heap) (N:List Str) (qual:Str) (sc:Scope) (f:Addr) (cd:Value) (A:Around) (outer:List Env) (s:Shared) (H:Hp):Cx:=
 {cxOf CX0 P w K mg base N qual sc f cd A outer s H E0 with calm:=false,xe:=fun _ _=>False }
theorem env0_calm {P:Program} {w:World} {K:PySem.W.Frag} {mg:Str→Option Value} {base:Heap} {A:Around} {outer:List Env} {s:Shared} {H:Hp} (e:Env0 P w K mg base A outer s H):Env0 P w K mg base { A with handled:=none } outer s H:=
 ⟨e.frames,e.mod,e.bs,e.bsz,e.funs,e.frf,e.hok,e.bare⟩
theorem inv_calm {P:Program} {w:World} {K:PySem.W.Frag} {mg:Str→Option Value} {base:Heap} {N:List Str} {qual:Str} {sc:Scope} {f:Addr} {cd:Value} {A:Around} {outer:List Env} {s s1:Shared} {H:Hp} {σ:L2.St}
  (hfr:A.frames=some outer) (I:Inv (cxOf CX0 P w K mg base N qual sc f cd { A with handled:=none } outer s H E0) [] σ H s1):Inv (cxM P w K mg base N qual sc f cd A outer s H) [] σ H s1:=
 ⟨⟨I.ok.mod,I.ok.kind,I.ok.glob,I.ok.blt,I.ok.above,I.ok.inj,I.ok.has,I.ok.cab,(fun z=>by cases z),Around.frames_deeper hfr,I.ok.stk,I.ok.exf,I.ok.bs,I.ok.bsz,I.ok.noex,I.ok.exfs,I.ok.funs,I.ok.frf⟩,
  I.os,I.bare,I.base,I.loc,I.cell,I.free,I.freeC,I.pin,I.hok,I.len⟩
theorem fnM_of {P:Program} {w:World} {K:PySem.W.Frag} {mg:Str→Option Value} {base:Heap} {k:Nat} {x qual:Str} {st:Stmt} {f:Addr} {fd:FuncData} {N ps:List Str} {sp:Sp} (F:Fun K x qual st f fd) (fs:FnScope N ps (defScope st)) (len:∀ vs H Q,sp vs H Q E0→vs.length=ps.length)
  (hb:∀ (cd:Value) (A:Around) (outer:List Env) (s:Shared) (H:Hp) (vs:List V) (Q:VK),RoomM k (A.deeper (envOfC qual (defScope st) s.heap.objs.size f cd))→sp vs H Q E0 →
   ∃ t,PSs (cxM P w K mg base N qual (defScope st) f cd A outer s H) (defBody st) t∧t { nx:=fun _ H'=>Q .non H',rt:=Q } (L2.start N vs) H):FnM P w K mg base (k+1) f fd ps sp:=by
 obtain ⟨oc,od,kV,doc,pm,an,cdv,ct,osl,rfl,lk,hcd⟩:=F.ex
 refine ⟨len,fun A outer s H args us vs Q hr e0 hbt r hsp=>?_⟩
 have hl:=len _ _ _ hsp
 have kin:K.In s.heap:=e0.mod.kin.keeps fun b o e=>(e0.bs b o e).1
 have lim:s.heap.NoLimit:=e0.mod.nolimit.keeps fun b o e=>(e0.bs b o e).1
 refine codeAny_call_function (by have:=hr.dp; omega) (kin _ _ lk) rfl fs.co fs.gen rfl (PySem.W.codeRec_of kin hcd) (hbt _ _ _ _ ?_)
 refine wpAny_newFunctionEnv_cells fs.kind ?_ fun env he s1 y=>?_
 ·rintro ⟨n,v⟩ hy
  rcases fs.par n (List.of_mem_zip hy).1 with q|q
  ·exact Or.inl q
  ·exact Or.inr ⟨q,PySem.W.cellsFrom_some _ _ _ (Or.inl q)⟩
 subst he
 refine ⟨lim.keeps y.toInCall.keep,codeAny_func ?_⟩
 obtain ⟨t,ht,hq⟩:=hb cdv A outer s H vs Q (hr.under _) hsp
 have I:=inv_calm e0.frames (inv_start (A:={ A with handled:=none }) fs rfl (env0_calm e0) hl r y)
 refine wpAny_mono (ht [] s1 _ H _ I hq) (fun fl s' hs=>?_) fun e s' z=>z.elim
 cases fl with
 | ret u =>
  obtain ⟨v,σ',H',J,rv,q⟩:=hs
  exact ⟨v,H',J.os,J.bare,J.base,J.hok,rv,q⟩
 | next =>
  obtain ⟨σ',H',J,q⟩:=hs
  exact ⟨.non,H',J.os,J.bare,J.base,J.hok,rfl,q⟩
 | brk=>obtain ⟨_,_,_,q⟩:=hs; exact q.elim
 | cont=>obtain ⟨_,_,_,q⟩:=hs; exact q.elim
theorem pe_callM {X:Cx} {k:Nat} {f:Addr} {fd:FuncData} {ps:List Str} {sp:Sp} {x:Str} {p pos:Pos} {e:Expr} {es:List Expr} {t:TA} (F:FnM X.prog X.w X.K X.mg X.base k f fd ps sp) (hr:RoomM k X.A) (hg:Gl X x) (hm:X.mg x=some (.ref f)) (hk:PySem.W.keepIn X.K (.ref f)=true) (hb:Binds X.K fd ps [])
  (ha:PA X (e::es) t) (hdb:(x == ("__debug__":Str))=false) (he:starEach (e::es) X.env=(false,eval e X.env)::starEach es X.env) (hpl:(backTo pos (starEach es X.env)).any (·.1)=false) :
  PE X (.Call (.Name x p) (e::es) [] pos) (tCall sp [] E0 t):=by
 intro pins s σ H Q I h
 refine wpAny_Call_Name_kw (ld_glob I hg hm ?_ hdb)
 refine PySem.W.callWith_K (h₀:=X.base) I.ok.mod.kin hk (thn (ha pos pins s σ H _ I h) fun us s1 hh=>?_) he hpl
 obtain ⟨vs,H1,I1,r,q⟩:=hh
 refine ⟨I1.kIn,?_⟩
 rw [List.append_nil] at q
 have hl:(us++[]).length=ps.length:=by rw [List.append_nil,← r.length]; exact F.len _ _ _ q
 have hbd:=hb s1 us I1.kIn hl
 rw [List.append_nil] at hbd
 refine wpAny_call (codeAny_mono (F.run X.A X.stack s1 H1 ⟨us,[]⟩ us vs Q hr I1.env0 hbd r q) fun rr s2 hq=>?_)
 cases rr with
 | error e=>exact hq.elim
 | ok fl =>
  cases fl with
  | ret u=>exact I1.after hq
  | next=>exact hq.elim
  | brk=>exact hq.elim
  | cont=>exact hq.elim
end Z
namespace Z
open PySem PySem.Spec PyProof.Rows L2
structure XcK (K:PySem.W.Frag) (C:Addr):Prop where
 ga:PySem.W.findIn K (.ref C) "__getattribute__" = some (some (.builtin "BaseException.__getattribute__"))
 gn:PySem.W.findIn K (.ref C) "__getattr__" = some none
 ha:PySem.W.findIn K (.ref C) "__class__" = some (some (.builtin "object.__class__"))
 hn:PySem.W.specialIn K (.builtin "object.__class__") "__get__" = some (some (.builtin "getset_descriptor.__get__"))
 tk:PySem.W.takesIn K (.builtin "object.__class__")=some true
 hm:PySem.W.mroIn K C (.type "object")=some true
 hb:PySem.W.mroIn K C (.type "BaseException")=some true
theorem XcK.cl {K:PySem.W.Frag} {C:Addr} (F:XcK K C):(PySem.W.clsIn K C).isSome=true:=by
 have h:=F.hm
 unfold PySem.W.mroIn at h
 obtain ⟨cd,h1,_⟩:=Option.bind_eq_some_iff.mp h
 rw [h1]; rfl
section
open PySem.W PySem.Builtin PySem.Builtin.ObjectAttr PySem.Builtin.Getset_descriptor
variable {K:PySem.W.Frag}{x C:Addr}
theorem exc_ty {M:Model} {h:Heap} (p:isExc x C h):Looks M h (typeOf (.ref x)) (.ref C):=by
 obtain ⟨o,e,c⟩:=p
 exact c ▸ (Looks.ld e).andThen .now
theorem cls_at {h:Heap} (k:K.In h) (z:(clsIn K C).isSome=true):(∃ c d cd sl,h.get? C=some ⟨c,d,.cls cd,sl⟩)∧∀ M:Model,Looks M h (isType (.ref C)) true:=by
 unfold clsIn at z
 split at z
 ·rename_i c d cd sl ho
  refine ⟨⟨c,d,cd,sl,k _ _ ho⟩,fun M A Q E s kk q=>?_⟩
  unfold isType loadHead
  exact wpAny_bind (wpAny_loadPart (kk _ _ (k _ _ ho)) (wpAny_pure q))
 ·cases z
theorem exc_get {prog:Program} {w:World} {A:Around} {R:Result→Shared→Prop} {s:Shared} {tp:Value} (F:XcK K C) (k:K.In s.heap) (p:isExc x C s.heap) (q:R (.ok (.ret (.ref C))) s) :
  codeAny (model prog w) A (.call (.builtin "getset_descriptor.__get__") ⟨[.builtin "object.__class__",.ref x,tp],[]⟩) R s:=by
 obtain ⟨hp,gs,dr,tks,oss⟩:=s
 have lt:Looks (model prog w) hp (typeOf (.ref x)) (.ref C):=exc_ty p
 have lm:=looks_mroIn (M:=model prog w) k F.hm
 refine codeAny_call_builtin KF.slot_gs.plain KF.entry_gs (KF.slot_gs.check _ _ _ _ _ _ _ _ KF.type_class (KF.args_gs _ _ _) ?_)
 unfold Builtin.«getset_descriptor.__get__»
 unfold descrGet
 rw [dga_obj]
 refine wpAny_bind (wpAny_pure ?_)
 unfold descrGetter
 unfold descrCheckInstance descrNameAndClass
 unfold isInstance
 simp only [KF.owner_class]
 repeat lk
 refine ⟨Code.quiet_builtin _ (by decide +kernel),?_⟩
 refine codeAny_builtin KF.entry_class ?_
 unfold Builtin.«object.__class__»
 unfold shownTypeOf
 repeat lk
 exact q
theorem exc_entry {prog:Program} {w:World} {A:Around} {E:Value→Shared→Prop} {s:Shared} {tk:Tok} {Q:Fin→Shared→Prop} (F:XcK K C) (k:K.In s.heap) (p:isExc x C s.heap) (q:Q (.done (.ret (.ref C))) s) :
  wpAny (model prog w) A (Builtin.«object.__getattribute__» ⟨[.ref x,.str "__class__" tk],[]⟩) Q E s:=by
 obtain ⟨hp,gs,dr,tks,oss⟩:=s
 have lt:Looks (model prog w) hp (typeOf (.ref x)) (.ref C):=exc_ty p
 have lf:Looks (model prog w) hp (find (.ref x) (.ref C) "__class__") (.bind (.builtin "getset_descriptor.__get__") (.builtin "object.__class__")):=
  (looks_findIn k F.ha).andThen ((looks_specialIn k F.hn).andThen ((show Looks (model prog w) hp (dataDescriptor? (some (.builtin "object.__class__")) (some (.builtin "getset_descriptor.__get__"))) (some (.builtin "getset_descriptor.__get__",.builtin "object.__class__")) from (looks_takesIn k F.tk).andThen .now).andThen (Looks.tag .now)))
 unfold Builtin.«object.__getattribute__»
 refine wpAny_bind (wpAny_of_eq (a:=(Value.ref x,[Value.str "__class__" tk])) (by rfl) ?_)
 refine wpAny_bind (wpAny_pure (wpAny_bind (lt.at (wpAny_bind (lf.at ?_)))))
 show wpAny _ _ (holding [Value.builtin "object.__class__"] (call (.builtin "getset_descriptor.__get__") [.builtin "object.__class__",.ref x,.ref C]) >>= ret) _ _ _
 exact wpAny_bind (wpAny_holding (wpAny_mono (wpAny_call (exc_get (R:=fun r s'=>match r with | .ok (.ret v)=>Q (.done (.ret v)) s' | .ok _=>False | .error e=>E e s') F k p (tp:=.ref C) q)) (fun v s' z=>wpAny_pure z) fun _ _ z=>z))
theorem exc_check {M:Model} {A:Around} {E:Value→Shared→Prop} {s:Shared} {v:Value} {Q:Unit→Shared→Prop} (F:XcK K C) (k:K.In s.heap) (p:isExc x C s.heap) (q:Q () s) :
  wpAny M A (checkBuiltinCall "BaseException.__getattribute__" ⟨[.ref x,v],[]⟩) Q E s:=by
 obtain ⟨hp,gs,dr,tks,oss⟩:=s
 have lt:Looks M hp (typeOf (.ref x)) (.ref C):=exc_ty p
 have lb:=looks_mroIn (M:=M) k F.hb
 have hk:builtinKind "BaseException.__getattribute__" = some .slot:=by decide +kernel
 have hsp:splitId "BaseException.__getattribute__" = some ("BaseException","__getattribute__"):=by decide +kernel
 have har:=PySem.F.args_bexc_ga (.ref x) v
 simp only [checkBuiltinCall,hk,hsp]
 refine wpAny_bind ?_
 unfold isInstance
 refine wpAny_bind (lt.at (lb.at ?_))
 simp only [Bool.not_true,Bool.false_eq_true,if_false]
 repeat wp_step
 exact q
theorem exc_cls {prog:Program} {w:World} {A:Around} {E:Value→Shared→Prop} {Q:Option Value→Shared→Prop} {s:Shared} (F:XcK K C) (k:K.In s.heap) (p:isExc x C s.heap) (q:Q (some (.ref C)) { s with toks:=s.toks+1 }) :
  wpAny (model prog w) A (getAttr? (.ref x) "__class__") Q E s:=by
 obtain ⟨hp,gs,dr,tks,oss⟩:=s
 have lt:Looks (model prog w) hp (typeOf (.ref x)) (.ref C):=exc_ty p
 have lg:=looks_findIn (M:=model prog w) k F.ga
 have lh:=looks_findIn (M:=model prog w) k F.gn
 have lb:=looks_mroIn (M:=model prog w) k F.hb
 have hx2:(Value.builtin "BaseException.__getattribute__" == Value.builtin "object.__getattribute__")=false:=by decide +kernel
 have hk:builtinKind "BaseException.__getattribute__" = some .slot:=by decide +kernel
 have hsp:splitId "BaseException.__getattribute__" = some ("BaseException","__getattribute__"):=by decide +kernel
 unfold getAttr? getAttrBy? getAttrBy
 refine wpAny_bind (wpAny_mkText (wpAny_bind (wpAny_attempt (wpAny_holding (wpAny_bind (lt.at (wpAny_bind (lg.at ?_))))))))
 dsimp only
 rw [hx2,Bool.and_false,if_neg (by decide)]
 unfold getAttrByItsOwn hookBefore
 refine wpAny_bind ?_
 rw [if_pos (show onTheHeap (Value.ref C)=true from rfl)]
 refine lh.at ?_
 refine wpAny_bind (wpAny_attempt (wpAny_holding ?_))
 unfold callGetattribute
 rw [Bool.false_and,if_neg (by decide)]
 unfold boundAndCalled
 refine wpAny_bind (wpAny_of_eq (PySem.F.attrBase_ValueError.ga.bind (.ref x)) ?_)
 refine wpAny_call (codeAny_call_builtin PySem.F.attrBase_ValueError.ga.plain PySem.F.entry_bexc_ga ?_)
 refine exc_check F k p ?_
 refine wpAny_mono (exc_entry (Q:=fun fin s'=>fin=.done (.ret (.ref C))∧s'=⟨hp,gs,dr,tks+1,oss⟩) (E:=fun _ _=>False) F k p ⟨rfl,rfl⟩) (fun fin s' z=>?_) fun _ _ z=>z.elim
 obtain ⟨rfl,rfl⟩:=z
 exact handed_on rfl (wpAny_pure q)
theorem kitx_exc (F:XcK K C):KitX K (.ref x) (.ref C) (isExc x C) where
 ty:=fun _ _ _ p=>exc_ty p
 it:=fun M _ k _=>(cls_at k F.cl).2 M
 ne:=fun h tp dd its n sl k htp=>by
  obtain ⟨⟨c,d,cd,sl',e⟩,_⟩:=cls_at k F.cl
  refine Bool.eq_false_iff.mpr fun q=>?_
  have ee:C=tp:=Value.ref.inj (beq_iff_eq.mp q)
  rw [ee,htp] at e
  cases e
 ca:=fun k p q=>exc_cls F k p q
end
end Z
namespace Z
open PySem
end Z
namespace Z
open PySem PySem.Spec PyProof.Rows L2
def Fresh (K:PySem.W.Frag) (T:Tx) (S:Addr→Prop) (H H':Hp) (d:D) (v:V):Prop:=∀ ds,d=.lst ds→∃ p xs,v=.ref p∧H p=none∧H' p=some (.lst xs)∧RepL K T (er H' p) S ds xs
def spD (K:PySem.W.Frag) (T:Tx) (n:Nat) (f:List D→Option Rs) (fr:Bool):Sp:=fun vs H Q E=>vs.length=n∧∃ (S:Addr→Prop) (ds:List D),(∀ a,S a→∃ o,H a=some o)∧RepL K T H S ds vs ∧
 ((∃ d,f ds=some (.ok d)∧∀ v H',Same H H'→Rep K T H' S d v→(fr=true→Fresh K T S H H' d v)→Q v H') ∨
  (∃ c C,f ds=some (.er c)∧T.xc c=some C∧∀ H',Same H H'→E (.ref C) none H'))
def spMk (K:PySem.W.Frag) (T:Tx) (C:Addr) (n:Nat) (g:List D→Option Rs):Sp:=fun vs H Q _=>vs.length=n∧∃ (p dx:Addr) (ws:List V) (S:Addr→Prop) (ds:List D) (d:D),vs=.ref p::ws∧H p=some (.ins C dx [])∧S p∧(∀ a,S a→∃ o,H a=some o) ∧
 RepL K T H S ds ws∧g ds=some (.ok d)∧∀ H',(∀ b o,b≠p→H b=some o→H' b=some o)→(∀ S':Addr→Prop,(∀ a,S' a→S a∧a≠p)→Rep K T H' S' d (.ref p))→Q .non H'
noncomputable def biNames:List Str:=["len","int","list","tuple","max","min","str","sorted","any","range","reversed","enumerate","isinstance","bool","ValueError","all"]
def spW (C:Addr) (x:Str):Sp:=fun vs H Q _=>∃ a,vs=[.ref a]∧H a=some (.ext (isExc a C))∧∀ H',Same H H'→Q (.str x) H'
def DkOk (X:Cx) (T:Tx) (a:Addr) (kvs:List (Str × D)):Prop:=(a == sysModules)=false∧∃ o vs,X.K.lookup a=some o∧o.IsDictOf (mixKind X.prog X.w) vs∧(∀ k,(valueAt vs (Sum.inr k)).isSome=(kvs.lookup k).isSome) ∧
 ∀ k d u,kvs.lookup k=some d→valueAt vs (Sum.inr k)=some u→∃ v,RelV v u∧∀ (H:Hp) (S:Addr→Prop),(∀ a o,X.K.lookup a=some o→H a=none)→(∀ a,S a→∃ o,H a=some o)→Rep X.K T H S d v
structure GOK (CX:CXT) (X:Cx) (c:CC) (G:GS) (T:Tx) (lv:Nat):Prop where
 fn:∀ x,c.fns.contains x=true→∃ f fd ps,X.mg x=some (.ref f)∧PySem.W.keepIn X.K (.ref f)=true∧Binds X.K fd ps []∧(∀ ds r,G.fn x ds=some r→ds.length=ps.length) ∧
  FnOk X.prog X.w X.K X.mg X.base CX lv f fd ps (spD X.K T ps.length (G.fn x) (G.ff x))
 me:∀ cn C m ds r,T.cl cn=some C→G.me cn m ds=some r→∃ f fd ps,Meth X.K C m f∧Binds X.K fd ps []∧(∀ ds r,G.me cn m ds=some r→ds.length=ps.length) ∧
  FnOk X.prog X.w X.K X.mg X.base CX lv f fd ps (spD X.K T ps.length (G.me cn m) (G.mf cn m))
 cls:∀ cn C,T.cl cn=some C→Cls X.K C
 fld:∀ cn C f,T.cl cn=some C→(G.fl cn).contains f=true→NoAttr X.K C f
 mo:∀ x,c.cls.contains x=true→∀ ds d,G.mo x ds=some (.ok d)→∃ C f fd ps j,j+1≤lv∧X.mg x=some (.ref C)∧Mk X.K C f∧Binds X.K fd ps []∧ds.length+1=ps.length ∧
  FnOk X.prog X.w X.K X.mg X.base CX j f fd ps (spMk X.K T C ps.length (G.mo x))
 cst:∀ x d,G.cst x=some d→c.csts.contains x=true→∃ u v,X.mg x=some u∧RelV v u∧∀ (H:Hp) (S:Addr→Prop),(∀ a o,X.K.lookup a=some o→H a=none)→(∀ a,S a→∃ o,H a=some o)→Rep X.K T H S d v
 bi:∀ x,biNames.contains x=true→c.fns.contains x=false→c.cls.contains x=false→X.mg x=none
 xcl:∀ x C,T.xc x=some C→X.mg x=some (.ref C)
 frs:∀ x,c.fresh.contains x=true→G.ff x=true∧∀ cn,G.mf cn x=true
 cx0:∀ outer H s e s',CX outer H s E0 e s'→False
 cxf:∀ outer H s E e s',CX outer H s E e s'→FlyX X.prog X.w outer H s E e s'
 xns:∀ k,G.xn k=true→∃ C,T.xc k=some C
 xk:∀ k C,T.xc k=some C→PySem.W.excIn X.K C bmV "ValueError.__new__" = true
 sub:∀ k k' C C',T.xc k=some C→T.xc k'=some C'→G.sub k k'=true→mroHas X.K C (.ref C')=true
 wd:∀ f k x C,T.xc k=some C→G.wd f k=some x→∃ fa fd ps j,j≤lv∧X.mg f=some (.ref fa)∧PySem.W.keepIn X.K (.ref fa)=true∧Binds X.K fd ps []∧FnM X.prog X.w X.K X.mg X.base j fa fd ps (spW C x)
 dk:∀ x kvs,G.dk x=some kvs→∃ a,X.mg x=some (.ref a)∧DkOk X T a kvs
def KindOk (k:Option NameKind) (k':Option NameKind):Prop:=match k with
 | some .local=>k'=some .local
 | some .cell=>k'=some .cell
 | some .free=>k'=some .free∨k'=some .cell
 | some .globalImplicit=>k'=some .globalImplicit
 | _=>True
structure XC (CX:CXT) (X:Cx) (c:CC) (G:GS) (T:Tx) (lv:Nat):Prop where
 N:X.N=c.N
 nd:c.N.Nodup
 kd:∀ x,KindOk (c.sc.names.lookup x) (X.env.kindOf x)
 own:∀ x,c.sc.names.lookup x=some .cell→X.fn x=true
 dbg:∀ x ∈ c.N,(x == ("__debug__":Str))=false∧(x == ("__classdict__":Str))=false
 gdb:isGlob c "__debug__" = false
 calm:X.calm=true
 room:Room lv X.A
 go:GOK CX X c G T lv
section
variable {CX:CXT}{X:Cx}{c:CC}{G:GS}{T:Tx}{lv:Nat}
theorem XC.units (h:XC CX X c G T lv):X.A.units+64<cLine:=h.room.units
theorem XC.glob (h:XC CX X c G T lv) {x:Str} (e:isGlob c x=true):Gl X x:=by
 have k:=h.kd x
 have e':c.sc.names.lookup x=some .globalImplicit:=by
  unfold isGlob at e
  exact beq_iff_eq.mp e
 rw [e'] at k
 exact k
theorem XC.gne (h:XC CX X c G T lv) {x:Str} (e:isGlob c x=true):(x == ("__debug__":Str))=false:=by
 cases q:x == ("__debug__":Str) with
 | false=>rfl
 | true =>
  have q':x = "__debug__":=beq_iff_eq.mp q
  subst q'
  rw [h.gdb] at e; cases e
theorem idx_get {α:Type} [DecidableEq α] [BEq α] [LawfulBEq α]:∀ {l:List α} {x:α} {i:Nat},l.idxOf? x=some i→l[i]?=some x:=by
 intro l x i h
 unfold List.idxOf? at h
 rw [List.findIdx?_eq_some_iff_getElem] at h
 obtain ⟨h1,h2,_⟩:=h
 rw [List.getElem?_eq_getElem h1]
 exact congrArg some (beq_iff_eq.mp h2)
theorem slot_at {x:Str} {i:Nat} (e:slotOf c x=some i):c.N[i]?=some x∧(c.sc.names.lookup x=some .local∨c.sc.names.lookup x=some .cell∨c.sc.names.lookup x=some .free):=by
 unfold slotOf at e
 split at e
 ·rename_i h; exact ⟨idx_get e,.inl h⟩
 ·rename_i h; exact ⟨idx_get e,.inr (.inl h)⟩
 ·rename_i h; exact ⟨idx_get e,.inr (.inr h)⟩
 ·cases e
theorem XC.vis (h:XC CX X c G T lv) {x:Str} (e:c.sc.names.lookup x=some .local∨c.sc.names.lookup x=some .cell∨c.sc.names.lookup x=some .free):Vis X.env.scope x:=by
 have k:=h.kd x
 rcases e with e|e|e
 ·rw [e] at k; exact .inl k
 ·rw [e] at k; exact .inr (.inl k)
 ·rw [e] at k
  rcases k with k|k
  ·exact .inr (.inr k)
  ·exact .inr (.inl k)
theorem nameT_at {x:Str} {p:Pos} {i:Nat} (e:nameT c (.Name x p)=some i):c.N[i]?=some x∧(c.sc.names.lookup x=some .local∨c.sc.names.lookup x=some .cell):=by
 simp only [nameT] at e
 split at e
 ·rename_i h; exact ⟨idx_get e,.inl h⟩
 ·rename_i h; exact ⟨idx_get e,.inr h⟩
 ·cases e
theorem XC.loc (h:XC CX X c G T lv) {x:Str} (e:c.sc.names.lookup x=some .local∨c.sc.names.lookup x=some .cell):Loc X.env.scope x∧(X.fn x=true∨X.env.scope.names.lookup x=some .local):=by
 have k:=h.kd x
 rcases e with e|e
 ·rw [e] at k; exact ⟨.inl k,.inr k⟩
 ·have o:=h.own x e
  rw [e] at k; exact ⟨.inr k,.inl o⟩
theorem kfree {pins:List (Addr × Obj)} {σ:L2.St} {H:Hp} {s:Shared} (I:Inv X pins σ H s):∀ a o,X.K.lookup a=some o→H a=none:=fun a o e=>(I.bs a o (I.mod.kin a o e)).2
def gD (K:PySem.W.Frag) (T:Tx) (S:Addr→Prop) (is:List Nat) (ρ ρ1:List Sl) (d:D):TG:=fun v σ H Q=>RE K T H S ρ σ∧Rep K T H S d v∧∀ σ',RE K T H S ρ1 σ'→(∀ j,j ∉ is→σ'[j]?=σ[j]?)→Q σ' H
theorem RE.set {K:PySem.W.Frag} {H:Hp} {S:Addr→Prop} {ρ:List Sl} {σ:L2.St} {i:Nat} {d:D} {v:V} (re:RE K T H S ρ σ) (r:Rep K T H S d v):RE K T H S (ρ.set i (.im d)) (σ.set i (some v)):=by
 refine ⟨re.dom,by simp [re.len],fun j s e=>?_⟩
 by_cases hj:j=i
 ·subst hj
  have hl:j<ρ.length:=by
   have:=(List.getElem?_eq_some_iff.mp e).1
   simpa using this
  rw [List.getElem?_set_self hl] at e
  cases e
  rw [List.getElem?_set_self (by rw [← re.len]; exact hl)]
  exact ⟨v,rfl,r⟩
 ·rw [List.getElem?_set_ne (Ne.symm hj)] at e ⊢
  exact re.at_ j s e
noncomputable def gDs (K:PySem.W.Frag) (T:Tx) (S:Addr→Prop) (is:List Nat) (ρ ρ1:List Sl) (ds:List D):TGs:=fun vs σ H Q=>RE K T H S ρ σ∧RepL K T H S ds vs∧∀ σ',RE K T H S ρ1 σ'→(∀ j,j ∉ is→σ'[j]?=σ[j]?)→Q σ' H
theorem assignEach_names (env:Env):∀ {es:List Expr} {is:List Nat},namesT c es=some is→(assignEach es env).map (·.2)=es.map (fun e=>assign e env)∧(assignEach es env).length=es.length∧(assignEach es env).findIdx? (·.1)=none:=by
 intro es
 induction es with
 | nil=>intro is _; exact ⟨rfl,rfl,rfl⟩
 | cons e es ih =>
  intro is h
  simp only [namesT,Option.bind_eq_bind,Option.bind_eq_some_iff] at h
  obtain ⟨i,h1,r,h2,_⟩:=h
  obtain ⟨a1,a2,a3⟩:=ih h2
  cases e<;>simp only [nameT,reduceCtorEq] at h1
  rename_i x p
  refine ⟨?_,?_,?_⟩
  ·show assign (.Name x p) env::(assignEach es env).map (·.2)=_
   rw [a1]; rfl
  ·show (assignEach es env).length+1=_
   rw [a2]; rfl
  ·show List.findIdx? (·.1) ((false,assign (.Name x p) env)::assignEach es env)=none
   rw [List.findIdx?_cons,a3]; rfl
theorem pgs_D (h:XC CX X c G T lv) {S:Addr→Prop}:∀ {es:List Expr} {is:List Nat} {ds:List D} {ρ ρ1:List Sl},namesT c es=some is→bindEach is ds ρ=some ρ1→PGs X es (gDs X.K T S is ρ ρ1 ds):=by
 intro es
 induction es with
 | nil =>
  intro is ds ρ ρ1 h1 h2
  simp only [namesT] at h1
  cases h1
  cases ds with
  | nil =>
   simp only [bindEach] at h2
   cases h2
   intro pins s σ H vs us Q I r ⟨re,rl,q⟩
   unfold RepL at rl
   exact pgs_nil pins s σ H vs us Q I r ⟨rl,q σ re fun _ _=>rfl⟩
  | cons d ds=>simp [bindEach] at h2
 | cons e es ih =>
  intro is ds ρ ρ1 h1 h2
  simp only [namesT,Option.bind_eq_bind,Option.bind_eq_some_iff] at h1
  obtain ⟨i,h1,r,h3,h4⟩:=h1
  cases h4
  cases ds with
  | nil=>simp [bindEach] at h2
  | cons d ds =>
   simp only [bindEach] at h2
   have hs:=(assignEach_names (c:=c) X.env (es:=e::es) (is:=i::r) (by simp [namesT,h1,h3])).1
   have hs2:=(assignEach_names (c:=c) X.env h3).1
   cases e<;>simp only [nameT,reduceCtorEq] at h1
   rename_i x p
   have h1':nameT c (.Name x p)=some i:=h1
   obtain ⟨hN,hk⟩:=nameT_at h1'
   obtain ⟨hl,hf⟩:=h.loc hk
   have p1:PG X (.Name x p) (gName i):=pg_name (by rw [h.N]; exact h.nd) (by rw [h.N]; exact hN) hl hf
   have p2:=pgs_cons p1 (ih h3 h2) (by rw [hs,hs2]; rfl)
   intro pins s σ H vs us Q I rv ⟨re,rl,q⟩
   unfold RepL at rl
   obtain ⟨y,w,e1,ry,rw'⟩:=rl
   refine p2 pins s σ H vs us Q I rv ⟨y,w,e1,?_⟩
   refine ⟨re.set ry,rw',fun σ2 re2 ag=>q σ2 re2 fun j hj=>?_⟩
   rw [ag j fun z=>hj (List.mem_cons_of_mem _ z),List.getElem?_set_ne (fun z=>hj (by rw [z]; simp))]
theorem pg_D (h:XC CX X c G T lv) {S:Addr→Prop} {tg:Expr} {is:List Nat} {tp:Bool} {d:D} {ρ ρ1:List Sl} (h1:targetN c tg=some (is,tp)) (h2:bindT is tp d ρ=some ρ1):PG X tg (gD X.K T S is ρ ρ1 d):=by
 cases tg<;>simp only [targetN,reduceCtorEq,Option.map_eq_some_iff,Prod.mk.injEq] at h1
 ·rename_i x p
  obtain ⟨i,h3,rfl,rfl⟩:=h1
  simp only [bindT,Bool.false_eq_true,if_false,bindEach] at h2
  cases h2
  obtain ⟨hN,hk⟩:=nameT_at h3
  obtain ⟨hl,hf⟩:=h.loc hk
  have p1:PG X (.Name x p) (gName i):=pg_name (by rw [h.N]; exact h.nd) (by rw [h.N]; exact hN) hl hf
  intro pins s σ H v u Q I rv ⟨re,rd,q⟩
  exact p1 pins s σ H v u Q I rv (q _ (re.set rd) fun j hj=>List.getElem?_set_ne (fun z=>hj (by rw [z]; simp)))
 ·rename_i es k p
  obtain ⟨is',h3,rfl,rfl⟩:=h1
  simp only [bindT,if_true] at h2
  cases d<;>simp only [reduceCtorEq] at h2
  rename_i ds
  obtain ⟨a1,a2,a3⟩:=assignEach_names (c:=c) X.env h3
  have p1:=pg_tup (pos:=p) (k:=k) (n:=es.length) h.calm (pgs_D h (S:=S) h3 h2) a2 a3
  intro pins s σ H v u Q I rv ⟨re,rd,q⟩
  unfold Rep at rd
  obtain ⟨a,xs,ev,_,e,rl⟩:=rd
  refine p1 pins s σ H v u Q I rv ⟨a,xs,ev,e,?_,re,rl,q⟩
  have l1:=rl.len
  have l2:is'.length=es.length:=by
   clear p1 a1 a2 a3 rl h2 q
   induction es generalizing is' with
   | nil=>simp only [namesT] at h3; cases h3; rfl
   | cons e es ih =>
    simp only [namesT,Option.bind_eq_bind,Option.bind_eq_some_iff] at h3
    obtain ⟨i,_,r,h4,h5⟩:=h3
    cases h5
    simp only [List.length_cons,Nat.add_right_cancel_iff]
    exact ih r h4
  have l3:∀ {is:List Nat} {ds:List D} {ρ ρ1:List Sl},bindEach is ds ρ=some ρ1→is.length=ds.length:=by
   intro is
   induction is with
   | nil=>intro ds ρ ρ1 z; cases ds<;>simp_all [bindEach]
   | cons i is ih =>
    intro ds ρ ρ1 z
    cases ds with
    | nil=>simp [bindEach] at z
    | cons d ds=>simp only [bindEach] at z; simp [ih z]
  rw [← l1,← l3 h2,l2]
end
def ItD (K:PySem.W.Frag) (T:Tx) (S:Addr→Prop) (H0:Hp) (J:It) (ds:List D):Prop:=∀ (H:Hp) (S':Addr→Prop),Moves K H0 H S S'→(∀ a,S' a→∃ o,H a=some o) →
 (∀ i d,ds[i]?=some d→J.go i H∧∀ x H',J.yld i H x H'→Same H H'∧Rep K T H' S' d x)∧∀ i,ds.length≤i→J.stop i H
def tI (K:PySem.W.Frag) (T:Tx) (S:Addr→Prop) (ρ:List Sl) (ds:List D):TI:=fun σ H R=>RE K T H S ρ σ∧∀ J H',Same H H'→ItD K T S H' J ds→ds.length≤sizeLine→R J H'
end Z
namespace Z
open PySem PySem.Spec PyProof.Rows L2
theorem relabel_lookup (sc:Scope) (env:Env) (x:Str):(relabel sc env).names.lookup x=(sc.names.lookup x).map fun k=>if (k == .free&&env.scope.kind == .function&&env.kindOf x == some .cell)=true then .cell else k:=by
 show (sc.names.map fun (p:Str × NameKind)=>if (p.2 == .free&&env.scope.kind == .function&&env.kindOf p.1 == some .cell) then (p.1,NameKind.cell) else (p.1,p.2)).lookup x=_
 induction sc.names with
 | nil=>rfl
 | cons p r ih =>
  obtain ⟨n,k⟩:=p
  rw [List.map_cons]
  by_cases hx:x=n
  ·subst hx
   by_cases hc:(k == .free&&env.scope.kind == .function&&env.kindOf x == some .cell)=true
   ·show List.lookup x ((if (k == .free&&env.scope.kind == .function&&env.kindOf x == some .cell)=true then (x,NameKind.cell) else (x,k))::_)=_
    rw [if_pos hc,List.lookup_cons,List.lookup_cons,beq_self_eq_true]
    simp only [Option.map_some]
    rw [if_pos hc]
   ·show List.lookup x ((if (k == .free&&env.scope.kind == .function&&env.kindOf x == some .cell)=true then (x,NameKind.cell) else (x,k))::_)=_
    rw [if_neg hc,List.lookup_cons,List.lookup_cons,beq_self_eq_true]
    simp only [Option.map_some]
    rw [if_neg hc]
  ·have hb:(x == n)=false:=by simpa using hx
   show List.lookup x ((if (k == .free&&env.scope.kind == .function&&env.kindOf n == some .cell)=true then (n,NameKind.cell) else (n,k))::_)=_
   by_cases hc:(k == .free&&env.scope.kind == .function&&env.kindOf n == some .cell)=true
   ·rw [if_pos hc,List.lookup_cons,List.lookup_cons,hb]; exact ih
   ·rw [if_neg hc,List.lookup_cons,List.lookup_cons,hb]; exact ih
theorem closureFor_of {env:Env}:∀ (names:List (Str × NameKind)) (acc:List (Str × Addr)),(∀ x ∈ names,x.2=.free→∃ a,env.cells.lookup x.1=some a) →
  ∃ cl,(forIn names acc fun (x:Str × NameKind) (cs:List (Str × Addr))=>if (x.2 == .free)=true then (do let a ← cellOf env x.1; pure (ForInStep.yield ((x.1,a)::cs))) else pure (ForInStep.yield cs):Sem (List (Str × Addr)))=pure cl ∧
   (∀ x a,cl.lookup x=some a→acc.lookup x=some a∨env.cells.lookup x=some a)∧(∀ x,((x,NameKind.free) ∈ names∨∃ a,acc.lookup x=some a)→∃ a,cl.lookup x=some a)
 | [],acc,_=>⟨acc,rfl,fun x a h=>.inl h,fun x h=>by
   rcases h with h|h
   ·simp at h
   ·exact h⟩
 | (n,k)::r,acc,h=>by
  by_cases hk:k=.free
  ·subst hk
   obtain ⟨a,ha⟩:=h (n,.free) (by simp) rfl
   obtain ⟨cl,e,h1,h2⟩:=closureFor_of r ((n,a)::acc) fun x hx=>h x (List.mem_cons_of_mem _ hx)
   refine ⟨cl,?_,fun x b q=>?_,fun x q=>h2 x ?_⟩
   ·rw [List.forIn_cons]
    simp only [beq_self_eq_true,if_true,cellOf,ha]
    exact e
   ·rcases h1 x b q with z|z
    ·rw [List.lookup_cons] at z
     cases hx:x == n with
     | true =>
      rw [hx] at z
      have:x=n:=beq_iff_eq.mp hx
      subst this
      cases z
      exact .inr ha
     | false=>rw [hx] at z; exact .inl z
    ·exact .inr z
   ·by_cases hx:x=n
    ·subst hx
     exact .inr ⟨a,by simp⟩
    ·have hb:(x == n)=false:=by simpa using hx
     rcases q with q|⟨b,q⟩
     ·rcases List.mem_cons.mp q with q|q
      ·exact absurd (Prod.mk.inj q).1 hx
      ·exact .inl q
     ·exact .inr ⟨b,by rw [List.lookup_cons,hb]; exact q⟩
  ·have hb:(k == NameKind.free)=false:=by simpa using hk
   obtain ⟨cl,e,h1,h2⟩:=closureFor_of r acc fun x hx=>h x (List.mem_cons_of_mem _ hx)
   refine ⟨cl,?_,h1,fun x q=>h2 x ?_⟩
   ·rw [List.forIn_cons]
    simp only [hb,Bool.false_eq_true,if_false]
    exact e
   ·rcases q with q|q
    ·rcases List.mem_cons.mp q with q|q
     ·exact absurd (Prod.mk.inj q).2.symm hk
     ·exact .inl q
    ·exact .inr q
theorem closure_of {env:Env} {sc:Scope} (h:∀ x ∈ sc.names,x.2=.free→∃ a,env.cells.lookup x.1=some a) :
  ∃ cl,closureFor sc env=pure cl∧(∀ x a,cl.lookup x=some a→env.cells.lookup x=some a)∧(∀ x,(x,NameKind.free) ∈ sc.names→∃ a,cl.lookup x=some a):=by
 obtain ⟨cl,e,h1,h2⟩:=closureFor_of (env:=env) sc.names [] h
 refine ⟨cl,?_,fun x a q=>(h1 x a q).elim (fun z=>by simp at z) id,fun x q=>h2 x (.inl q)⟩
 show ((forIn sc.names [] fun (x:Str × NameKind) (cs:List (Str × Addr))=>if (x.2 == .free)=true then (do let a ← cellOf env x.1; pure (ForInStep.yield ((x.1,a)::cs))) else pure (ForInStep.yield cs):Sem (List (Str × Addr))) >>= fun cs=>pure cs)=pure cl
 rw [e]
 rfl
noncomputable def compX (X:Cx) (N':List Str) (sc:Scope) (cl:List (Str × Addr)) (C:Addr) (s:Shared) (H:Hp) (fp:List Addr) (E:Value→Shared→Prop):Cx:=
 {X with N:=N',s₀:=s,H₀:=H,env:=compEnvC sc cl C X.env,outer:=X.stack,ex:=fp,fn:=fun _=>false,pn:=[],xe:=E }
theorem compLoop_any {prog:Program} {w:World} {A:Around} {R:Result→Shared→Prop} {s:Shared} {elt target iter:Expr} {ifs:List Expr} {scope:Scope} {pos:Pos} {it acc:Value} {env:Env} (I:Nat→Shared→Prop)
  (turn:∀ n s,I n s→wpAny (model prog w) A (pyNext it) (fun r s₁=>match r with
   | none=>R (.ok .next) s₁
   | some v=>wpAny (model prog w) A (letOwnedTupleGo target it v) (fun _ s₁=>wpAny (model prog w) A (assign target env v) (fun _ s₂ =>
     wpAny (model prog w) A (forIn ifs true fun c r=>if r=true then do let ok ← isTrue c env (eval c env); pure (ForInStep.yield ok) else pure (ForInStep.yield r)) (fun ok s₃ =>
      if ok=true then wpAny (model prog w) A (eval elt env) (fun x s₄ =>
       wpAny (model prog w) A (call (.builtin "list.append") [acc,x]) (fun _ s₅=>∃ m,m<n∧I m s₅) (notedBy (model prog w) A env fun e s'=>R (.error e) s') s₄) (notedBy (model prog w) A env fun e s'=>R (.error e) s') s₃
      else ∃ m,m<n∧I m s₃) (notedBy (model prog w) A env fun e s'=>R (.error e) s') s₂) (notedBy (model prog w) A env fun e s'=>R (.error e) s') s₁) (notedBy (model prog w) A env fun e s'=>R (.error e) s') s₁) (notedBy (model prog w) A env fun e s'=>R (.error e) s') s)
  (n:Nat) (h:I n s):codeAny (model prog w) A (.compLoop (.ListComp elt [⟨target,iter,ifs,0⟩] scope pos) 0 it acc env) R s:=by
 refine codeAny_loop rfl I (fun n s hI=>?_) n h
 show wpAny _ A ((compTurn (.ListComp elt [⟨target,iter,ifs,0⟩] scope pos) 0 it acc env).onRaise (fun x=>do noteFrame x env; theTreesLotGoes x)) _ _ s
 refine wpAny_noted ?_
 rw [compTurn_list]
 refine wpAny_bind (wpAny_standAt (wpAny_bind (wpAny_mono (turn n s hI) (fun r s₁ h₁=>?_) fun _ _ h'=>h')))
 cases r with
 | none=>exact wpAny_pure h₁
 | some v =>
  refine wpAny_bind (wpAny_mono h₁ (fun _ s₁' h₁'=>?_) fun _ _ h'=>h')
  refine wpAny_bind (wpAny_mono h₁' (fun _ s₂ h₂=>wpAny_bind (wpAny_mono h₂ (fun ok s₃ h₃=>?_) fun _ _ h'=>h')) fun _ _ h'=>h')
  cases ok with
  | false=>exact wpAny_pure ⟨rfl,h₃⟩
  | true =>
   exact wpAny_bind (wpAny_bind (wpAny_mono h₃ (fun x s₄ h₄=>wpAny_bind (wpAny_mono h₄ (fun _ s₅ h₅=>wpAny_pure (wpAny_pure ⟨rfl,h₅⟩)) fun _ _ h'=>h')) fun _ _ h'=>h'))
section
variable {CX:CXT}{X:Cx}{c:CC}{G:GS}{T:Tx}{lv:Nat}{pins:List (Addr × Obj)}{σ:L2.St}{H:Hp}{s:Shared}
theorem compX_ok (I:Inv X pins σ H s) {N':List Str} {sc:Scope} {cl:List (Str × Addr)} {C:Addr} {fp:List Addr} {E:Value→Shared→Prop} (hk:sc.kind=.function) (hC:s.heap.objs.size≤C)
  (hcl:∀ x a,cl.lookup x=some a→X.env.cells.lookup x=some a) (hhas:∀ x,(x,NameKind.free) ∈ sc.names→∃ a,cl.lookup x=some a) (hnc:∀ x ∈ sc.names,x.2≠.cell)
  (hf:∀ b ∈ fp,FpOk X pins H b) (hfl:∀ b ∈ fp,b<s.heap.objs.size):(compX X N' sc cl C s H fp E).Ok where
 mod:=I.ok.mod
 kind:=hk
 glob:=I.ok.glob
 blt:=I.ok.blt
 above:=hC
 inj:=fun x y c h1 h2=>I.ok.inj x y c (hcl _ _ h1) (hcl _ _ h2)
 has:=fun x hx=>by
  have e:∀ k,(relabel sc X.env).names.lookup x=some k→(k=.cell∨k=.free)→(x,NameKind.free) ∈ sc.names:=fun k e hk=>by
   rw [relabel_lookup] at e
   cases q:sc.names.lookup x with
   | none=>rw [q] at e; cases e
   | some k0 =>
    rw [q] at e
    have hm:=PySem.mem_of_lookup q
    by_cases hk0:k0=.free
    ·subst hk0; exact hm
    ·have hb:(k0 == NameKind.free)=false:=by simpa using hk0
     simp only [Option.map_some,hb,Bool.false_and,Bool.false_eq_true,if_false,Option.some.injEq] at e
     subst e
     rcases hk with z|z
     ·exact absurd z (hnc _ hm)
     ·exact absurd z hk0
  rcases hx with hx|hx
  ·exact hhas x (e _ hx (.inl rfl))
  ·exact hhas x (e _ hx (.inr rfl))
 cab:=fun x c h=>by cases h
 hd:=I.ok.hd
 frames:=I.ok.frames
 stk:=.inl rfl
 exf:=fun b hb=>⟨Nat.ne_of_lt (Nat.lt_of_lt_of_le (hfl b hb) hC),fun x c e=>(hf b hb).2.2.2.2.1 x c (hcl _ _ e)⟩
 bs:=I.bs
 bsz:=Nat.le_trans I.ok.bsz I.sz
 noex:=fun b o e hb=>by
  obtain ⟨_,_,_,h1,_⟩:=hf b hb
  rcases h1 with h1|h1
  ·exact I.ok.noex b o e h1
  ·exact absurd (Nat.lt_of_lt_of_le (Heap.lt_size e) I.ok.bsz) (Nat.not_lt.mpr h1)
 exfs:=fun b hb hs=>by
  obtain ⟨_,h1,h2,_⟩:=hf b hb
  rcases List.mem_cons.mp (I.stkSub b hs) with z|z
  ·exact h1 z
  ·exact h2 z
 funs:=I.stack
 frf:=I.stkFree
end
end Z
namespace Z
open PySem PySem.Spec PyProof.Rows L2
section
variable {CX:CXT}{X:Cx}{c:CC}{G:GS}{T:Tx}{lv:Nat}{pins:List (Addr × Obj)}{σ:L2.St}{H:Hp}{s:Shared}
structure CompScope (c:CC) (sc:Scope):Prop where
 kind:sc.kind=.function
 nocell:∀ x ∈ sc.names,x.2≠.cell
 loc:∀ x ∈ sc.names,x.2=.local→sc.names.lookup x.1=some .local
 fl:∀ x ∈ sc.names,x.2=.free→sc.names.lookup x.1=some .free
 nd:(ownNames sc).Nodup
 dbg:∀ x ∈ ownNames sc,(x == ("__debug__":Str))=false∧(x == ("__classdict__":Str))=false
 gdb:sc.names.lookup ("__debug__":Str)≠some .globalImplicit
 fre:∀ x ∈ sc.names,x.2=.free→c.sc.names.lookup x.1=some .cell∨c.sc.names.lookup x.1=some .free
theorem compScope {sc:Scope} (h:compOk c sc=true):CompScope c sc:=by
 unfold compOk at h
 simp only [Bool.and_eq_true] at h
 obtain ⟨⟨⟨⟨⟨⟨⟨h1,h2⟩,h3⟩,h8⟩,h4⟩,h5⟩,h6⟩,h7⟩:=h
 rw [List.all_eq_true] at h2 h3 h5 h7 h8
 refine ⟨beq_iff_eq.mp h1,fun x hx=>?_,fun x hx e=>?_,fun x hx e=>?_,of_decide_eq_true h4,fun x hx=>?_,fun e=>?_,fun x hx e=>?_⟩
 ·have:=h2 x hx
  simpa using this
 ·have:=h3 x hx
  simpa [e] using this
 ·have:=h8 x hx
  simpa [e] using this
 ·have:=h5 x hx
  simpa [Bool.and_eq_true] using this
 ·rw [e] at h6
  simp at h6
 ·have:=h7 x hx
  simpa [e] using this
theorem compX_xc (h:XC CX X c G T lv) {sc:Scope} (cs:CompScope c sc) {cl:List (Str × Addr)} {C:Addr} {s:Shared} {H:Hp} {fp:List Addr} {E:Value→Shared→Prop} :
  XC CX (compX X (ownNames sc) sc cl C s H fp E) { c with N:=ownNames sc,sc:=sc } G T lv where
 N:=rfl
 nd:=cs.nd
 kd:=fun x=>by
  show KindOk (sc.names.lookup x) ((relabel sc X.env).names.lookup x)
  rw [relabel_lookup]
  cases q:sc.names.lookup x with
  | none=>trivial
  | some k =>
   cases k with
   | «local»=>rfl
   | cell=>exact absurd rfl (cs.nocell _ (PySem.mem_of_lookup q))
   | free =>
    simp only [Option.map_some,KindOk]
    by_cases hc:((NameKind.free == NameKind.free)&&X.env.scope.kind == .function&&X.env.kindOf x == some .cell)=true
    ·rw [if_pos hc]; exact .inr rfl
    ·rw [if_neg hc]; exact .inl rfl
   | globalExplicit=>trivial
   | globalImplicit=>rfl
 own:=fun x e=>absurd rfl (cs.nocell _ (PySem.mem_of_lookup e))
 dbg:=cs.dbg
 gdb:=by
  unfold isGlob
  exact beq_eq_false_iff_ne.mpr cs.gdb
 calm:=h.calm
 room:=h.room
 go:=⟨h.go.fn,h.go.me,h.go.cls,h.go.fld,h.go.mo,h.go.cst,h.go.bi,h.go.xcl,h.go.frs,h.go.cx0,h.go.cxf,h.go.xns,h.go.xk,h.go.sub,h.go.wd,h.go.dk⟩
theorem freeOf_at {sc:Scope}:∀ {l:List (Str × NameKind)} {fr:List (Nat × Nat)} {i j:Nat},freeOf c sc l=some fr→fr.lookup i=some j→∃ x ∈ l,(ownNames sc).idxOf? x.1=some i∧slotOf c x.1=some j:=by
 intro l
 induction l with
 | nil =>
  intro fr i j h e
  simp only [freeOf] at h
  cases h
  simp at e
 | cons x r ih =>
  intro fr i j h e
  simp only [freeOf,Option.bind_eq_bind,Option.bind_eq_some_iff] at h
  obtain ⟨a,h1,b,h2,t,h3,h4⟩:=h
  cases h4
  rw [List.lookup_cons] at e
  cases q:i == a with
  | true =>
   rw [q] at e
   cases e
   have:i=a:=by simpa using q
   subst this
   exact ⟨x,by simp,h1,h2⟩
  | false =>
   rw [q] at e
   obtain ⟨y,hy,z⟩:=ih h3 e
   exact ⟨y,List.mem_cons_of_mem _ hy,z⟩
noncomputable def frameV (n:Nat) (fr:List (Nat × Nat)) (σ:L2.St):L2.St:=(List.range n).map fun i=>match fr.lookup i with
 | some j=>σ.getD j none
 | none=>none
theorem frame_re {K:PySem.W.Frag} {S:Addr→Prop} {ρ:List Sl} {n:Nat} {fr:List (Nat × Nat)} (re:RE K T H S ρ σ):RE K T H S (frame n fr ρ) (frameV n fr σ):=by
 refine ⟨re.dom,by simp [frame,frameV],fun i sl e=>?_⟩
 unfold frame at e
 unfold frameV
 rw [List.getElem?_map] at e ⊢
 cases hr:(List.range n)[i]? with
 | none=>rw [hr] at e; cases e
 | some k =>
  rw [hr] at e
  simp only [Option.map_some,Option.some.injEq] at e ⊢
  subst e
  cases q:fr.lookup k with
  | none=>trivial
  | some j =>
   simp only
   cases q2:ρ[j]? with
   | none =>
    rw [List.getD_eq_getElem?_getD,q2]
    trivial
   | some sl =>
    have h:=re.at_ j sl q2
    rw [List.getD_eq_getElem?_getD,q2]
    simp only [Option.getD_some]
    cases sl with
    | un=>trivial
    | im d =>
     obtain ⟨v,e1,r⟩:=h
     exact ⟨v,by rw [List.getD_eq_getElem?_getD,e1]; rfl,r⟩
    | mu ds =>
     obtain ⟨p,xs,e1,r⟩:=h
     exact ⟨p,xs,by rw [List.getD_eq_getElem?_getD,e1]; rfl,r⟩
theorem RE.gen {K:PySem.W.Frag} {H':Hp} {S S':Addr→Prop} {ρ:List Sl} (re:RE K T H S ρ σ) (mv:Moves K H H' S S') (hm:∀ a ob,S a→H a=some ob→(∃ d,RepM K T H S d ob)→S' a∧H' a=some ob) (hd:∀ a,S' a→∃ o,H' a=some o):RE K T H' S' ρ σ:=by
 refine ⟨hd,re.len,fun i sl e=>?_⟩
 have h:=re.at_ i sl e
 cases sl with
 | un=>trivial
 | im d=>obtain ⟨v,e1,r⟩:=h; exact ⟨v,e1,Rep.gen mv d v r⟩
 | mu ds =>
  obtain ⟨p,xs,e1,sp,hp,r⟩:=h
  obtain ⟨a1,a2⟩:=hm p xs sp hp ⟨ds,r⟩
  exact ⟨p,xs,e1,a1,a2,r.gen mv⟩
theorem inv_comp (h:XC CX X c G T lv) (I:Inv X pins σ H s) {sc:Scope} (cs:CompScope c sc) {cl:List (Str × Addr)} {fr:List (Nat × Nat)} {C:Addr} {fp:List Addr} {E:Value→Shared→Prop} {s4:Shared} {m:Str→Option Value}
  (hfr:freeOf c sc (sc.names.filter fun x=>x.2 == .free)=some fr)
  (hcl:∀ x a,cl.lookup x=some a→X.env.cells.lookup x=some a) (hhas:∀ x,(x,NameKind.free) ∈ sc.names→∃ a,cl.lookup x=some a)
  (hf:∀ b ∈ fp,FpOk X pins H b) (hfl:∀ b ∈ fp,b<s.heap.objs.size) (hC:s.heap.objs.size≤C) (hn:s4.heap.Ns C m) (hk:∀ b o,s.heap.get? b=some o→s4.heap.get? b=some o)
  (hos:s4.os=s.os) (hgs:AllBare s4.gens):Inv (compX X (ownNames sc) sc cl C s H fp E) [] (frameV (ownNames sc).length fr σ) H s4 where
 ok:=compX_ok I cs.kind hC hcl hhas cs.nocell hf hfl
 os:=hos
 bare:=hgs
 base:=Un.kept hk
 loc:=⟨m,hn,fun i x v h1 h2 h3=>by
  unfold frameV at h2
  rw [List.getElem?_map] at h2
  cases hr:(List.range (ownNames sc).length)[i]? with
  | none=>rw [hr] at h2; cases h2
  | some k =>
   have ek:k=i:=by
    obtain ⟨_,e⟩:=List.getElem?_eq_some_iff.mp hr
    simpa using e.symm
   subst ek
   rw [hr] at h2
   simp only [Option.map_some,Option.some.injEq] at h2
   cases q:fr.lookup k with
   | none=>rw [q] at h2; cases h2
   | some j =>
    rw [q] at h2
    simp only at h2
    obtain ⟨y,hy,hy1,hy2⟩:=freeOf_at hfr q
    have hyx:y.1=x:=by
     have:=idx_get hy1
     have h1':(ownNames sc)[k]?=some x:=h1
     rw [h1'] at this
     exact (Option.some.inj this).symm
    obtain ⟨hym,hyf⟩:=List.mem_filter.mp hy
    have hyf':y.2=.free:=by simpa using hyf
    have hxm:(x,NameKind.free) ∈ sc.names:=by
     rw [← hyx,← hyf']
     exact hym
    obtain ⟨hN,_⟩:=slot_at hy2
    rw [hyx] at hN hy2
    have hσ:σ[j]?=some (some v):=by
     rw [List.getD_eq_getElem?_getD] at h2
     cases q2:σ[j]? with
     | none=>rw [q2] at h2; cases h2
     | some o=>rw [q2] at h2; simp only [Option.getD_some] at h2; rw [h2]
    obtain ⟨m0,_,hl⟩:=I.loc
    have hfo:=cs.fre _ hym hyf'
    rw [hyx] at hfo
    obtain ⟨u,ru,lk⟩:=hl j x v (by rw [h.N]; exact hN) hσ (h.vis (.inr hfo))
    refine ⟨u,ru,.inr ?_⟩
    have kd:=h.kd x
    have notloc:X.env.kindOf x≠some .local:=by
     rcases hfo with z|z
     ·rw [z] at kd
      intro w
      rw [kd] at w; cases w
     ·rw [z] at kd
      intro w
      rcases kd with kd|kd<;>(rw [kd] at w; cases w)
    rcases lk with ⟨z,_⟩|⟨_,cc,e1,e2⟩
    ·exact absurd z notloc
    ·obtain ⟨a,ha⟩:=hhas x hxm
     have ea:=hcl x a ha
     rw [e1] at ea
     cases ea
     refine ⟨?_,cc,ha,?_⟩
     ·show (relabel sc X.env).names.lookup x=some .cell∨(relabel sc X.env).names.lookup x=some .free
      rw [relabel_lookup]
      have hlk:sc.names.lookup x=some .free:=cs.fl _ hxm rfl
      rw [hlk]
      simp only [Option.map_some]
      split
      ·exact .inl rfl
      ·exact .inr rfl
     ·obtain ⟨o,h5,h6⟩:=e2
      exact ⟨o,hk _ _ h5,h6⟩⟩
 cell:=fun x a e=>by
  obtain ⟨v,o,h5,h6⟩:=I.cell x a (hcl x a e)
  exact ⟨v,o,hk _ _ h5,h6⟩
 free:=I.hok.fresh hC
 freeC:=fun x a e=>I.freeC x a (hcl x a e)
 pin:=fun p hp=>absurd (show p ∈ ([]:List (Addr × Obj)) from hp) (by simp)
 hok:=I.hok.kept hk
 len:=by simp [frameV,compX]
end
end Z
namespace Z
open PySem PySem.Spec PyProof.Rows L2
section
variable {CX:CXT}{X:Cx}{c:CC}{G:GS}{T:Tx}{lv:Nat}{pins:List (Addr × Obj)}{σ:L2.St}{H:Hp}{s:Shared}
theorem compGo_cons {f:D→Option (Option D)} {d:D} {r out:List D} (h:compGo f (d::r)=some out):∃ o t,f d=some o∧compGo f r=some t∧out=(match o with|some y=>y::t|none=>t):=by
 simp only [compGo,Option.bind_eq_bind,Option.bind_eq_some_iff] at h
 obtain ⟨o,h1,t,h2,h3⟩:=h
 refine ⟨o,t,h1,h2,?_⟩
 cases o<;>simp at h3<;>exact h3.symm
def TurnOk (CX:CXT) (G:GS) (T:Tx) (lv:Nat) (c':CC) (K:PySem.W.Frag) (ifs:List Expr) (elt:Expr) (ρ1:List Sl) (o:Option D):Prop:=
 ∀ (X':Cx) (S:Addr→Prop),XC CX X' c' G T lv→X'.K=K →
  ((ifs=[]∧o.isSome=true)∨∃ e,ifs=[e]∧PT X' e (tTe X'.K T S ρ1 o.isSome))∧∀ y,o=some y→PE X' elt (tD X'.K T S ρ1 y)
theorem comp_block (h:XC CX X c G T lv) {sc:Scope} (cs:CompScope c sc) {tg iter elt:Expr} {ifs:List Expr} {pos:Pos} {cl:List (Str × Addr)} {fr:List (Nat × Nat)} {tgs:List Nat} {tp:Bool} {ρ:List Sl} {S:Addr→Prop}
  {J:It} {fp:List Addr} {it:Addr} {tn:Nat→Heap→Prop} {ds outs:List D} {f:D→Option (Option D)} {RR:Value→Addr→Result→Shared→Prop} {E:Value→Shared→Prop}
  (hfr:freeOf c sc (sc.names.filter fun x=>x.2 == .free)=some fr) (htn:tgs.all (fun i=>(fr.lookup i).isNone)=true) (htg:targetN { c with N:=ownNames sc,sc:=sc } tg=some (tgs,tp))
  (hcl:∀ x a,cl.lookup x=some a→X.env.cells.lookup x=some a) (hhas:∀ x,(x,NameKind.free) ∈ sc.names→∃ a,cl.lookup x=some a)
  (I:Inv X pins σ H s) (re:RE X.K T H S ρ σ) (TU:Turn X.prog X.w X.K tg J fp it tn) (st:tn 0 s.heap) (hf:∀ b ∈ fp,FpOk X pins H b) (itd:ItD X.K T S H J ds) (hlen:ds.length≤sizeLine)
  (hout:compGo f ds=some outs) (hstep:∀ d o,f d=some o→∃ ρ1,bindT tgs tp d (frame (ownNames sc).length fr ρ)=some ρ1∧TurnOk CX G T lv { c with N:=ownNames sc,sc:=sc } X.K ifs elt ρ1 o)
  (hRR:∀ (D C:Addr) (s':Shared) (H':Hp) (ys:List V) (m:Str→Option Value),Inv X pins σ H' s'→Same H H'→H D=none→H' D=some (.lst ys)→RepL X.K T (er H' D) S outs ys→s'.heap.Ns C m →
   (H' C=none∧C≠X.env.locals∧X.s₀.heap.objs.size≤C∧(∀ x a,X.env.cells.lookup x=some a→a≠C)∧∀ p ∈ X.pn++pins,p.1≠C)→RR (.ref D) C (.ok .next) s') :
  wpAny (model X.prog X.w) X.A (newList []) (fun acc s₃=>wpAny (model X.prog X.w) X.A (newFunctionEnv sc X.env.globals cl [] X.env.qual none .none (some X.env)) (fun cenv s₄ =>
   codeAny (model X.prog X.w) X.A (.compStart (.ListComp elt [⟨tg,iter,ifs,0⟩] sc pos) 0 (.ref it) acc { cenv with scope:=relabel sc X.env }) (RR acc cenv.locals) s₄) E s₃) E s:=by
 refine wpAny_newObj_type (wpAny_newFunctionEnv cs.nocell (by intro y hy; simp at hy) (fun h₁ hns₁ hsb₁=>?_) cs.kind)
 dsimp only at hns₁ hsb₁ ⊢
 have I3:=I.lnew (t':=s.toks) (its:=[]) (ys:=[]) .nil (Nat.zero_le _)
 have hfl:∀ b ∈ fp,b<s.heap.objs.size:=fun b hb=>by
  obtain ⟨o,e,_⟩:=TU.obj _ _ st b hb
  exact Heap.lt_size e
 generalize hD:s.heap.objs.size=D at *
 generalize hs3:s.heap.push { cls:=.type "list",dict:=none,data:=.seq ([]:List Value).toArray }=h3 at *
 have hC:h3.objs.size=D+1:=by rw [← hs3,Heap.size_push,hD]
 generalize hCe:h3.objs.size=C at *
 have hDn:H D=none:=by rw [← hD]; exact I.hok.fresh (Nat.le_refl _)
 have hKD:X.K.lookup D=none:=by
  cases q:X.K.lookup D with
  | none=>rfl
  | some o =>
   have e:=I.kIn D o q
   exact absurd (Heap.lt_size e) (by rw [hD]; exact Nat.lt_irrefl _)
 have k3:∀ b o,s.heap.get? b=some o→h3.get? b=some o:=fun b o e=>by rw [← hs3]; exact Heap.get?_push_of_some _ e
 have k4:∀ b o,h3.get? b=some o→h₁.get? b=some o:=fun b o e=>hsb₁.extBut b o (by rw [← hCe]; exact Nat.ne_of_lt (Heap.lt_size e)) (Heap.get?_push_of_some _ e)
 have re3:RE X.K T (upd H D (.lst [])) (fun a=>S a∨a=D) ρ σ:=re.gen (Moves.add hDn hKD) (fun a xs hs e _=>⟨.inl hs,by rw [upd_ne (ne_of_none e hDn)]; exact e⟩) fun a hs=>by
  rcases hs with z|z
  ·obtain ⟨o,e⟩:=re.dom a z
   exact ⟨o,by rw [upd_ne (ne_of_none e hDn)]; exact e⟩
  ·subst z; exact ⟨_,upd_same⟩
 have hf3:∀ b ∈ fp,FpOk X pins (upd H D (.lst [])) b:=fun b hb=>⟨by rw [upd_ne (Nat.ne_of_lt (hfl b hb))]; exact (hf b hb).1,(hf b hb).2⟩
 have hfl3:∀ b ∈ fp,b<h3.objs.size:=fun b hb=>by rw [hCe,hC]; exact Nat.lt_succ_of_lt (hfl b hb)
 have loop:∀ (E':Value→Shared→Prop) (s4:Shared),s4 = { s with heap:=h₁,toks:=s.toks+([]:List (Str × Value)).length } →
   codeAny (model X.prog X.w) X.A (.compLoop (.ListComp elt [⟨tg,iter,ifs,0⟩] sc pos) 0 (.ref it) (.ref D) (compEnvC sc cl C X.env)) (RR (.ref D) C) s4:=by
  rintro E' s4 rfl
  let EN:=notedBy (model X.prog X.w) X.A (compEnvC sc cl C X.env) fun e s'=>RR (.ref D) C (.error e) s'
  let Y:=compX X (ownNames sc) sc cl C { s with heap:=h3,toks:=s.toks } (upd H D (.lst [])) fp EN
  have xY:XC CX Y { c with N:=ownNames sc,sc:=sc } G T lv:=compX_xc h cs
  have J0:Inv Y [] (frameV (ownNames sc).length fr σ) (upd H D (.lst [])) { s with heap:=h₁,toks:=s.toks+([]:List (Str × Value)).length }:=
   inv_comp h I3 cs hfr hcl hhas hf3 hfl3 (by show h3.objs.size≤C; rw [hCe]; exact Nat.le_refl _) hns₁ k4 rfl I3.bare
  have stat:∀ {H':Hp},(∀ b ∈ fp,H' b=none)→∀ b ∈ fp,FpOk Y [] H' b:=fun hn b hb =>
   ⟨hn b hb,((compX_ok (E:=EN) (N':=ownNames sc) I3 cs.kind (show h3.objs.size≤C by rw [hCe]; exact Nat.le_refl _) hcl hhas cs.nocell hf3 hfl3).exf b hb).1,
    (compX_ok (E:=EN) (N':=ownNames sc) I3 cs.kind (show h3.objs.size≤C by rw [hCe]; exact Nat.le_refl _) hcl hhas cs.nocell hf3 hfl3).exfs b hb,.inl hb,
    ((compX_ok (E:=EN) (N':=ownNames sc) I3 cs.kind (show h3.objs.size≤C by rw [hCe]; exact Nat.le_refl _) hcl hhas cs.nocell hf3 hfl3).exf b hb).2,fun p hp=>absurd (show p ∈ ([]:List (Addr × Obj)) from hp) (by simp)⟩
  have hn':∀ (σ':L2.St) (H':Hp),Same H H'→(∃ ys,H' D=some (.lst ys))→σ'.length=(ownNames sc).length→(∀ j,j ∉ tgs→σ'[j]?=(frameV (ownNames sc).length fr σ)[j]?) →
    RE X.K T H' (fun a=>S a∨a=D) (frame (ownNames sc).length fr ρ) σ':=fun σ' H' sm hys hl ag=>by
   have r0:=frame_re (n:=(ownNames sc).length) (fr:=fr) re
   have mv:Moves X.K H H' S (fun a=>S a∨a=D):=fun a n hh=>by
    have ne:a≠D:=by
     rintro rfl
     rcases hh with ⟨u,e⟩|⟨u,e⟩
     ·rw [hDn] at e; cases e
     ·rw [hKD] at e; cases e
    exact ⟨fun z=>z.elim n ne,fun o e=>sm a o e⟩
   refine ⟨fun a hs=>?_,by simp [frame,hl],fun j sl e=>?_⟩
   ·rcases hs with z|z
    ·obtain ⟨o,e⟩:=re.dom a z
     exact ⟨o,sm a o e⟩
    ·subst z
     obtain ⟨ys,e⟩:=hys
     exact ⟨_,e⟩
   ·have h0:=r0.at_ j sl e
    by_cases hj:j ∈ tgs
    ·have hu:sl=.un:=by
      unfold frame at e
      rw [List.getElem?_map] at e
      cases hr:(List.range (ownNames sc).length)[j]? with
      | none=>rw [hr] at e; cases e
      | some k =>
       have ek:k=j:=by
        obtain ⟨_,e'⟩:=List.getElem?_eq_some_iff.mp hr
        simpa using e'.symm
       subst ek
       rw [hr] at e
       simp only [Option.map_some,Option.some.injEq] at e
       have:=List.all_eq_true.mp htn k hj
       cases q:fr.lookup k with
       | none =>
        rw [q] at e
        simpa using e.symm
       | some z=>rw [q] at this; simp at this
     subst hu
     trivial
    ·rw [ag j hj]
     cases sl with
     | un=>trivial
     | im d=>obtain ⟨v,e1,r⟩:=h0; exact ⟨v,e1,Rep.gen mv d v r⟩
     | mu ds'=>obtain ⟨p,xs,e1,sp,hp,r⟩:=h0; exact ⟨p,xs,e1,.inl sp,sm _ _ hp,r.gen mv⟩
  refine compLoop_any (fun k s'=>∃ (i:Nat) (σ':L2.St) (H':Hp) (ys:List V) (pre post:List Z.D),k=ds.length+1-i∧i≤ds.length∧Inv Y [] σ' H' s'∧tn i s'.heap∧(∀ b ∈ fp,H' b=none) ∧
   Same H H'∧H' D=some (.lst ys)∧RepL X.K T H' (fun a=>S a∨a=D) pre ys∧ys.length≤i∧outs=pre++post∧compGo f (ds.drop i)=some post ∧
   σ'.length=(ownNames sc).length∧(∀ j,j ∉ tgs→σ'[j]?=(frameV (ownNames sc).length fr σ)[j]?)) ?_ (ds.length+1)
   ⟨0,_,_,[],[],outs,rfl,Nat.zero_le _,J0,TU.keep _ _ _ st fun b _ o e=>k4 b o (k3 b o e),fun b hb=>(hf3 b hb).1,Same.upd hDn,upd_same,RepL.nil,Nat.le_refl _,rfl,by simpa using hout,by simp [frameV],fun _ _=>rfl⟩
  rintro k s' ⟨i,σ',H',ys,pre,post,rfl,hi,IY,sti,fri,same,hHD,rp,hyl,ho,hgo,hlσ,hag⟩
  have rei:=hn' σ' H' same ⟨ys,hHD⟩ hlσ hag
  have mv:Moves X.K H H' S (fun a=>S a∨a=D):=fun a n hh=>by
   have ne:a≠D:=by
    rintro rfl
    rcases hh with ⟨u,e⟩|⟨u,e⟩
    ·rw [hDn] at e; cases e
    ·rw [hKD] at e; cases e
   exact ⟨fun z=>z.elim n ne,fun o e=>same a o e⟩
  obtain ⟨it1,it2⟩:=itd H' _ mv rei.dom
  by_cases hlt:i<ds.length
  ·obtain ⟨d,hd⟩:∃ d,ds[i]?=some d:=⟨ds[i],by simp [hlt]⟩
   have hdr:ds.drop i=d::ds.drop (i+1):=by
    obtain ⟨h1,h2⟩:=List.getElem?_eq_some_iff.mp hd
    rw [← h2]
    exact List.drop_eq_getElem_cons h1
   rw [hdr] at hgo
   obtain ⟨o,t,hfd,ht,hpost⟩:=compGo_cons hgo
   obtain ⟨ρ1,hb,hok⟩:=hstep d o hfd
   obtain ⟨go,yl⟩:=it1 i d hd
   refine thn (TU.item Y rfl rfl rfl h.calm i [] s' σ' H' EN IY (stat fri) sti go) fun r s5 ⟨u,hr,h5⟩=>?_
   subst hr
   refine thn h5 fun _ s6 ⟨x,H6,I6,r6,y6,st6,fr6⟩=>?_
   obtain ⟨sm6,rd6⟩:=yl x H6 y6
   have I6':=I6.pinned (stat fr6) (TU.obj _ _ st6)
   have hD6:H6 D=some (.lst ys):=sm6 _ _ hHD
   refine thn (pg_D xY (S:=fun a=>S a∨a=D) htg hb _ s6 σ' H6 x u (fun σ2 H2=>H2=H6∧RE X.K T H6 (fun a=>S a∨a=D) ρ1 σ2∧∀ j,j ∉ tgs→σ2[j]?=σ'[j]?) I6' r6
    ⟨rei.same sm6,rd6,fun σ7 re7 ag7=>⟨rfl,re7,ag7⟩⟩) fun _ s7 ⟨σ7,H7,I7,e7,re7,ag7⟩=>?_
   subst e7
   have next:∀ (s9:Shared) (H9:Hp) (ys':List V) (pre':List Z.D),Inv Y ([]++pinsAt fp s6.heap) σ7 H9 s9→Same H H9→H9 D=some (.lst ys')→RepL X.K T H9 (fun a=>S a∨a=D) pre' ys'→ys'.length≤i+1→outs=pre'++t →
     ∃ m,m<ds.length+1-i∧∃ (i:Nat) (σ':L2.St) (H':Hp) (ys:List V) (pre post:List Z.D),m=ds.length+1-i∧i≤ds.length∧Inv Y [] σ' H' s9∧tn i s9.heap∧(∀ b ∈ fp,H' b=none) ∧
      Same H H'∧H' D=some (.lst ys)∧RepL X.K T H' (fun a=>S a∨a=D) pre ys∧ys.length≤i∧outs=pre++post∧compGo f (ds.drop i)=some post ∧
      σ'.length=(ownNames sc).length∧(∀ j,j ∉ tgs→σ'[j]?=(frameV (ownNames sc).length fr σ)[j]?):=fun s9 H9 ys' pre' I9 sm9 hD9 rp9 hl9 ho9=>by
    refine ⟨ds.length+1-(i+1),by omega,i+1,σ7,H9,ys',pre',t,rfl,hlt,I9.unpinned,?_,fun b hb=>?_,sm9,hD9,rp9,hl9,ho9,ht,?_,fun j hj=>(ag7 j hj).trans (hag j hj)⟩
    ·exact TU.keep _ _ _ st6 fun b hb o e=>(I9.pin (b,o) (List.mem_append_right _ (List.mem_append_right _ (mem_pinsAt hb e)))).1
    ·obtain ⟨o,e,_⟩:=TU.obj _ _ st6 b hb
     exact (I9.pin (b,o) (List.mem_append_right _ (List.mem_append_right _ (mem_pinsAt hb e)))).2.1
    ·have l1:=re7.len
     have l2:=I9.len
     exact l2
   obtain ⟨htest,helt⟩:=hok Y (fun a=>S a∨a=D) xY rfl
   have fin:∀ (s8:Shared) (H8:Hp),Inv Y ([]++pinsAt fp s6.heap) σ7 H8 s8→Same H7 H8 →
     (if o.isSome=true then wpAny (model X.prog X.w) X.A (eval elt (compEnvC sc cl C X.env)) (fun x s₄=>wpAny (model X.prog X.w) X.A (call (.builtin "list.append") [.ref D,x]) (fun _ s₅=>∃ m,m<ds.length+1-i∧∃ (i:Nat) (σ':L2.St) (H':Hp) (ys:List V) (pre post:List Z.D),m=ds.length+1-i∧i≤ds.length∧Inv Y [] σ' H' s₅∧tn i s₅.heap∧(∀ b ∈ fp,H' b=none) ∧
      Same H H'∧H' D=some (.lst ys)∧RepL X.K T H' (fun a=>S a∨a=D) pre ys∧ys.length≤i∧outs=pre++post∧compGo f (ds.drop i)=some post ∧
      σ'.length=(ownNames sc).length∧(∀ j,j ∉ tgs→σ'[j]?=(frameV (ownNames sc).length fr σ)[j]?)) EN s₄) EN s8
     else ∃ m,m<ds.length+1-i∧∃ (i:Nat) (σ':L2.St) (H':Hp) (ys:List V) (pre post:List Z.D),m=ds.length+1-i∧i≤ds.length∧Inv Y [] σ' H' s8∧tn i s8.heap∧(∀ b ∈ fp,H' b=none) ∧
      Same H H'∧H' D=some (.lst ys)∧RepL X.K T H' (fun a=>S a∨a=D) pre ys∧ys.length≤i∧outs=pre++post∧compGo f (ds.drop i)=some post ∧
      σ'.length=(ownNames sc).length∧(∀ j,j ∉ tgs→σ'[j]?=(frameV (ownNames sc).length fr σ)[j]?)):=fun s8 H8 I8 sm8=>by
    have smH8:Same H H8:=same.trans (sm6.trans sm8)
    cases o with
    | none =>
     rw [if_neg (by simp)]
     refine next s8 H8 ys pre I8 smH8 (sm8 _ _ hD6) ((rp.same sm6).same sm8) (Nat.le_succ_of_le hyl) ?_
     rw [ho,hpost]
    | some y =>
     rw [if_pos (show (some y).isSome=true from rfl)]
     refine thn (helt y rfl _ s8 σ7 H8 (fun v H9=>Same H8 H9∧Rep X.K T H9 (fun a=>S a∨a=D) y v) I8 ⟨re7.same sm8,fun v H9 sm9 rv=>⟨sm9,rv⟩⟩) fun u9 s9 ⟨v,H9,I9,r9,sm9,rv⟩=>?_
     have hD9:H9 D=some (.lst ys):=sm9 _ _ (sm8 _ _ hD6)
     refine thn (mt_append (X:=Y) _ s9 σ7 H9 (.ref D) [v] (.ref D) [u9] (fun _ H10=>H10=upd H9 D (.lst (ys++[v]))) I9 rfl (.cons r9 .nil) ⟨D,ys,v,rfl,rfl,hD9,by omega,rfl⟩) fun _ s10 ⟨_,H10,I10,_,e10⟩=>?_
     subst e10
     have smD:Same H (upd H9 D (.lst (ys++[v]))):=fun b ob e=>by
      rw [upd_ne (ne_of_none e hDn)]
      exact sm9 _ _ (smH8 _ _ e)
     have mvD:Moves X.K H9 (upd H9 D (.lst (ys++[v]))) (fun a=>S a∨a=D) (fun a=>S a∨a=D):=fun a n _=>⟨n,fun ob e=>by rw [upd_ne (fun z=>n (.inr z))]; exact e⟩
     refine next s10 _ (ys++[v]) (pre++[y]) I10 smD upd_same ?_ (by rw [List.length_append]; simp; omega) ?_
     ·exact RepL.gen mvD _ _ (RepL.app (((rp.same sm6).same sm8).same sm9) (RepL.cons rv RepL.nil))
     ·rw [ho,hpost,List.append_assoc]; rfl
   rcases htest with ⟨hifs,hsome⟩|⟨e,hifs,hpt⟩
   ·subst hifs
    refine wpAny_tests_nil ?_
    have z:=fin s7 H7 I7 (Same.refl _)
    rw [hsome] at z
    exact z
   ·subst hifs
    refine wpAny_tests_one (thn (hpt _ s7 σ7 H7 (fun b H8=>b=o.isSome∧Same H7 H8) I7 ⟨re7,fun H8 sm8=>⟨rfl,sm8⟩⟩) fun b s8 ⟨H8,I8,eb,sm8⟩=>?_)
    subst eb
    exact fin s8 H8 I8 sm8
  ·have ei:i=ds.length:=by omega
   subst ei
   refine thn (TU.done Y rfl rfl rfl h.calm ds.length [] s' σ' H' EN IY (stat fri) sti (it2 _ (Nat.le_refl _))) fun r s5 ⟨hr,I5⟩=>?_
   subst hr
   have hp0:post=[]:=by
    rw [List.drop_length] at hgo
    simp only [compGo,Option.some.injEq] at hgo
    exact hgo.symm
   subst hp0
   rw [List.append_nil] at ho
   subst ho
   obtain ⟨m,hnC,_⟩:=I5.loc
   have I9:Inv X pins σ H' s5:=I3.call' I5.os I5.base I5.hok I5.bare fun b hb=>⟨(hf b hb).2.2.2.1,(hf b hb).2.1,(hf b hb).2.2.2.2.1,(hf b hb).2.2.2.2.2⟩
   have hCs:s.heap.objs.size≤C:=by rw [hD,hC]; exact Nat.le_succ _
   refine hRR D C s5 H' ys m I9 same hDn hHD (RepL.disown (p:=D) (.inr rfl) (fun a z=>.inl z) rp) hnC ⟨I5.free,?_,Nat.le_trans I.sz hCs,fun x a e=>?_,fun p hp=>?_⟩
   ·intro z
    have:=I.lt
    rw [← z] at this
    exact absurd this (Nat.not_lt.mpr hCs)
   ·intro z
    obtain ⟨v,ob,h5,_⟩:=I.cell x a e
    rw [z] at h5
    exact absurd (Heap.lt_size h5) (Nat.not_lt.mpr hCs)
   ·intro z
    have:=(I.pin p hp).1
    rw [z] at this
    exact absurd (Heap.lt_size this) (Nat.not_lt.mpr hCs)
 exact codeAny_compStart_list (loop E _ rfl) (TU.self X.A 0 _ _ _ (TU.keep _ _ _ st fun b _ o e=>k4 b o (k3 b o e)) (loop E _ rfl))
end
end Z
namespace Z
open PySem PySem.Spec PyProof.Rows L2
section
variable {CX:CXT}{X:Cx}{c:CC}{G:GS}{T:Tx}{lv:Nat}{ρ:List Sl}{S:Addr→Prop}{tg:Expr}
theorem itd_list {H1:Hp} {a:Addr} {xs:List V} {ds:List D} (n:¬ S a) (hq:SqL X.K H1 a xs) (r:RepL X.K T H1 S ds xs):ItD X.K T S H1 (Itl X.K a) ds:=fun H S' mv dom=>by
 obtain ⟨n',k⟩:=mv a n (SqL.has hq)
 have hq':=SqL.keeps hq k
 refine ⟨fun i d e=>?_,fun i hi=>⟨xs,hq',by rw [← r.len]; exact hi⟩⟩
 obtain ⟨x,e1,rx⟩:=r.get e
 refine ⟨⟨xs,x,hq',e1⟩,fun y H' ⟨eH,ey⟩=>?_⟩
 subst eH
 have:=ey xs hq'
 rw [e1] at this
 cases this
 exact ⟨Same.refl _,Rep.gen mv d x rx⟩
theorem itd_tup {H1:Hp} {a:Addr} {xs:List V} {ds:List D} (n:¬ S a) (hq:SqT X.K H1 a xs) (r:RepL X.K T H1 S ds xs):ItD X.K T S H1 (Itt X.K a) ds:=fun H S' mv dom=>by
 obtain ⟨n',k⟩:=mv a n (SqT.has hq)
 have hq':=SqT.keeps hq k
 refine ⟨fun i d e=>?_,fun i hi=>⟨xs,hq',by rw [← r.len]; exact hi⟩⟩
 obtain ⟨x,e1,rx⟩:=r.get e
 refine ⟨⟨xs,x,hq',e1⟩,fun y H' ⟨eH,ey⟩=>?_⟩
 subst eH
 have:=ey xs hq'
 rw [e1] at this
 cases this
 exact ⟨Same.refl _,Rep.gen mv d x rx⟩
theorem itd_rng {H1:Hp} {lo hi:Int}:ItD X.K T S H1 (Itr lo (hi-lo).toNat) (rangeD lo hi):=fun H S' mv dom=>by
 refine ⟨fun i d e=>?_,fun i h=>by
  show (hi-lo).toNat≤i
  unfold rangeD at h
  rw [List.length_map,List.length_range] at h
  exact h⟩
 unfold rangeD at e
 rw [List.getElem?_map] at e
 cases hr:(List.range (hi-lo).toNat)[i]? with
 | none=>rw [hr] at e; cases e
 | some k =>
  obtain ⟨h1,e'⟩:=List.getElem?_eq_some_iff.mp hr
  have ek:k=i:=by simpa using e'.symm
  subst ek
  rw [hr] at e
  simp only [Option.map_some,Option.some.injEq] at e
  subst e
  refine ⟨by show k<(hi-lo).toNat; simpa using h1,fun y H' ⟨eH,ey⟩=>?_⟩
  subst eH ey
  exact ⟨Same.refl _,by unfold Rep; rfl⟩
noncomputable def Its (z:Str):It:=⟨fun i _=>i<z.cps.size,fun i H v H'=>H'=H∧∃ c,z.cps[i]?=some c∧v=.str ⟨#[c]⟩,fun i _=>z.cps.size≤i⟩
theorem go_txt {M:Model} {A:Around} {E:Value→Shared→Prop} {s:Shared} {it:Addr} {y:Str} {t:Tok} {Q:Unit→Shared→Prop} (hQ:Q () s):wpAny M A (letOwnedTupleGo tg (.ref it) (.str y t)) Q E s:=by
 unfold letOwnedTupleGo
 cases tg<;>exact wpAny_pure hQ
theorem turn_txt {P:Program} {w:World} {K:PySem.W.Frag} {tg:Expr} {it:Addr} {ty:String} {z:Str} {t:Tok} (W:∀ A':Around,A'.handled=none→Walks P w A' it [it] [it] z.cps.size (SignAt z) (fun i h=>h.IsStrIter it ty z t i)) (hs:∀ (A:Around) (i:Nat) (s:Shared) (Q:Value→Shared→Prop) (E:Value→Shared→Prop),s.heap.IsStrIter it ty z t i→Q (.ref it) s→wpAny (model P w) A (pyIter (.ref it)) Q E s)
  (hd:∀ (A:Around),A.handled=none→∀ (i:Nat) (s:Shared) (Q:Option Value→Shared→Prop) (E:Value→Shared→Prop),s.heap.IsStrIter it ty z t i→z.cps[i]?=none→(∀ h',Heap.ExtBut it s.heap h'→Q none { s with heap:=h' })→wpAny (model P w) A (pyNext (.ref it)) Q E s):Turn P w K tg (Its z) [it] it (fun i h=>h.IsStrIter it ty z t i) where
 mem:=by simp
 obj:=fun i h st b hb=>by
  have e:b=it:=by simpa using hb
  subst e
  obtain ⟨o,e,c,d⟩:=st
  exact ⟨o,e,fun v z=>by rw [d] at z; cases z⟩
 keep:=fun i h h' st k=>let ⟨o,e,r⟩:=st; ⟨o,k it (by simp) o e,r⟩
 item:=by
  intro X hP hw hK hc i pins s σ H E I hf st hg
  subst hP hw hK
  obtain ⟨f0,f1,f2,f3,f4,f5⟩:=hf it (by simp)
  refine (W X.A (I.ok.hd hc)).item i s _ _ hg st fun v h' tk hv st' kk=>?_
  obtain ⟨c,u,hc',rfl⟩:=hv
  have I1:Inv X pins σ H { s with heap:=h',toks:=tk }:=I.turned (fun b o hb e=>kk b o (by simpa using hb) e) f0 f1 f3 f4 f5
  exact ⟨_,rfl,go_txt ⟨.str ⟨#[c]⟩,H,I1,⟨u,rfl⟩,⟨rfl,c,hc',rfl⟩,st',fun b hb=>(hf b hb).1⟩⟩
 done:=by
  intro X hP hw hK hc i pins s σ H E I hf st hg
  subst hP hw hK
  obtain ⟨f0,f1,f2,f3,f4,f5⟩:=hf it (by simp)
  exact hd X.A (I.ok.hd hc) i s _ _ st (Array.getElem?_eq_none hg) fun h' eb=>⟨rfl,I.turned (t':=s.toks) (fun b o hb e=>eb b o hb e) f0 f1 f3 f4 f5⟩
 self:=fun A i s Q E st h=>hs A i s Q E st h
theorem itd_txt {H1:Hp} {z:Str}:ItD X.K T S H1 (Its z) (charsD z):=fun H S' mv dom=>by
 refine ⟨fun i d e=>?_,fun i h=>?_⟩
 ·unfold charsD at e
  rw [List.getElem?_map] at e
  obtain ⟨c,hc,rfl⟩:=Option.map_eq_some_iff.mp e
  rw [Array.getElem?_toList] at hc
  refine ⟨(Array.getElem?_eq_some_iff.mp hc).1,fun y H' ⟨eH,c',hc',ey⟩=>?_⟩
  subst eH ey
  rw [hc] at hc'
  cases hc'
  exact ⟨Same.refl _,by unfold Rep; rfl⟩
 ·unfold charsD at h
  rw [List.length_map,Array.length_toList] at h
  exact h
theorem pi_seqD {l:Expr} {d:D} {ds:List D} (hl:PE X l (tD X.K T S ρ d)) (hi:items .seq d=some ds):PI X tg l (tI X.K T S ρ ds):=by
 intro pins s σ H R I ⟨re,q⟩
 refine thn (hl pins s σ H (fun v H'=>Same H H'∧Rep X.K T H' S d v) I ⟨re,fun v H' a b=>⟨a,b⟩⟩) fun v s1 ⟨x,H1,I1,r1,sm,rep⟩=>?_
 have golist:∀ (a:Addr) (xs:List V),x=.ref a→¬ S a→SqL X.K H1 a xs→RepL X.K T H1 S ds xs→wpAny (model X.prog X.w) X.A (pyIter v) (PIE X pins σ tg R) X.xe s1:=fun a xs e n hq r=>by
  subst e
  cases r1
  obtain ⟨its,rv,p,hz⟩:=I1.list hq
  refine wpAny_pyIter_list p.isList ?_
  refine ⟨s1.heap.objs.size,[s1.heap.objs.size],_,_,H1,rfl,I1.kept (t':=s1.toks) fun b o e=>Heap.get?_push_of_some _ e,turn_list a _,⟨_,Heap.get?_push_size _ rfl,rfl,rfl⟩,fun b hb=>?_,q _ _ sm (itd_list n hq r) (by rw [r.len]; exact hz)⟩
  have e:b=s1.heap.objs.size:=by simpa using hb
  subst e
  exact I1.fpOk (Nat.le_refl _) (I1.hok.fresh (Nat.le_refl _))
 cases d<;>simp only [items,itSeq,reduceCtorEq,Option.some.injEq] at hi
 ·rename_i z _
  split at hi
  ·rename_i hz
   cases hi
   unfold Rep at rep
   subst rep
   obtain ⟨t,rfl⟩:=r1
   have hl:(charsD z).length≤sizeLine:=by
    unfold charsD
    rw [List.length_map,Array.length_toList]
    exact Nat.le_trans hz big_le
   have fp:∀ b ∈ [s1.heap.objs.size],FpOk X pins H1 b:=fun b hb=>by
    have e:b=s1.heap.objs.size:=by simpa using hb
    subst e
    exact I1.fpOk (Nat.le_refl _) (I1.hok.fresh (Nat.le_refl _))
   cases ha:z.cps.all (· < 128)
   ·exact wpAny_pyIter_wide ha ⟨s1.heap.objs.size,[s1.heap.objs.size],_,_,H1,rfl,I1.kept (t':=s1.toks) fun b o e=>Heap.get?_push_of_some _ e,turn_txt (fun A' hA=>Walks.strWide hA _ z t) (fun A i s Q E st h=>wpAny_pyIter_striter_wide st h) (fun A hh i s Q E st hx h=>wpAny_pyNext_wide_end hh st hx h),⟨_,Heap.get?_push_size _ rfl,rfl,rfl⟩,fp,q _ _ sm itd_txt hl⟩
   ·exact wpAny_pyIter_ascii ha ⟨s1.heap.objs.size,[s1.heap.objs.size],_,_,H1,rfl,I1.kept (t':=s1.toks) fun b o e=>Heap.get?_push_of_some _ e,turn_txt (fun A' hA=>Walks.strAscii hA _ z t) (fun A i s Q E st h=>wpAny_pyIter_striter_ascii st h) (fun A hh i s Q E st hx h=>wpAny_pyNext_ascii_end hh st hx h),⟨_,Heap.get?_push_size _ rfl,rfl,rfl⟩,fp,q _ _ sm itd_txt hl⟩
  ·cases hi
 ·subst hi
  unfold Rep at rep
  obtain ⟨a,xs,e,n,hq,r⟩:=rep
  exact golist a xs e n (SqL.of hq) r
 ·subst hi
  unfold Rep at rep
  obtain ⟨a,xs,e,n,hq,r⟩:=rep
  subst e
  cases r1
  obtain ⟨its,rv,p,hz⟩:=I1.tuple hq
  refine wpAny_pyIter_tuple (show s1.heap.IsTuple a its.toArray from p) ?_
  refine ⟨s1.heap.objs.size,[s1.heap.objs.size],_,_,H1,rfl,I1.kept (t':=s1.toks) fun b o e=>Heap.get?_push_of_some _ e,turn_tuple a _,⟨_,Heap.get?_push_size _ rfl,rfl,rfl⟩,fun b hb=>?_,q _ _ sm (itd_tup n hq r) (by rw [r.len]; exact hz)⟩
  have e:b=s1.heap.objs.size:=by simpa using hb
  subst e
  exact I1.fpOk (Nat.le_refl _) (I1.hok.fresh (Nat.le_refl _))
 ·subst hi
  unfold Rep at rep
  obtain ⟨a,xs,e,n,hq,r⟩:=rep
  exact golist a xs e n hq r
theorem range_len {lo hi:Int} (h:(hi-lo).toNat≤big):(rangeD lo hi).length≤sizeLine:=by
 unfold rangeD
 rw [List.length_map,List.length_range]
 exact Nat.le_trans h big_le
theorem small62_iff {i:Int} (h:small62 i=true):-(2 ^ 62)≤i∧i<2 ^ 62:=by
 unfold small62 at h
 rw [Bool.and_eq_true] at h
 exact ⟨of_decide_eq_true h.1,of_decide_eq_true h.2⟩
theorem pi_rngD {args:List Expr} {p pos:Pos} {as ds:List D} (hg:Gl X "range") (hm:X.mg "range" = none) (ha:PA X args (tAs X.K T S ρ as)) (hs:starEach args X.env=args.map fun e=>(false,eval e X.env)) (hi:items .rng (.tup as)=some ds) (hlen:as.length=args.length) :
  PI X tg (.Call (.Name "range" p) args [] pos) (tI X.K T S ρ ds):=by
 simp only [items] at hi
 unfold itRng at hi
 split at hi
 ·rename_i j
  split at hi
  ·rename_i hc
   rw [Bool.and_eq_true] at hc
   cases hi
   obtain ⟨b1,b2⟩:=small62_iff hc.1
   match args,hlen with
   | [a],_ =>
    intro pins s σ H R I ⟨re,q⟩
    refine pi_range1 hg hm ha hs pins s σ H R I ⟨re,fun vs H' sm r=>?_⟩
    unfold RepL at r
    obtain ⟨x,r',rfl,rx,rr⟩:=r
    unfold RepL at rr
    subst rr
    unfold Rep at rx
    subst rx
    refine ⟨j,rfl,b1,b2,?_⟩
    have hz:=range_len (lo:=0) (hi:=j) (by simpa using of_decide_eq_true hc.2)
    have:=q (Itr 0 (j-0).toNat) H' sm itd_rng hz
    simpa using this
  ·cases hi
 ·rename_i i j
  split at hi
  ·rename_i hc
   rw [Bool.and_eq_true,Bool.and_eq_true] at hc
   cases hi
   obtain ⟨b1,b2⟩:=small62_iff hc.1.1
   obtain ⟨b3,b4⟩:=small62_iff hc.1.2
   match args,hlen with
   | [a,b],_ =>
    intro pins s σ H R I ⟨re,q⟩
    refine pi_range2 hg hm ha hs (by
     have h2:=congrArg List.tail hs
     have e:starEach [a,b] X.env=(false,eval a X.env)::starEach [b] X.env:=by
      cases a<;>first|rfl|(simp [starEach] at hs)
     rw [e] at h2
     exact h2) pins s σ H R I ⟨re,fun vs H' sm r=>?_⟩
    unfold RepL at r
    obtain ⟨x,r',rfl,rx,rr⟩:=r
    unfold RepL at rr
    obtain ⟨y,r'',rfl,ry,rr⟩:=rr
    unfold RepL at rr
    subst rr
    unfold Rep at rx ry
    subst rx ry
    exact ⟨i,j,rfl,⟨b1,b2,b3,b4⟩,q _ H' sm itd_rng (range_len (of_decide_eq_true hc.2))⟩
  ·cases hi
 ·cases hi
theorem free_cells (h:XC CX X c G T lv) {pins:List (Addr × Obj)} {σ:L2.St} {H:Hp} {s:Shared} (I:Inv X pins σ H s) {sc:Scope} (cs:CompScope c sc):∀ x ∈ sc.names,x.2=.free→∃ a,X.env.cells.lookup x.1=some a:=fun x hx hf=>by
 refine I.ok.has x.1 ?_
 have k:=h.kd x.1
 rcases cs.fre x hx hf with e|e
 ·rw [e] at k; exact .inl k
 ·rw [e] at k
  rcases k with k|k
  ·exact .inr k
  ·exact .inl k
theorem pe_comp (h:XC CX X c G T lv) {sc:Scope} (chk:compOk c sc=true) {iter elt:Expr} {ifs:List Expr} {pos:Pos} {fr:List (Nat × Nat)} {tgs:List Nat} {tp:Bool} {ds outs:List D} {f:D→Option (Option D)}
  (hfr:freeOf c sc (sc.names.filter fun x=>x.2 == .free)=some fr) (htn:tgs.all (fun i=>(fr.lookup i).isNone)=true) (htg:targetN { c with N:=ownNames sc,sc:=sc } tg=some (tgs,tp))
  (hi:PI X tg iter (tI X.K T S ρ ds)) (hs:∀ x,foldedSetIterable iter X.env x=pure x)
  (hout:compGo f ds=some outs) (hstep:∀ d o,f d=some o→∃ ρ1,bindT tgs tp d (frame (ownNames sc).length fr ρ)=some ρ1∧TurnOk CX G T lv { c with N:=ownNames sc,sc:=sc } X.K ifs elt ρ1 o) :
  PE X (.ListComp elt [⟨tg,iter,ifs,0⟩] sc pos) (tNw X.K T S ρ outs):=by
 intro pins s σ H Q I ⟨re,q⟩
 have cs:=compScope chk
 obtain ⟨cl,hclos,hcl,hhas⟩:=closure_of (free_cells h I cs)
 rw [eval_ListComp]
 refine wpAny_comprehension_free (use:=none) rfl hs hclos cs.kind cs.loc (thn (hi pins s σ H (fun J H2=>Same H H2∧ItD X.K T S H2 J ds∧ds.length≤sizeLine) I ⟨re,fun J H2 a b z=>⟨a,b,z⟩⟩) fun v s1 h1=>thn h1 fun itv s2 h2=>?_)
 obtain ⟨it,fp,tn,J,H2,e,I2,TU,st2,f2,sm,itd,hlen⟩:=h2
 subst e
 refine comp_block (RR:=fun acc C=>compPost (model X.prog X.w) X.A X.xe none (EP X pins σ Q) acc C) h cs hfr htn htg hcl hhas I2 (re.same sm) TU st2 f2 itd hlen hout hstep ?_
 intro D C s' H' ys m I' sm' hD hD' rp hn ⟨c1,c2,c3,c4,c5⟩
 refine ⟨m,hn,fun h' hs'=>⟨.ref D,H',I'.turned (t':=s'.toks) (fun b o hb e=>hs'.extBut b o hb e) c1 c2.symm.symm (.inr c3) c4 c5,rfl,?_⟩⟩
 exact q D ys H' (sm.trans sm') (sm.free hD) hD' rp
theorem ps_comp (h:XC CX X c G T lv) {sc:Scope} (chk:compOk c sc=true) {iter elt:Expr} {ifs:List Expr} {pos spos px:Pos} {fr:List (Nat × Nat)} {tgs:List Nat} {tp:Bool} {ds outs:List D} {f:D→Option (Option D)} {x:Str} {i:Nat}
  (hfr:freeOf c sc (sc.names.filter fun x=>x.2 == .free)=some fr) (htn:tgs.all (fun i=>(fr.lookup i).isNone)=true) (htg:targetN { c with N:=ownNames sc,sc:=sc } tg=some (tgs,tp))
  (hi:PI X tg iter (tI X.K T S ρ ds)) (hs:∀ x,foldedSetIterable iter X.env x=pure x) (hx:nameT c (.Name x px)=some i)
  (hsw:swapsWith (.ListComp elt [⟨tg,iter,ifs,0⟩] sc pos) (some (.Name x px)) spos.line X.env=pure true)
  (hout:compGo f ds=some outs) (hstep:∀ d o,f d=some o→∃ ρ1,bindT tgs tp d (frame (ownNames sc).length fr ρ)=some ρ1∧TurnOk CX G T lv { c with N:=ownNames sc,sc:=sc } X.K ifs elt ρ1 o) :
  PS X (.Assign [.Name x px] (.ListComp elt [⟨tg,iter,ifs,0⟩] sc pos) spos) (fun D σ H=>RE X.K T H S ρ σ∧∀ p xs H',Same H H'→H p=none→H' p=some (.lst xs)→RepL X.K T (er H' p) S outs xs→D.nx (σ.set i (some (.ref p))) H'):=by
 intro pins s σ H DD I ⟨re,q⟩
 have cs:=compScope chk
 obtain ⟨cl,hclos,hcl,hhas⟩:=closure_of (free_cells h I cs)
 rw [exec_Assign_Name_used _ _ _ _ hsw]
 refine wpAny_bind (wpAny_standAt (wpAny_bind ?_))
 show wpAny _ X.A (do let _ ← comprehension (.ListComp elt [⟨tg,iter,ifs,0⟩] sc pos) sc X.env _ (newList []) false (eval iter X.env) (some (assign (.Name x px) X.env))) _ _ s
 refine wpAny_bind (wpAny_mono (wpAny_comprehension_free (use:=some (assign (.Name x px) X.env)) (Q:=fun _ s'=>SP X pins DD .next s') rfl hs hclos cs.kind cs.loc
  (thn (hi pins s σ H (fun J H2=>Same H H2∧ItD X.K T S H2 J ds∧ds.length≤sizeLine) I ⟨re,fun J H2 a b z=>⟨a,b,z⟩⟩) fun v s1 h1=>thn h1 fun itv s2 h2=>?_)) (fun _ s' hq=>wpAny_pure (wpAny_pure hq)) fun _ _ e=>e)
 obtain ⟨it,fp,tn,J,H2,e,I2,TU,st2,f2,sm,itd,hlen⟩:=h2
 subst e
 refine comp_block (RR:=fun acc C=>compPost (model X.prog X.w) X.A X.xe (some (assign (.Name x px) X.env)) (fun _ s'=>SP X pins DD .next s') acc C) h cs hfr htn htg hcl hhas I2 (re.same sm) TU st2 f2 itd hlen hout hstep ?_
 intro D C s' H' ys m I' sm' hD hD' rp hn ⟨c1,c2,c3,c4,c5⟩
 obtain ⟨hN,hk⟩:=nameT_at hx
 obtain ⟨hl,hf⟩:=h.loc hk
 show wpAny _ X.A (assign (.Name x px) X.env (.ref D)) _ _ _
 refine wpAny_assign_Name (store_ok2 I' (by rw [h.N]; exact h.nd) (by rw [h.N]; exact hN) hl (v:=.ref D) (u:=.ref D) rfl (fun s'' I'' ⟨a,sb,ha⟩=>?_) hf)
 have hCa:C≠a:=by
  rcases ha with z|z
  ·rw [z]; exact c2
  ·exact fun w=>c4 x a z w.symm
 refine ⟨m,hn.sameBut sb hCa,fun h' hs'=>⟨_,H',I''.turned (t':=s''.toks) (fun b o hb e=>hs'.extBut b o hb e) c1 c2 (.inr c3) c4 c5,q D ys H' (sm.trans sm') (sm.free hD) hD' rp⟩⟩
end
end Z
namespace Z
open PySem PySem.Spec PyProof.Rows L2
noncomputable def Itv (K:PySem.W.Frag) (a:Addr) (n:Nat):It:=
 ⟨fun i H=>∃ xs x,SqL K H a xs∧xs.length=n∧xs[n-1-i]?=some x∧i<n,fun i H x H'=>H'=H∧∀ xs,SqL K H a xs→xs[n-1-i]?=some x,fun i H=>n≤i⟩
theorem turn_rev {P:Program} {w:World} {K:PySem.W.Frag} {tg:Expr} (a it:Addr) (n:Nat):Turn P w K tg (Itv K a n) [it] it (fun i h=>i≤n∧h.IsRevIter it a ((n:Int)-1-(i:Int))) where
 mem:=by simp
 obj:=fun i h st b hb=>by
  have e:b=it:=by simpa using hb
  subst e
  obtain ⟨_,o,e,c,d⟩:=st
  exact ⟨o,e,fun v z=>by rw [d] at z; cases z⟩
 keep:=fun i h h' st k=>⟨st.1,st.2.at fun o e=>k it (by simp) o e⟩
 item:=by
  intro X hP hw hK hc i pins s σ H E I hf st hg
  subst hP hw hK
  obtain ⟨xs,x,hq,hn,hx,hi⟩:=hg
  obtain ⟨its,rv,p,hz⟩:=I.list hq
  obtain ⟨u,hu,ru⟩:=rv.get hx
  obtain ⟨f0,f1,f2,f3,f4,f5⟩:=hf it (by simp)
  have e1:(n:Int)-1-(i:Int)=((n-1-i:Nat):Int):=by omega
  have st1:=st.2
  rw [e1] at st1
  refine wpAny_pyNext_rev_item st1 p.isList (x:=u) (by simpa using hu) fun h' st' sb=>?_
  have I1:Inv X pins σ H { s with heap:=h' }:=I.turned (t':=s.toks) (fun b o hb e=>(sb.2 b hb).trans e) f0 f1 f3 f4 f5
  obtain ⟨o,e,c,d⟩:=id st'
  have e2:((n-1-i:Nat):Int)-1=(n:Int)-1-((i+1:Nat):Int):=by omega
  rw [e2] at st'
  exact ⟨u,rfl,go_of (s:={ s with heap:=h' }) e c d (by decide) ⟨x,H,I1,ru,⟨rfl,fun ys hy=>by rw [I.list_inj hy hq]; exact hx⟩,⟨hi,st'⟩,fun b hb=>(hf b hb).1⟩⟩
 done:=by
  intro X hP hw hK hc i pins s σ H E I hf st hg
  subst hP hw hK
  have hg':n≤i:=hg
  have ei:i=n:=Nat.le_antisymm st.1 hg'
  subst ei
  obtain ⟨f0,f1,f2,f3,f4,f5⟩:=hf it (by simp)
  have e1:(i:Int)-1-(i:Int)=-1:=by omega
  have st1:=st.2
  rw [e1] at st1
  exact wpAny_pyNext_rev_end (I.ok.hd hc) st1 fun h' eb=>⟨rfl,I.turned (t':=s.toks) (fun b o hb e=>eb b o hb e) f0 f1 f3 f4 f5⟩
 self:=fun _ _ _ _ _ st h=>wpAny_pyIter_revIter st.2 h
section
variable {CX:CXT}{X:Cx}{c:CC}{G:GS}{T:Tx}{lv:Nat}{ρ:List Sl}{S:Addr→Prop}{tg:Expr}
theorem itd_rev {H1:Hp} {a:Addr} {xs:List V} {ds:List D} (n:¬ S a) (hq:SqL X.K H1 a xs) (r:RepL X.K T H1 S ds xs):ItD X.K T S H1 (Itv X.K a xs.length) ds.reverse:=fun H S' mv dom=>by
 obtain ⟨n',k⟩:=mv a n (SqL.has hq)
 have hq':=SqL.keeps hq k
 have hl:=r.len
 refine ⟨fun i d e=>?_,fun i hi=>?_⟩
 ·have hi:i<ds.length:=by
   have:=(List.getElem?_eq_some_iff.mp e).1
   simpa using this
  rw [List.getElem?_reverse hi] at e
  obtain ⟨x,e1,rx⟩:=r.get e
  rw [hl] at e1 hi
  refine ⟨⟨xs,x,hq',rfl,e1,hi⟩,fun y H' ⟨eH,ey⟩=>?_⟩
  subst eH
  have:=ey xs hq'
  rw [e1] at this
  cases this
  exact ⟨Same.refl _,Rep.gen mv d x rx⟩
 ·show xs.length≤i
  rw [← hl]
  simpa using hi
theorem pi_revD {a:Expr} {p pos:Pos} {d:D} {ds:List D} (hg:Gl X "reversed") (hm:X.mg "reversed" = none) (ha:PA X [a] (tAs X.K T S ρ [d])) (hs:starEach [a] X.env=[(false,eval a X.env)]) (hi:itRev d=some ds) :
  PI X tg (.Call (.Name "reversed" p) [a] [] pos) (tI X.K T S ρ ds):=by
 intro pins s σ H R I ⟨re,q⟩
 refine Call_ (ld_blt I hg hm boot_reversed (PyProof.Rows.callWith_type1 (thn (ha pos pins s σ H (fun vs H'=>Same H H'∧RepL X.K T H' S [d] vs) I ⟨re,fun vs H' a b=>⟨a,b⟩⟩) fun us s1 ⟨vs,H1,I1,r1,sm,rl⟩=>?_) hs rfl))
 unfold RepL at rl
 obtain ⟨x,r',rfl,rx,rr⟩:=rl
 unfold RepL at rr
 subst rr
 cases r1 with
 | cons r rr =>
  cases rr
  cases d<;>simp only [itRev,reduceCtorEq,Option.some.injEq] at hi
  rename_i ds'
  subst hi
  unfold Rep at rx
  obtain ⟨l,xs,e,n,hq,rl⟩:=rx
  subst e
  cases r
  obtain ⟨its,rv,pl,hz⟩:=I1.list (SqL.of hq)
  have hlen:=rv.length
  refine call_reversed_list pl.isList ?_
  have I2:Inv X pins σ H1 { s1 with heap:=s1.heap.push (revObj l ((its.toArray.size:Int)-1)) }:=I1.kept (t':=s1.toks) fun b o e=>Heap.get?_push_of_some _ e
  have hri:({ s1 with heap:=s1.heap.push (revObj l ((its.toArray.size:Int)-1)) }:Shared).heap.IsRevIter s1.heap.objs.size l ((xs.length:Int)-1):=by
   refine ⟨_,Heap.get?_push_size _ rfl,rfl,?_⟩
   have:(its.toArray.size:Int)=(xs.length:Int):=by rw [List.size_toArray,hlen]
   show Data.fields #[.ref l,rawInt ((its.toArray.size:Int)-1)]=_
   rw [this]
  refine wpAny_pyIter_revIter hri ?_
  refine ⟨s1.heap.objs.size,[s1.heap.objs.size],_,_,H1,rfl,I2,turn_rev l _ xs.length,⟨Nat.zero_le _,by simpa using hri⟩,fun b hb=>?_,q _ _ sm (itd_rev n (SqL.of hq) rl) ?_⟩
  ·have e:b=s1.heap.objs.size:=by simpa using hb
   subst e
   exact I1.fpOk (Nat.le_refl _) (I1.hok.fresh (Nat.le_refl _))
  ·rw [List.length_reverse,rl.len]; exact hz
end
end Z
namespace Z
open PySem PySem.Spec PyProof.Rows L2
theorem bt_list:bootBuiltins "list" = some (.type "list"):=by decide +kernel
theorem nolen_lri:typeLookup (.type "list_reverseiterator") "__len__" = pure none:=by rw [typeLookup_type,builtinLookup_eq_fast]; kernel_rfl
theorem hint_lri:typeLookup (.type "list_reverseiterator") "__length_hint__" = pure (some (.builtin "list_reverseiterator.__length_hint__")):=by rw [typeLookup_type,builtinLookup_eq_fast]; kernel_rfl
section
variable {prog:Program}{w:World}{A:Around}{E:Value→Shared→Prop}{s:Shared}
theorem call_list_rev {Q:Value→Shared→Prop} {I l:Addr} {items:Array Value} (hh:A.handled=none) (hne:l≠I) (hit:s.heap.IsRevIter I l ((items.size:Int)-1)) (hl:s.heap.IsList l items) (hz:items.size≤sizeLine)
  (hQ:∀ h' tk acc' c',(∀ b o,b≠I→s.heap.get? b=some o→h'.get? b=some o)→h'.get? s.heap.objs.size=some { cls:=.type "list",dict:=none,data:=.seq acc' c',slots:=#[] } →
   acc'=items.reverse→Q (.ref s.heap.objs.size) { s with heap:=h',toks:=tk }) :
  wpAny (model prog w) A (call (.type "list") [.ref I]) Q E s:=by
 refine callType_codes (Q₁:=fun obj s₁=>obj=.ref s.heap.objs.size∧s₁ = { s with heap:=s.heap.push { cls:=.type "list",data:=.seq #[] } }) F.called_list (F.typeCall_list_1 _) F.entry_list_init
  (code_list_new _ ⟨rfl,rfl⟩) fun obj s₁ h₁=>?_
 obtain ⟨rfl,rfl⟩:=h₁
 have hIlt:I<s.heap.objs.size:=by obtain ⟨o,e,_⟩:=hit; exact Heap.lt_size e
 have hllt:l<s.heap.objs.size:=by obtain ⟨o,e,_⟩:=hl; exact Heap.lt_size e
 have hS:(s.heap.push { cls:=.type "list",data:=.seq #[] }).get? s.heap.objs.size=some { cls:=.type "list",data:=.seq #[] }:=Heap.get?_push_size _ rfl
 have hup:∀ b o,s.heap.get? b=some o→(s.heap.push { cls:=.type "list",data:=.seq #[] }).get? b=some o:=fun b o e=>Heap.get?_push_of_some _ e
 refine ⟨⟨_,hS,rfl⟩,F.args_list_init_2 _ _,?_⟩
 generalize hSe:s.heap.objs.size=S at *
 generalize hs1:s.heap.push { cls:=.type "list",data:=.seq #[] }=h1 at *
 have hSI:S≠I:=Nat.ne_of_gt hIlt
 have hSl:S≠l:=Nat.ne_of_gt hllt
 show wpAny _ _ (do let old ← Builtin.List.listItems (.ref S); Builtin.List.listUpdate (.ref S) (fun _=>#[]); letGo old.toList.reverse; Builtin.List.listExtendWith (.ref S) (.ref I) .none) _ _ _
 refine wpAny_bind ?_
 unfold Builtin.List.listItems
 refine wpAny_bind (wpAny_seqItems hS rfl (wpAny_pure ?_))
 show wpAny _ _ (updateSeq S (fun _=>#[]) >>= fun _=>letGo (#[]:Array Value).toList.reverse >>= fun _=>Builtin.List.listExtendWith (.ref S) (.ref I) .none) _ _ _
 refine wpAny_bind (wpAny_updateSeq hS rfl ?_)
 have hS₂:=Heap.get?_update_self (Obj.mapSeq (fun _=>(#[]:Array Value))) hS rfl
 have oth:∀ b o,b≠S→h1.get? b=some o→(h1.update S (Obj.mapSeq (fun _=>(#[]:Array Value)))).get? b=some o:=
  fun b o hb e=>(Heap.get?_update_other _ _ (Ne.symm hb)).trans e
 refine wpAny_bind (wpAny_letGo ?_)
 generalize h1.update S (Obj.mapSeq (fun _=>(#[]:Array Value)))=h2 at *
 have W:=(Walks.listRev (prog:=prog) (w:=w) (A:=A.in1.in1) hh I l hne items).toS
 have hit2:h2.IsRevIter I l ((items.size:Int)-1-((0:Nat):Int)):=by
  have e0:(items.size:Int)-1-((0:Nat):Int)=(items.size:Int)-1:=by omega
  rw [e0]
  exact hit.at fun o e=>oth I o (Ne.symm hSI) (hup _ _ e)
 have hl2:h2.IsList l items:=hl.at fun o e=>oth l o (Ne.symm hSl) (hup _ _ e)
 have hT:({ s with heap:=h2 }:Shared).TypeIs (.ref I) "list_reverseiterator":=hit2.typeIs (s:={ s with heap:=h2 })
 have hSf:S ∉ [I,l]:=by simp [hSI,hSl]
 have hs1':Builtin.List.listSameRef (.ref S) (.ref I)=false:=by simp [Builtin.List.listSameRef,hSI]
 show wpAny _ _ (Builtin.List.listExtendWith (.ref S) (.ref I) .none) _ _ { s with heap:=h2 }
 unfold Builtin.List.listExtendWith
 refine wpAny_bind (wpAny_typeOf hT ?_)
 rw [if_neg (by rw [hs1']; decide)]
 refine wpAny_bind (W.self 0 _ _ _ ⟨Nat.zero_le _,hit2,hl2⟩ ?_)
 refine wpAny_bind (wpAny_holding ?_)
 unfold Builtin.List.listLengthHint
 refine wpAny_bind (wpAny_specialOf hT nolen_lri ?_)
 show wpAny _ _ (specialOf (Value.ref I) (Str.ofString "__length_hint__") >>= _) _ _ _
 refine wpAny_bind (wpAny_specialOf hT hint_lri ?_)
 (generalize hid:("list_reverseiterator.__length_hint__":String)=id0; (fail_if_success (clear hid id0)); wp_delta; rw [show splitId id0=some ("list_reverseiterator","__length_hint__") from by subst hid; decide +kernel]; subst hid)
 refine wpAny_bind (wpAny_isInstance (b:=true) hT (by rw [isSubtype_type]; kernel_rfl) ?_)
 refine wpAny_pure ?_
 rw [if_neg (by decide)]
 refine wpAny_pure ⟨plainId_quiet F.plain_extend_loop _,codeAny_extend_loopS W hz S hSf _ items.size 0 _ _ _ rfl (Nat.zero_le _) ⟨Nat.zero_le _,hit2,hl2⟩ hS₂ (ItemsOf.nil _) fun s' acc' c' hm hS' hacc=>?_⟩
 refine ⟨rfl,?_⟩
 rw [Moved.eq_with hm]
 refine hQ s'.heap s'.toks acc' c' (fun b o hb e=>?_) hS' ?_
 ·have hbS:b≠S:=fun z=>by
   subst z
   exact absurd (Heap.lt_size e) (by rw [hSe]; exact Nat.lt_irrefl _)
  exact hm.heap b o (by simp [hbS,hb]) (oth b o hbS (hup _ _ e))
 ·obtain ⟨hl1,hl2⟩:=hacc
  apply Array.ext
  ·rw [hl1,Array.size_reverse]
  ·intro i h3 h4
   have h5:=hl2 i acc'[i] (Array.getElem?_eq_getElem h3)
   rw [Array.getElem_reverse]
   obtain ⟨_,e⟩:=Array.getElem?_eq_some_iff.mp h5
   exact e.symm
end
section
variable {CX:CXT}{X:Cx}{c:CC}{G:GS}{T:Tx}{lv:Nat}{ρ:List Sl}{S:Addr→Prop}
theorem pe_listrev {a:Expr} {p pos p2 pos2:Pos} {d:D} {ds:List D} (hc:X.calm=true) (hg:Gl X "reversed") (hm:X.mg "reversed" = none) (hgl:Gl X "list") (hml:X.mg "list" = none) (ha:PA X [a] (tAs X.K T S ρ [d])) (hs:starEach [a] X.env=[(false,eval a X.env)]) (hi:itRev d=some ds) :
  PE X (.Call (.Name "list" p2) [.Call (.Name "reversed" p) [a] [] pos] [] pos2) (tNw X.K T S ρ ds):=by
 intro pins s σ H Q I ⟨re,q⟩
 refine Call_ (ld_blt I hgl hml bt_list (PyProof.Rows.callWith_type1 (Calls.spliced_cons (Call_ (ld_blt I hg hm boot_reversed (PyProof.Rows.callWith_type1 (thn (ha pos pins s σ H (fun vs H'=>Same H H'∧RepL X.K T H' S [d] vs) I ⟨re,fun vs H' a b=>⟨a,b⟩⟩) fun us s1 ⟨vs,H1,I1,r1,sm,rl⟩=>?_) hs rfl)))) rfl rfl))
 unfold RepL at rl
 obtain ⟨x,r',rfl,rx,rr⟩:=rl
 unfold RepL at rr
 subst rr
 cases r1 with
 | cons r rr =>
  cases rr
  cases d<;>simp only [itRev,reduceCtorEq,Option.some.injEq] at hi
  rename_i ds'
  subst hi
  unfold Rep at rx
  obtain ⟨l,xs,e,n,hq,rl⟩:=rx
  subst e
  cases r
  obtain ⟨its,rv,pl,hz⟩:=I1.list (SqL.of hq)
  have hlen:=rv.length
  refine call_reversed_list pl.isList ?_
  refine Calls.spliced_nil ?_
  have hllt:l<s1.heap.objs.size:=by obtain ⟨o,e,_⟩:=pl.isList; exact Heap.lt_size e
  refine call_list_rev (I:=s1.heap.objs.size) (items:=its.toArray) (I1.ok.hd hc) (Nat.ne_of_lt hllt) ⟨_,Heap.get?_push_size _ rfl,rfl,rfl⟩ (pl.isList.at fun o e=>Heap.get?_push_of_some _ e) (by rw [List.size_toArray,← hlen]; exact hz) fun h' tk acc' c' hk hS' hacc=>?_
  have e1:(s1.heap.push (revObj l ((its.toArray.size:Int)-1))).objs.size=s1.heap.objs.size+1:=Heap.size_push ..
  have I3:Inv X pins σ (upd H1 (s1.heap.push (revObj l ((its.toArray.size:Int)-1))).objs.size (.lst xs.reverse)) { s1 with heap:=h',toks:=tk }:=by
   refine I1.laid (fun b u e=>hk b u (Nat.ne_of_lt (Heap.lt_size e)) (Heap.get?_push_of_some _ e)) (by rw [e1]; exact Nat.le_succ _) ?_
   refine ⟨by rw [List.length_reverse]; exact hz,its.reverse,c',Vals.reverse rv,?_⟩
   rw [hS',hacc]
   simp
  have hfr:H1 (s1.heap.push (revObj l ((its.toArray.size:Int)-1))).objs.size=none:=I1.hok.fresh (by rw [e1]; exact Nat.le_succ _)
  exact ⟨.ref _,_,I3,rfl,q _ xs.reverse _ (sm.trans (Same.upd hfr)) (sm.free hfr) upd_same (by rw [er_upd hfr]; exact rl.rev)⟩
end
end Z
namespace Z
open PySem PySem.Spec PyProof.Rows L2
section
variable {CX:CXT}{X:Cx}{c:CC}{G:GS}{T:Tx}{lv:Nat}{ρ:List Sl}{S:Addr→Prop}{pos:Pos}{ea eb ec:Expr}{a b d:D}
theorem slot_im {i:Nat} (h:slot ρ i=some d):ρ[i]?=some (.im d):=by
 unfold slot at h
 split at h
 ·rename_i e; cases h; exact e
 ·cases h
theorem n_var (h:XC CX X c G T lv) {x:Str} {i:Nat} (e:slotOf c x=some i) (hs:slot ρ i=some d):PE X (.Name x pos) (tD X.K T S ρ d):=by
 obtain ⟨hN,hk⟩:=slot_at e
 have hm:x ∈ c.N:=List.mem_of_getElem? hN
 refine PE.mono (pe_var (by rw [h.N]; exact hN) (h.vis hk) (h.dbg x hm).1 (h.dbg x hm).2) fun σ H Q ⟨re,q⟩=>?_
 obtain ⟨v,e1,r⟩:=re.at_ i _ (slot_im hs)
 exact ⟨v,e1,q v H (Same.refl H) r⟩
theorem n_ref (h:XC CX X c G T lv) {x:Str} {i:Nat} (e:slotOf c x=some i):PE X (.Name x pos) (tVar i):=by
 obtain ⟨hN,hk⟩:=slot_at e
 have hm:x ∈ c.N:=List.mem_of_getElem? hN
 exact pe_var (by rw [h.N]; exact hN) (h.vis hk) (h.dbg x hm).1 (h.dbg x hm).2
theorem n_glo (h:XC CX X c G T lv) {x:Str} (e:isGlob c x=true) (hc:c.csts.contains x=true) (hd:G.cst x=some d):PE X (.Name x pos) (tD X.K T S ρ d):=by
 obtain ⟨u,v,e1,r,hr⟩:=h.go.cst x d hd hc
 intro pins s σ H Q I ⟨re,q⟩
 exact ld_glob I (h.glob e) e1 ⟨v,H,I,r,q v H (Same.refl H) (hr H S (kfree I) re.dom)⟩ (h.gne e)
theorem n_int {i:Int} {j:Nat}:PE X (.Constant (.int i) j pos) (tD X.K T S ρ (.int i)):=PE.mono pe_int fun σ H Q ⟨re,q⟩=>q _ H (Same.refl H) (by unfold Rep; rfl)
theorem n_bl {i:Bool} {j:Nat}:PE X (.Constant (.bool i) j pos) (tD X.K T S ρ (.bl i)):=PE.mono pe_bl fun σ H Q ⟨re,q⟩=>q _ H (Same.refl H) (by unfold Rep; rfl)
theorem n_str {i:Str} {j:Nat}:PE X (.Constant (.str i) j pos) (tD X.K T S ρ (.str i)):=PE.mono pe_str fun σ H Q ⟨re,q⟩=>q _ H (Same.refl H) (by unfold Rep; rfl)
theorem n_non {j:Nat}:PE X (.Constant .none j pos) (tD X.K T S ρ .non):=PE.mono pe_non fun σ H Q ⟨re,q⟩=>q _ H (Same.refl H) (by unfold Rep; rfl)
theorem two_mono {o:O2} (hd:op2 o a b=some d):∀ σ H Q,tD X.K T S ρ d σ H Q→tOp (rD X.K T S o) (tD X.K T S ρ a) (tD X.K T S ρ b) σ H Q:=fun σ H Q ⟨re,q⟩ =>
 ⟨re,fun x H1 s1 r1=>⟨re.same s1,fun y H2 s2 r2=>⟨a,b,d,((re.same s1).same s2).dom,r1.same s2,r2,hd,fun v H' s3 r3=>q v H' (s1.trans (s2.trans s3)) r3⟩⟩⟩
theorem n_bin {op:Operator} {o:O2} (ho:opOf op=some o) (ha:PE X ea (tD X.K T S ρ a)) (hb:PE X eb (tD X.K T S ρ b)) (hd:op2 o a b=some d):PE X (.BinOp ea op eb pos) (tD X.K T S ρ d):=
 PE.mono (pe_op (opD_bin ho) ha hb) (two_mono hd)
theorem opD_isnot:OpR X (compareOp .IsNot) (rD X.K T S .isnot):=by
 rintro pins s σ H x y v u Q I rx ry ⟨a,b,d,dom,ra,rb,e,q⟩
 have go:∀ k,b=.non→k=decide (x=V.non)→d=.bl (!k)→wpAny (model X.prog X.w) X.A (compareOp .IsNot v u) (EP X pins σ Q) X.xe s:=fun k hb hk hd=>by
  subst hb hd hk
  unfold Rep at rb
  exact op_notN pins s σ H x y v u Q I rx ry ⟨rb,q _ H (Same.refl H) rep_bl⟩
 simp only [op2,oIsNot,isD] at e
 split at e<;>simp only [Option.map_some,Option.map_none,Option.some.injEq,reduceCtorEq] at e
 all_goals subst e
 all_goals first
  | (unfold Rep at ra; refine go _ rfl ?_ rfl; first|(subst ra; rfl)|(obtain ⟨_,_,rfl,_⟩:=ra; rfl)|(obtain ⟨_,_,_,_,rfl,_⟩:=ra; rfl))
  | (unfold Rep at ra rb
     subst ra rb
     cases rx
     cases ry
     exact isnot_bool ⟨.bl _,H,I,rfl,q _ H (Same.refl H) rep_bl⟩)
theorem opD_cmp (hu:X.A.units+64<cLine) (op:CmpOp):OpR X (compareOp op) (rD X.K T S (cmpOf op)):=by
 cases op
 ·exact opD_eq hu
 ·exact opD_ne hu
 ·exact opD_lt
 ·exact opD_le
 ·exact opD_gt
 ·exact opD_ge
 ·exact opD_is
 ·exact opD_isnot
 ·exact opD_in hu
 ·exact opD_notin hu
theorem n_cmp (hu:X.A.units+64<cLine) {op:CmpOp} (ha:PE X ea (tD X.K T S ρ a)) (hb:PE X eb (tD X.K T S ρ b)) (hm:behindInMarks op eb=false) (hd:op2 (cmpOf op) a b=some d):PE X (.Compare ea [op] [eb] pos) (tD X.K T S ρ d):=
 PE.mono (pe_cmpR (opD_cmp hu op) ha hb hm) (two_mono hd)
theorem n_cmpT (hu:X.A.units+64<cLine) {op:CmpOp} {k:Bool} (ha:PE X ea (tD X.K T S ρ a)) (hb:PE X eb (tD X.K T S ρ b)) (hm:behindInMarks op eb=false) (hd:op2 (cmpOf op) a b=some (.bl k)):PT X (.Compare ea [op] [eb] pos) (tTe X.K T S ρ k):=
 PT.mono (pt_cmpR (opD_cmp hu op) ha hb hm) fun σ H Q ⟨re,q⟩=>two_mono hd σ H _ ⟨re,fun v H' sm r=>by
  unfold Rep at r
  exact ⟨k,r,q H' sm⟩⟩
theorem chain_mono {o o':O2} {c':D} {k:Bool} (h1:op2 o a b=some (.bl k)) (h2:if k=true then op2 o' b c'=some d else d=.bl false):∀ σ H Q,tD X.K T S ρ d σ H Q→tChain (rD X.K T S o) (rD X.K T S o') (tD X.K T S ρ a) (tD X.K T S ρ b) (tD X.K T S ρ c') σ H Q:=
 fun σ H Q ⟨re,q⟩=>⟨re,fun x H1 s1 r1=>⟨re.same s1,fun y H2 s2 r2=>⟨a,b,.bl k,((re.same s1).same s2).dom,r1.same s2,r2,h1,fun z H3 s3 r3=>by
  unfold Rep at r3
  refine ⟨k,r3,?_⟩
  cases k with
  | true =>
   rw [if_pos rfl] at h2 ⊢
   exact ⟨((re.same s1).same s2).same s3,fun w' H4 s4 r4=>⟨b,c',d,(((re.same s1).same s2).same s3).same s4 |>.dom,(r2.same s3).same s4,r4,h2,fun v H' s5 r5=>q v H' (s1.trans (s2.trans (s3.trans (s4.trans s5)))) r5⟩⟩
  | false =>
   rw [if_neg Bool.false_ne_true] at h2 ⊢
   subst h2
   exact q _ H3 (s1.trans (s2.trans s3)) rep_bl⟩⟩⟩
theorem n_chain (hu:X.A.units+64<cLine) {op op':CmpOp} {c':D} {k:Bool} (ha:PE X ea (tD X.K T S ρ a)) (hb:PE X eb (tD X.K T S ρ b)) (hc:PE X ec (tD X.K T S ρ c')) (hm:lastMarks [op,op'] [eb,ec]=false)
  (h1:op2 (cmpOf op) a b=some (.bl k)) (h2:if k=true then op2 (cmpOf op') b c'=some d else d=.bl false):PE X (.Compare ea [op,op'] [eb,ec] pos) (tD X.K T S ρ d):=
 PE.mono (pe_chain (opD_cmp hu op) (opD_cmp hu op') ha hb hc hm) (chain_mono h1 h2)
theorem n_chainT (hu:X.A.units+64<cLine) {op op':CmpOp} {c':D} {k k':Bool} (ha:PE X ea (tD X.K T S ρ a)) (hb:PE X eb (tD X.K T S ρ b)) (hc:PE X ec (tD X.K T S ρ c')) (hm:lastMarks [op,op'] [eb,ec]=false)
  (h1:op2 (cmpOf op) a b=some (.bl k)) (h2:if k=true then op2 (cmpOf op') b c'=some (.bl k') else D.bl k'=.bl false):PT X (.Compare ea [op,op'] [eb,ec] pos) (tTe X.K T S ρ k'):=
 PT.mono (pt_chain (opD_cmp hu op) (opD_cmp hu op') ha hb hc hm) fun σ H Q ⟨re,q⟩=>chain_mono h1 h2 σ H _ ⟨re,fun v H' sm r=>by
  unfold Rep at r
  exact ⟨k',r,q H' sm⟩⟩
theorem n_neg {i:Int} (ha:PE X ea (tD X.K T S ρ (.int i))):PE X (.UnaryOp .USub ea pos) (tD X.K T S ρ (.int (-i))):=
 PE.mono (pe_un un_neg ha) fun σ H Q ⟨re,q⟩=>⟨re,fun x H1 s1 r1=>by
  unfold Rep at r1
  exact ⟨i,r1,q _ H1 s1 (by unfold Rep; rfl)⟩⟩
theorem _root_.Z.RepL.emp {K:PySem.W.Frag} {H:Hp} {ds:List D} {xs:List V} (r:RepL K T H S ds xs):ds.isEmpty=xs.isEmpty:=by
 have:=r.len
 cases ds<;>cases xs<;>simp_all
theorem truD {H:Hp} {v:V} {k:Bool} (r:Rep X.K T H S a v) (h:tru a=some k):TruV X.K v H k:=by
 cases a<;>simp only [tru,reduceCtorEq,Option.some.injEq] at h
 ·unfold Rep at r; subst r; exact h.symm
 ·unfold Rep at r; subst r; exact h.symm
 ·unfold Rep at r; subst r; exact h.symm
 ·unfold Rep at r
  obtain ⟨p,xs,rfl,_,e,rl⟩:=r
  refine .inl ⟨xs,SqL.of e,?_⟩
  rw [← h]
  rw [rl.emp]
 ·unfold Rep at r
  obtain ⟨p,xs,rfl,_,e,rl⟩:=r
  refine .inr (.inl ⟨xs,e,?_⟩)
  rw [← h]
  rw [rl.emp]
 ·unfold Rep at r
  obtain ⟨p,xs,rfl,_,e,rl⟩:=r
  refine .inl ⟨xs,e,?_⟩
  rw [← h]
  rw [rl.emp]
theorem n_truth {k:Bool} (ha:PE X ea (tD X.K T S ρ a)) (he:∀ whole,isTrue ea X.env whole=(do let v ← whole; standAt ea.pos; holding [v] (truthy v))) (h:tru a=some k):PT X ea (tTe X.K T S ρ k):=
 PT.mono (pt_truth ha he) fun σ H Q ⟨re,q⟩=>⟨re,fun x H1 s1 r1=>⟨k,truD r1 h,q H1 s1⟩⟩
theorem n_notT {k:Bool} (ha:PT X ea (tTe X.K T S ρ k)):PT X (.UnaryOp .Not ea pos) (tTe X.K T S ρ (!k)):=PT.mono (pt_not ha) fun σ H Q ⟨re,q⟩=>⟨re,fun H1 s1=>q H1 s1⟩
theorem n_not {k:Bool} (ha:PE X ea (tD X.K T S ρ a)) (h:tru a=some k):PE X (.UnaryOp .Not ea pos) (tD X.K T S ρ (.bl (!k))):=by
 intro pins s σ H Q I ⟨re,q⟩
 refine UnaryOp_ (thn (ha pins s σ H (fun v H'=>Same H H'∧Rep X.K T H' S a v) I ⟨re,fun v H' a b=>⟨a,b⟩⟩) fun v s1 ⟨x,H1,I1,r1,sm,rx⟩=>?_)
 exact not_of (thn (tru_ok pins s1 σ H1 x v (fun b H2=>b=k∧H2=H1) I1 r1 ⟨k,truD rx h,rfl,rfl⟩) fun b s2 ⟨H2,I2,eb,eH⟩=>by
  subst eb eH
  exact ⟨.bl (!b),H2,I2,rfl,q _ H2 sm rep_bl⟩)
theorem n_ite {k:Bool} (hc:PT X ec (tTe X.K T S ρ k)) (ha:k=true→PE X ea (tD X.K T S ρ d)) (hb:k=false→PE X eb (tD X.K T S ρ d)):PE X (.IfExp ec ea eb pos) (tD X.K T S ρ d):=by
 cases k with
 | true =>
  refine PE.mono (pe_ifExp hc (ha rfl) (tb:=fun _ _ _=>False) (fun _ _ _ _ _ _ h=>h.elim)) fun σ H Q ⟨re,q⟩=>⟨re,fun H1 s1=>?_⟩
  exact iteT ⟨re.same s1,fun v H' s2 r=>q v H' (s1.trans s2) r⟩
 | false =>
  refine PE.mono (pe_ifExp hc (ta:=fun _ _ _=>False) (fun _ _ _ _ _ _ h=>h.elim) (hb rfl)) fun σ H Q ⟨re,q⟩=>⟨re,fun H1 s1=>?_⟩
  exact iteF ⟨re.same s1,fun v H' s2 r=>q v H' (s1.trans s2) r⟩
theorem n_nil:PA X [] (tAs X.K T S ρ []):=PA.mono pa_nil fun σ H Q ⟨re,q⟩=>q [] H (Same.refl H) RepL.nil
theorem n_cons {es:List Expr} {ds:List D} (ha:PE X ea (tD X.K T S ρ a)) (hr:PA X es (tAs X.K T S ρ ds)) (hs:starEach (ea::es) X.env=(false,eval ea X.env)::starEach es X.env):PA X (ea::es) (tAs X.K T S ρ (a::ds)):=
 PA.mono (pa_cons ha hr hs) fun σ H Q ⟨re,q⟩=>⟨re,fun x H1 s1 r1=>⟨re.same s1,fun xs H2 s2 r2=>q _ H2 (s1.trans s2) (RepL.cons (r1.same s2) r2)⟩⟩
theorem n_tup {es:List Expr} {ds:List D} {x1:Nat} (h:PA X es (tAs X.K T S ρ ds)) (hl:ds.length≤sizeLine):PE X (.Tuple es x1 pos) (tD X.K T S ρ (.tup ds)):=
 PE.mono (pe_tup h) fun σ H Q ⟨re,q⟩=>⟨re,fun xs H1 s1 r1=>⟨by rw [← r1.len]; exact hl,fun p hp=>q _ _ (s1.trans (Same.upd hp)) (rep_new_tup (re.same s1).dom hp r1)⟩⟩
theorem n_lst {es:List Expr} {ds:List D} (h:PA X es (tAs X.K T S ρ ds)) (hl:ds.length≤sizeLine):PE X (.List es pos) (tNw X.K T S ρ ds):=
 PE.mono (pe_lst h) fun σ H Q ⟨re,q⟩=>⟨re,fun xs H1 s1 r1=>⟨by rw [← r1.len]; exact hl,fun p hp=>q _ _ _ (s1.trans (Same.upd hp)) (s1.free hp) upd_same (by rw [er_upd hp]; exact r1)⟩⟩
theorem n_new {e:Expr} {ds:List D} (h:PE X e (tNw X.K T S ρ ds)):PE X e (tD X.K T S ρ (.lst ds)):=
 PE.mono h fun σ H Q ⟨re,q⟩=>⟨re,fun p xs H' sm hp hp' r=>q _ H' sm (by unfold Rep; exact ⟨p,xs,rfl,re.nS hp,hp',r.er⟩)⟩
theorem atI_rep {K:PySem.W.Frag} {H:Hp} {ds:List D} {xs:List V} {i:Int} (r:RepL K T H S ds xs) (h:atI ds i=some d):∃ x,L2.atI xs i=some x∧Rep K T H S d x:=by
 unfold atI at h
 unfold L2.atI
 rw [Option.bind_eq_some_iff] at h
 obtain ⟨j,h1,h2⟩:=h
 obtain ⟨x,e,rx⟩:=r.get h2
 have h1':L2.ixN xs.length i=some j:=by rw [← r.len]; exact h1
 exact ⟨x,by rw [h1']; exact e,rx⟩
theorem ix_mono {i:Int} {ds:List D} (hc:a=.lst ds∨a=.tup ds∨a=.frz ds) (hd:atI ds i=some d):∀ σ H Q,tD X.K T S ρ d σ H Q→tOp (rIx X.K) (tD X.K T S ρ a) (tD X.K T S ρ (.int i)) σ H Q:=fun σ H Q ⟨re,q⟩ =>
 ⟨re,fun x H1 s1 r1=>⟨re.same s1,fun y H2 s2 r2=>by
  have r1':=r1.same s2
  unfold Rep at r2
  rcases hc with rfl|rfl|rfl
  ·unfold Rep at r1'
   obtain ⟨p,xs,ex,_,e,rl⟩:=r1'
   obtain ⟨v,e1,rv⟩:=atI_rep rl hd
   exact .inl ⟨p,xs,i,v,ex,r2,SqL.of e,e1,q v H2 (s1.trans s2) rv⟩
  ·unfold Rep at r1'
   obtain ⟨p,xs,ex,_,e,rl⟩:=r1'
   obtain ⟨v,e1,rv⟩:=atI_rep rl hd
   exact .inr (.inl ⟨p,xs,i,v,ex,r2,e,e1,q v H2 (s1.trans s2) rv⟩)
  ·unfold Rep at r1'
   obtain ⟨p,xs,ex,_,e,rl⟩:=r1'
   obtain ⟨v,e1,rv⟩:=atI_rep rl hd
   exact .inl ⟨p,xs,i,v,ex,r2,e,e1,q v H2 (s1.trans s2) rv⟩⟩⟩
theorem n_ix {i:Int} {ds:List D} (ha:PE X ea (tD X.K T S ρ a)) (hb:PE X eb (tD X.K T S ρ (.int i))) (hp:PlainIx eb) (hc:a=.lst ds∨a=.tup ds∨a=.frz ds) (hd:atI ds i=some d):PE X (.Subscript ea eb pos) (tD X.K T S ρ d):=
 PE.mono (pe_ix ix_seq ha hb hp) (ix_mono hc hd)
theorem slotL_ref {i:Nat} {ds:List D} {σ:L2.St} {H:Hp} (re:RE X.K T H S ρ σ) (h:slotL ρ i=some ds):∃ p xs,σ[i]?=some (some (.ref p))∧H p=some (.lst xs)∧RepL X.K T H S ds xs:=by
 unfold slotL at h
 split at h
 ·rename_i e
  cases h
  obtain ⟨v,e1,r⟩:=re.at_ i _ e
  unfold Rep at r
  obtain ⟨p,xs,rfl,_,e2,rl⟩:=r
  exact ⟨p,xs,e1,e2,rl⟩
 ·rename_i e
  cases h
  obtain ⟨p,ob,e1,_,e2,rm⟩:=re.at_ i _ e
  obtain ⟨xs,rfl,rl⟩:=rm.lst
  exact ⟨p,xs,e1,e2,rl⟩
 ·cases h
theorem n_ixm (h:XC CX X c G T lv) {x:Str} {p2:Pos} {j:Nat} {i:Int} {ds:List D} (e:slotOf c x=some j) (hb:PE X eb (tD X.K T S ρ (.int i))) (hp:PlainIx eb) (hs:slotL ρ j=some ds) (hd:atI ds i=some d):PE X (.Subscript (.Name x p2) eb pos) (tD X.K T S ρ d):=
 PE.mono (pe_ix ix_seq (n_ref h e) hb hp) fun σ H Q ⟨re,q⟩=>by
  obtain ⟨p,xs,e1,e2,rl⟩:=slotL_ref re hs
  refine ⟨.ref p,e1,re,fun y H2 s2 r2=>?_⟩
  unfold Rep at r2
  obtain ⟨v,e3,rv⟩:=atI_rep (rl.same s2) hd
  exact .inl ⟨p,xs,i,v,rfl,r2,SqL.of (s2 _ _ e2),e3,q v H2 s2 rv⟩
theorem cut_rep {K:PySem.W.Frag} {H:Hp} {ds:List D} {xs:List V} {lo hi:Option Int} (r:RepL K T H S ds xs):RepL K T H S (cut ds lo hi) (cutV xs lo hi):=by
 unfold cut cutV
 rw [r.len]
 exact (r.drop _).take _
noncomputable def tPt (K:PySem.W.Frag) (T:Tx) (S:Addr→Prop) (ρ:List Sl) (o:Option Int):TO:=fun σ H Q=>RE K T H S ρ σ∧∀ H',Same H H'→Q o H'
theorem n_po0:PO X none (tPt X.K T S ρ none):=fun pins s σ H Q I ⟨re,q⟩=>po_none pins s σ H Q I (q H (Same.refl H))
theorem n_po1 {i:Int} (ha:PE X ea (tD X.K T S ρ (.int i))):PO X (some ea) (tPt X.K T S ρ (some i)):=fun pins s σ H Q I ⟨re,q⟩=>po_some ha pins s σ H Q I ⟨re,fun v H' sm r=>by
 unfold Rep at r
 exact ⟨i,r,q H' sm⟩⟩
theorem n_slL {lo hi:Option Expr} {l h:Option Int} {p2:Pos} {ds:List D} (ha:PE X ea (tD X.K T S ρ a)) (hl:PO X lo (tPt X.K T S ρ l)) (hh:PO X hi (tPt X.K T S ρ h)) (hc:a=.lst ds∨a=.frz ds):PE X (.Subscript ea (.Slice lo hi none p2) pos) (tNw X.K T S ρ (cut ds l h)):=
 PE.mono (pe_slice sl_list ha hl hh) fun σ H Q ⟨re,q⟩=>⟨re,fun x H1 s1 r1=>⟨re.same s1,fun H2 s2=>⟨(re.same s1).same s2,fun H3 s3=>by
  have r1':=(r1.same s2).same s3
  have sm:=s1.trans (s2.trans s3)
  rcases hc with rfl|rfl
  ·unfold Rep at r1'
   obtain ⟨p,xs,ex,_,e,rl⟩:=r1'
   exact ⟨p,xs,ex,SqL.of e,fun p hp=>q _ _ _ (sm.trans (Same.upd hp)) (sm.free hp) upd_same (by rw [er_upd hp]; exact cut_rep rl)⟩
  ·unfold Rep at r1'
   obtain ⟨p,xs,ex,_,e,rl⟩:=r1'
   exact ⟨p,xs,ex,e,fun p hp=>q _ _ _ (sm.trans (Same.upd hp)) (sm.free hp) upd_same (by rw [er_upd hp]; exact cut_rep rl)⟩⟩⟩⟩
theorem n_slT {lo hi:Option Expr} {l h:Option Int} {p2:Pos} {ds:List D} (ha:PE X ea (tD X.K T S ρ (.tup ds))) (hl:PO X lo (tPt X.K T S ρ l)) (hh:PO X hi (tPt X.K T S ρ h)) (hw:¬ (sIx ds.length 0 l=0∧sIx ds.length ds.length h=ds.length)) :
  PE X (.Subscript ea (.Slice lo hi none p2) pos) (tD X.K T S ρ (.tup (cut ds l h))):=
 PE.mono (pe_slice sl_tup ha hl hh) fun σ H Q ⟨re,q⟩=>⟨re,fun x H1 s1 r1=>⟨re.same s1,fun H2 s2=>⟨(re.same s1).same s2,fun H3 s3=>by
  have r1':=(r1.same s2).same s3
  have sm:=s1.trans (s2.trans s3)
  have re3:=((re.same s1).same s2).same s3
  unfold Rep at r1'
  obtain ⟨p,xs,ex,_,e,rl⟩:=r1'
  exact ⟨p,xs,ex,e,by rw [← rl.len]; exact hw,fun p hp=>q _ _ (sm.trans (Same.upd hp)) (rep_new_tup re3.dom hp (cut_rep rl))⟩⟩⟩⟩
theorem n_slm (h:XC CX X c G T lv) {x:Str} {p3:Pos} {j:Nat} {lo hi:Option Expr} {l u:Option Int} {p2:Pos} {ds:List D} (e:slotOf c x=some j) (hs:slotL ρ j=some ds) (hl:PO X lo (tPt X.K T S ρ l)) (hh:PO X hi (tPt X.K T S ρ u)) :
  PE X (.Subscript (.Name x p3) (.Slice lo hi none p2) pos) (tNw X.K T S ρ (cut ds l u)):=
 PE.mono (pe_slice sl_list (n_ref h e) hl hh) fun σ H Q ⟨re,q⟩=>by
  obtain ⟨p,xs,e1,e2,rl⟩:=slotL_ref re hs
  refine ⟨.ref p,e1,re,fun H2 s2=>⟨re.same s2,fun H3 s3=>?_⟩⟩
  have sm:=s2.trans s3
  exact ⟨p,xs,rfl,SqL.of (s3 _ _ (s2 _ _ e2)),fun p hp=>q _ _ _ (sm.trans (Same.upd hp)) (sm.free hp) upd_same (by rw [er_upd hp]; exact cut_rep ((rl.same s2).same s3))⟩
theorem n_fld (h:XC CX X c G T lv) {cn f:Str} {fs:List (Str × D)} (ha:PE X ea (tD X.K T S ρ (.obj cn fs))) (hb:attributeBase ea f X.env (eval ea X.env)=eval ea X.env) (hf:(G.fl cn).contains f=true) (hd:fs.lookup f=some d):PE X (.Attribute ea f pos) (tD X.K T S ρ d):=
 PE.mono (pe_fld ha hb) fun σ H Q ⟨re,q⟩=>⟨re,fun x H1 s1 r1=>by
  unfold Rep at r1
  obtain ⟨p,C,dx,gs,ex,_,ec,e,rf⟩:=r1
  obtain ⟨v,e1,rv⟩:=(RepF.look rf).1 d hd
  exact ⟨p,C,dx,gs,v,ex,e,h.go.cls cn C ec,h.go.fld cn C f ec hf,e1,q v H1 s1 rv⟩⟩
theorem pass00 (h:XC CX X c G T lv):Passes CX X E0:=fun _ _ H s e s' _ z=>(h.go.cx0 _ H s e s' z).elim
theorem stars {e:Expr} {es:List Expr} (hs:starEach (e::es) X.env=(e::es).map fun e=>(false,eval e X.env)):starEach (e::es) X.env=(false,eval e X.env)::starEach es X.env∧(backTo pos (starEach es X.env)).any (·.1)=false:=by
 have h2:starEach (e::es) X.env=(false,eval e X.env)::starEach es X.env:=by
  cases e<;>first|rfl|(simp [starEach] at hs)
 have h3:starEach es X.env=es.map fun e=>(false,eval e X.env):=by
  have:=congrArg List.tail (h2.symm.trans hs)
  simpa using this
 refine ⟨h2,?_⟩
 rw [h3]
 clear h2 h3 hs
 induction es with
 | nil=>rfl
 | cons a r ih=>exact ih
theorem n_call (h:XC CX X c G T lv) {x:Str} {es:List Expr} {ds:List D} {p:Pos} (hg:isGlob c x=true) (hf:c.fns.contains x=true) (ha:PA X es (tAs X.K T S ρ ds)) (hs:starEach es X.env=es.map fun e=>(false,eval e X.env)) (hlen:ds.length=es.length) (hd:G.fn x ds=some (.ok d)) :
  PE X (.Call (.Name x p) es [] pos) (fun σ H Q=>RE X.K T H S ρ σ∧∀ v H1 H',Same H H1→Same H1 H'→Rep X.K T H' S d v→(G.ff x=true→Fresh X.K T S H1 H' d v)→Q v H'):=by
 obtain ⟨f,fd,ps,hm,hk,hb,hl,F⟩:=h.go.fn x hf
 have key:∀ σ H Q,(RE X.K T H S ρ σ∧∀ v H1 H',Same H H1→Same H1 H'→Rep X.K T H' S d v→(G.ff x=true→Fresh X.K T S H1 H' d v)→Q v H')→tCall (spD X.K T ps.length (G.fn x) (G.ff x)) [] E0 (tAs X.K T S ρ ds) σ H Q:=fun σ H Q ⟨re,q⟩ =>
  ⟨re,fun vs H1 s1 r1=>⟨by rw [List.append_nil,← r1.len]; exact hl ds _ hd,S,ds,(re.same s1).dom,by rw [List.append_nil]; exact r1,.inl ⟨d,hd,fun v H' s2 r2 fr=>q v H1 H' s1 s2 r2 fr⟩⟩⟩
 cases es with
 | nil =>
  refine PE.mono (pe_call0 F h.room (h.glob hg) hm hk hb .nil (pass00 h) (h.gne hg)) fun σ H Q hq=>?_
  obtain ⟨re,q⟩:=hq
  have hds:ds=[]:=List.length_eq_zero_iff.mp hlen
  subst hds
  exact (key σ H Q ⟨re,q⟩).2 [] H (Same.refl H) RepL.nil
 | cons e es =>
  obtain ⟨h1,h2⟩:=stars (pos:=pos) hs
  exact PE.mono (pe_call F h.room (h.glob hg) hm hk hb .nil (pass00 h) ha (h.gne hg) h1 h2) key
end
end Z
namespace Z
open PySem PySem.Spec PyProof.Rows L2
section
variable {CX:CXT}{X:Cx}{c:CC}{G:GS}{T:Tx}{lv:Nat}{ρ:List Sl}{S:Addr→Prop}{pos:Pos}{ea eb ec:Expr}{a b d:D}
def MethTree (X:Cx) (o:Expr) (m:Str) (args:List Expr) (apos pos:Pos):Prop:=∃ pl:Sem Bool,eval (.Call (.Attribute o m apos) args [] pos) X.env=(do
   let ov ← eval o X.env
   standAt apos.atName
   let (f,first) ← holding [ov] (getMethod ov m pl)
   callWith pos f first (backTo pos (starEach args X.env)) (backToKw pos (keywordEach [] X.env)))
theorem n_meth (h:XC CX X c G T lv) {m cn:Str} {fs:List (Str × D)} {es:List Expr} {ds:List D} {apos:Pos} (ht:MethTree X ea m es apos pos) (ho:PE X ea (tD X.K T S ρ (.obj cn fs))) (hn:fs.lookup m=none)
  (ha:PA X es (tAs X.K T S ρ ds)) (hs:starEach es X.env=es.map fun e=>(false,eval e X.env)) (hlen:ds.length=es.length) (hd:G.me cn m (.obj cn fs::ds)=some (.ok d)) :
  PE X (.Call (.Attribute ea m apos) es [] pos) (fun σ H Q=>RE X.K T H S ρ σ∧∀ v H1 H',Same H H1→Same H1 H'→Rep X.K T H' S d v→(G.mf cn m=true→Fresh X.K T S H1 H' d v)→Q v H'):=by
 obtain ⟨pl,ht⟩:=ht
 intro pins s σ H Q I ⟨re,q⟩
 refine PySem.W.methodCall_KW (pl:=pl) (thn (ho pins s σ H (fun v H'=>Same H H'∧Rep X.K T H' S (.obj cn fs) v) I ⟨re,fun v H' a b=>⟨a,b⟩⟩) fun u s1 ⟨x,H1,I1,rx,sm,ro⟩=>?_) ht
 have ro':=ro
 unfold Rep at ro
 obtain ⟨p,C,dx,gs,ex,_,ec,e,rf⟩:=ro
 subst ex
 obtain rfl:u=Value.ref p:=rx
 obtain ⟨f,fd,ps,hm,hb,hl,F⟩:=h.go.me cn C m _ _ ec hd
 refine getmeth_ok I1 e (h.go.cls cn C ec) hm ((RepF.look rf).2 hn) ?_
 have fin:∀ (us:List Value) (vs:List V) (s2:Shared) (H2:Hp),Inv X pins σ H2 s2→Vals vs us→Same H1 H2→RepL X.K T H2 S ds vs→wpAny (model X.prog X.w) X.A (call (.ref f) (.ref p::us)) (EP X pins σ Q) X.xe s2:=fun us vs s2 H2 I2 r2 s12 rl=>by
  refine run_fn (us:=.ref p::us) (vs:=.ref p::vs) (dvs:=[]) (ds:=[]) (E:=E0) F h.room hb .nil (pass00 h) I2 (.cons rfl r2) ?_
  refine ⟨?_,S,.obj cn fs::ds,((re.same sm).same s12).dom,?_,.inl ⟨d,hd,fun v H' s3 r3 fr=>q v H2 H' (sm.trans s12) s3 r3 fr⟩⟩
  ·have:=hl _ _ hd
   simp only [List.append_nil,List.length_cons] at this ⊢
   rw [← rl.len]; exact this
  ·rw [List.append_nil]
   exact RepL.cons (ro'.same s12) rl
 cases es with
 | nil =>
  have hds:ds=[]:=List.length_eq_zero_iff.mp hlen
  subst hds
  exact PySem.W.callWith_K0 (first:=[.ref p]) I1.kIn hm.kp (fin [] [] s1 H1 I1 .nil (Same.refl _) RepL.nil)
 | cons e es =>
  obtain ⟨h1,h2⟩:=stars (pos:=pos) hs
  refine PySem.W.callWith_K (first:=[.ref p]) (h₀:=X.base) I.ok.mod.kin hm.kp (thn (ha pos pins s1 σ H1 (fun vs H'=>Same H1 H'∧RepL X.K T H' S ds vs) I1 ⟨re.same sm,fun vs H' a b=>⟨a,b⟩⟩) fun us s2 ⟨vs,H2,I2,r,s12,rl⟩=>⟨I2.kIn,?_⟩) h1 h2
  exact fin us vs s2 H2 I2 r s12 rl
theorem run_make2 {CX:CXT} {k:Nat} {f C:Addr} {fd:FuncData} {ps:List Str} {sp:Sp} {E:XK} {pins:List (Addr × Obj)} {σ:L2.St} {H:Hp} {s:Shared} {Q:VK} {us:List Value} {vs:List V} (M:Mk X.K C f) (F:FnOk X.prog X.w X.K X.mg X.base CX k f fd ps sp) (hr:Room (k+1) X.A) (hb:Binds X.K fd ps [])
  (hx:Passes CX X E) (I:Inv X pins σ H s) (r:Vals vs us)
  (h:∀ x dx,H x=none→H dx=none→dx≠x→X.K.lookup x=none→X.K.lookup dx=none→sp (.ref x::vs) (upd (upd H dx (.own x)) x (.ins C dx [])) (fun v H2=>v=.non∧Q (.ref x) H2) E) :
  wpAny (model X.prog X.w) X.A (call (.ref C) us) (EP X pins σ Q) X.xe s:=by
 have nk:∀ a,s.heap.objs.size≤a→X.K.lookup a=none:=fun a ha=>by
  cases q:X.K.lookup a with
  | none=>rfl
  | some o=>exact absurd (Heap.lt_size (I.kIn a o q)) (Nat.not_lt.mpr ha)
 have hq:=h (s.heap.objs.size+1) s.heap.objs.size (I.hok.fresh (Nat.le_succ _)) (I.hok.fresh (Nat.le_refl _)) (Nat.ne_of_lt (Nat.lt_succ_self _)) (nk _ (Nat.le_succ _)) (nk _ (Nat.le_refl _))
 have I2:=Inv.made (C:=C) I
 have r2:Vals (V.ref (s.heap.objs.size+1)::vs) (Value.ref (s.heap.objs.size+1)::us):=.cons rfl r
 have hl:(Value.ref (s.heap.objs.size+1)::us++[]).length=ps.length:=by
  have e:=r2.length
  rw [F.len _ _ _ _ hq] at e
  rw [List.append_nil]
  exact e.symm
 refine wpAny_call (make_map (f:=f) I.kIn M.makes M.init (beq_iff_eq.mp M.fn) (codeAny_mono (F.run _ X.stack _ _ ⟨Value.ref (s.heap.objs.size+1)::us,[]⟩ (Value.ref (s.heap.objs.size+1)::us) _ _ E (hr.make C us [])
  (I2.env0.make C us []) (by have:=hb _ (Value.ref (s.heap.objs.size+1)::us) I2.kIn hl; rw [List.append_nil] at this; exact this) r2 hq) fun r s' hq'=>?_))
 cases r with
 | error e=>exact hx pins σ _ _ e s' I2 hq'
 | ok fl =>
  cases fl with
  | ret u =>
   obtain ⟨v,H',I3,rv,ev,q3⟩:=I2.after hq'
   subst ev
   exact ⟨rv,⟨V.ref (s.heap.objs.size+1),H',I3,rfl,q3⟩⟩
  | next=>exact False.elim hq'
  | brk=>exact False.elim hq'
  | cont=>exact False.elim hq'
theorem n_mk (h:XC CX X c G T lv) {x:Str} {es:List Expr} {ds:List D} {p:Pos} (hg:isGlob c x=true) (hf:c.cls.contains x=true) (ha:PA X es (tAs X.K T S ρ ds)) (hs:starEach es X.env=es.map fun e=>(false,eval e X.env)) (hlen:ds.length=es.length) (hd:G.mo x ds=some (.ok d)) :
  PE X (.Call (.Name x p) es [] pos) (tD X.K T S ρ d):=by
 obtain ⟨C,f,fd,ps,j,hj,hm,M,hb,hl,F⟩:=h.go.mo x hf ds d hd
 have fin:∀ (pins:List (Addr × Obj)) (σ:L2.St) (H:Hp) (Q:VK) (us:List Value) (vs:List V) (s2:Shared) (H2:Hp),RE X.K T H S ρ σ→(∀ v H',Same H H'→Rep X.K T H' S d v→Q v H')→Inv X pins σ H2 s2→Vals vs us→Same H H2→RepL X.K T H2 S ds vs→wpAny (model X.prog X.w) X.A (call (.ref C) us) (EP X pins σ Q) X.xe s2:=fun pins σ H Q us vs s2 H2 re q I2 r2 s12 rl=>by
  refine run_make2 (E:=E0) M F (h.room.mono hj) hb (pass00 h) I2 r2 fun y dx hy hdx ne ky kdx=>?_
  have dom2:=(re.same s12).dom
  have m1:Moves X.K H2 (upd H2 dx (.own y)) S S:=fun a n _=>⟨n,fun o e=>by rw [upd_ne (ne_of_none e hdx)]; exact e⟩
  have hy1:(upd H2 dx (.own y)) y=none:=by rw [upd_ne (Ne.symm ne)]; exact hy
  have m2:=Moves.add (S:=S) (o:=.ins C dx []) hy1 ky
  refine ⟨by simp only [List.length_cons]; rw [← rl.len]; exact hl,y,dx,vs,(fun a=>S a∨a=y),ds,d,rfl,upd_same,.inr rfl,fun a hs=>?_,RepL.gen m2 _ _ (RepL.gen m1 _ _ rl),hd,fun H' kp rp=>⟨rfl,q _ H' ?_ (rp S fun a ha=>⟨.inl ha,?_⟩)⟩⟩
  ·rcases hs with z|z
   ·obtain ⟨o,e⟩:=dom2 a z
    exact ⟨o,by rw [upd_ne (ne_of_none e hy),upd_ne (ne_of_none e hdx)]; exact e⟩
   ·subst z; exact ⟨_,upd_same⟩
  ·intro b o e
   have e2:=s12 b o e
   refine kp b o (ne_of_none e2 hy) ?_
   rw [upd_ne (ne_of_none e2 hy),upd_ne (ne_of_none e2 hdx)]
   exact e2
  ·intro z
   subst z
   obtain ⟨o,e⟩:=dom2 a ha
   rw [hy] at e; cases e
 cases es with
 | nil =>
  have hds:ds=[]:=List.length_eq_zero_iff.mp hlen
  subst hds
  intro pins s σ H Q I ⟨re,q⟩
  refine wpAny_Call_Name_kw (ld_glob I (h.glob hg) hm ?_ (h.gne hg))
  exact PySem.W.callWith_K0 I.kIn M.kp (fin pins σ H Q [] [] s H re q I .nil (Same.refl _) RepL.nil)
 | cons e es =>
  obtain ⟨h1,h2⟩:=stars (pos:=pos) hs
  intro pins s σ H Q I ⟨re,q⟩
  refine wpAny_Call_Name_kw (ld_glob I (h.glob hg) hm ?_ (h.gne hg))
  refine PySem.W.callWith_K (h₀:=X.base) I.ok.mod.kin M.kp (thn (ha pos pins s σ H (fun vs H'=>Same H H'∧RepL X.K T H' S ds vs) I ⟨re,fun vs H' a b=>⟨a,b⟩⟩) fun us s1 ⟨vs,H1,I1,r,sm,rl⟩=>⟨I1.kIn,?_⟩) h1 h2
  exact fin pins σ H Q us vs s1 H1 re q I1 r sm rl
noncomputable def rBf (K:PySem.W.Frag) (T:Tx) (S:Addr→Prop) (g:List D→Option D):List V→Hp→VK→Prop:=fun xs H Q =>
 ∃ ds d,(∀ a,S a→∃ o,H a=some o)∧RepL K T H S ds xs∧g ds=some d∧∀ v H',Same H H'→Rep K T H' S d v→Q v H'
theorem rep1 {K:PySem.W.Frag} {H:Hp} {xs:List V} (r:RepL K T H S [a] xs):∃ x,xs=[x]∧Rep K T H S a x:=by
 unfold RepL at r
 obtain ⟨x,r',rfl,rx,rr⟩:=r
 unfold RepL at rr
 subst rr
 exact ⟨x,rfl,rx⟩
theorem rep2 {K:PySem.W.Frag} {H:Hp} {xs:List V} (r:RepL K T H S [a,b] xs):∃ x y,xs=[x,y]∧Rep K T H S a x∧Rep K T H S b y:=by
 unfold RepL at r
 obtain ⟨x,r',rfl,rx,rr⟩:=r
 obtain ⟨y,rfl,ry⟩:=rep1 rr
 exact ⟨x,y,rfl,rx,ry⟩
theorem rep_int {K:PySem.W.Frag} {H:Hp} {i:Int}:Rep K T H S (.int i) (.int i):=by unfold Rep; rfl
theorem b_len:CallR X (.builtin "len") (rBf X.K T S fLen):=by
 rintro pins s σ H xs us Q I r ⟨ds,d,dom,rl,e,q⟩
 unfold fLen at e
 split at e
 ·obtain ⟨x,rfl,rx⟩:=rep1 rl
  cases e
  unfold Rep at rx
  obtain ⟨p,ys,rfl,_,hq,ry⟩:=rx
  exact call_len_seq pins s σ H _ us Q I r ⟨p,ys,rfl,.inl (SqL.of hq),by rw [← ry.len]; exact q _ H (Same.refl H) rep_int⟩
 ·obtain ⟨x,rfl,rx⟩:=rep1 rl
  cases e
  unfold Rep at rx
  obtain ⟨p,ys,rfl,_,hq,ry⟩:=rx
  exact call_len_seq pins s σ H _ us Q I r ⟨p,ys,rfl,.inr hq,by rw [← ry.len]; exact q _ H (Same.refl H) rep_int⟩
 ·obtain ⟨x,rfl,rx⟩:=rep1 rl
  cases e
  unfold Rep at rx
  obtain ⟨p,ys,rfl,_,hq,ry⟩:=rx
  exact call_len_seq pins s σ H _ us Q I r ⟨p,ys,rfl,.inl hq,by rw [← ry.len]; exact q _ H (Same.refl H) rep_int⟩
 ·obtain ⟨x,rfl,rx⟩:=rep1 rl
  unfold Rep at rx
  subst rx
  split at e
  ·rename_i hz
   cases e
   exact call_len_str pins s σ H _ us Q I r ⟨_,rfl,Nat.le_trans hz big_le,q _ H (Same.refl H) rep_int⟩
  ·cases e
 ·cases e
theorem b_int:CallR X (.type "int") (rBf X.K T S fInt):=by
 rintro pins s σ H xs us Q I r ⟨ds,d,dom,rl,e,q⟩
 unfold fInt at e
 split at e
 ·obtain ⟨x,rfl,rx⟩:=rep1 rl
  cases e
  unfold Rep at rx
  subst rx
  exact call_int1 pins s σ H _ us Q I r (.inl ⟨_,rfl,q _ H (Same.refl H) rep_int⟩)
 ·obtain ⟨x,rfl,rx⟩:=rep1 rl
  cases e
  unfold Rep at rx
  subst rx
  exact call_int1 pins s σ H _ us Q I r (.inr ⟨_,rfl,q _ H (Same.refl H) rep_int⟩)
 ·obtain ⟨x,rfl,rx⟩:=rep1 rl
  unfold Rep at rx
  subst rx
  split at e
  ·rename_i hz
   obtain ⟨n,hn,rfl⟩:=Option.map_eq_some_iff.mp e
   obtain ⟨u,rfl,t,rfl⟩:=vals1 r
   exact PySem.W.KIN.call_text hn hz ⟨.int n,H,I.tok _,⟨_,rfl⟩,q _ H (Same.refl H) rep_int⟩
  ·cases e
 ·cases e
noncomputable def rBl (K:PySem.W.Frag) (T:Tx) (S:Addr→Prop):List V→Hp→VK→Prop:=fun xs H Q =>
 ∃ ds es,RepL K T H S ds xs∧fList ds=some (.lst es)∧∀ p ys H',Same H H'→H p=none→H' p=some (.lst ys)→RepL K T (er H' p) S es ys→Q (.ref p) H'
theorem b_list:CallR X (.type "list") (rBl X.K T S):=by
 rintro pins s σ H xs us Q I r ⟨ds,es,rl,e,q⟩
 unfold fList at e
 split at e
 ·obtain ⟨x,rfl,rx⟩:=rep1 rl
  cases e
  unfold Rep at rx
  obtain ⟨p,ys,rfl,_,hq,ry⟩:=rx
  exact call_list_of pins s σ H _ us Q I r ⟨p,ys,rfl,.inl (SqL.of hq),fun l hl=>q l ys _ (Same.upd hl) hl upd_same (by rw [er_upd hl]; exact ry)⟩
 ·obtain ⟨x,rfl,rx⟩:=rep1 rl
  cases e
  unfold Rep at rx
  obtain ⟨p,ys,rfl,_,hq,ry⟩:=rx
  exact call_list_of pins s σ H _ us Q I r ⟨p,ys,rfl,.inr hq,fun l hl=>q l ys _ (Same.upd hl) hl upd_same (by rw [er_upd hl]; exact ry)⟩
 ·obtain ⟨x,rfl,rx⟩:=rep1 rl
  cases e
  unfold Rep at rx
  obtain ⟨p,ys,rfl,_,hq,ry⟩:=rx
  exact call_list_of pins s σ H _ us Q I r ⟨p,ys,rfl,.inl hq,fun l hl=>q l ys _ (Same.upd hl) hl upd_same (by rw [er_upd hl]; exact ry)⟩
 ·cases e
theorem b_tuple:CallR X (.type "tuple") (rBf X.K T S fTuple):=by
 rintro pins s σ H xs us Q I r ⟨ds,d,dom,rl,e,q⟩
 unfold fTuple at e
 split at e
 ·obtain ⟨x,rfl,rx⟩:=rep1 rl
  cases e
  unfold Rep at rx
  obtain ⟨p,ys,rfl,_,hq,ry⟩:=rx
  exact call_tuple_of pins s σ H _ us Q I r ⟨p,ys,rfl,.inl ⟨SqL.of hq,fun l hl=>q _ _ (Same.upd hl) (rep_new_tup dom hl ry)⟩⟩
 ·obtain ⟨x,rfl,rx⟩:=rep1 rl
  cases e
  have rx':=rx
  unfold Rep at rx
  obtain ⟨p,ys,rfl,_,hq,ry⟩:=rx
  exact call_tuple_of pins s σ H _ us Q I r ⟨p,ys,rfl,.inr ⟨hq,q _ H (Same.refl H) rx'⟩⟩
 ·cases e
theorem ints_vals {K:PySem.W.Frag} {H:Hp}:∀ {ds:List D} {ns:List Int} {ys:List V} {us:List Value},intsD ds=some ns→RepL K T H S ds ys→Vals ys us→IntsAre us ns
 | [],ns,ys,us,h,r,v=>by
  simp only [intsD] at h
  cases h
  unfold RepL at r
  subst r
  cases v
  exact .nil
 | d::ds,ns,ys,us,h,r,v=>by
  cases d<;>simp only [intsD,reduceCtorEq] at h
  rename_i i
  rw [Option.map_eq_some_iff] at h
  obtain ⟨r',h1,rfl⟩:=h
  unfold RepL at r
  obtain ⟨x,w,rfl,rx,rr⟩:=r
  unfold Rep at rx
  subst rx
  cases v with
  | cons v1 v2 =>
   obtain ⟨t,rfl⟩:=v1
   exact .cons i t (ints_vals h1 rr v2)
section
variable {prog:Program}{w:World}{A:Around}{E:Value→Shared→Prop}{s:Shared}
theorem max_list_K {l:Addr} {vs:List Value} {ns:List Int} {Q:Value→Shared→Prop} (hh:A.handled=none) (hl:s.heap.IsList l vs.toArray) (hi:IntsAre vs ns) (hne:0<ns.length)
  (h:∀ h' M (t:Tok) tk,(∀ b o,s.heap.get? b=some o→h'.get? b=some o)→M ∈ ns→(∀ a,a ∈ ns→a≤M)→Q (.int M t) { s with heap:=h',toks:=tk }) :
  wpAny (model prog w) A (call (.builtin "max") [.ref l]) Q E s:=by
 obtain ⟨xs,e⟩:=hi.allInts.items
 have hns:ns=xs.toList.map (·.1):=by
  rw [← hi.numsOf,← nums_intItems,← e]
 have hsz:0<xs.size:=by
  have h3:=hne; rw [hns,List.length_map,Array.length_toList] at h3; exact h3
 rw [e] at hl
 refine max_intList hh hl hsz fun v h' tk hv hk=>?_
 obtain ⟨t,rfl⟩:=intItems_at hv
 obtain ⟨h1,h2⟩:=argBest_gt (numAt xs) (xs.size-1)
 refine h _ _ t tk hk ?_ fun a ha=>?_
 ·rw [hns,numAt_eq]; exact getD_mem (by rw [List.length_map,Array.length_toList]; omega)
 ·rw [hns] at ha
  obtain ⟨j,hj,rfl⟩:=mem_getD ha
  rw [List.length_map,Array.length_toList] at hj
  rw [← numAt_eq]; exact h2 j (by omega)
theorem min_list_K {l:Addr} {vs:List Value} {ns:List Int} {Q:Value→Shared→Prop} (hh:A.handled=none) (hl:s.heap.IsList l vs.toArray) (hi:IntsAre vs ns) (hne:0<ns.length)
  (h:∀ h' M (t:Tok) tk,(∀ b o,s.heap.get? b=some o→h'.get? b=some o)→M ∈ ns→(∀ a,a ∈ ns→M≤a)→Q (.int M t) { s with heap:=h',toks:=tk }) :
  wpAny (model prog w) A (call (.builtin "min") [.ref l]) Q E s:=by
 obtain ⟨xs,e⟩:=hi.allInts.items
 have hns:ns=xs.toList.map (·.1):=by
  rw [← hi.numsOf,← nums_intItems,← e]
 have hsz:0<xs.size:=by
  have h3:=hne; rw [hns,List.length_map,Array.length_toList] at h3; exact h3
 rw [e] at hl
 refine min_intList hh hl hsz fun v h' tk hv hk=>?_
 obtain ⟨t,rfl⟩:=intItems_at hv
 obtain ⟨h1,h2⟩:=argBest_lt (numAt xs) (xs.size-1)
 refine h _ _ t tk hk ?_ fun a ha=>?_
 ·rw [hns,numAt_eq]; exact getD_mem (by rw [List.length_map,Array.length_toList]; omega)
 ·rw [hns] at ha
  obtain ⟨j,hj,rfl⟩:=mem_getD ha
  rw [List.length_map,Array.length_toList] at hj
  rw [← numAt_eq]; exact h2 j (by omega)
end
theorem b_max (hc:X.calm=true):CallR X (.builtin "max") (rBf X.K T S fMax):=by
 rintro pins s σ H xs us Q I r ⟨ds,d,dom,rl,e,q⟩
 unfold fMax at e
 split at e
 ·obtain ⟨x,y,rfl,rx,ry⟩:=rep2 rl
  cases e
  unfold Rep at rx ry
  subst rx ry
  exact call_max2 hc pins s σ H _ us Q I r ⟨_,_,rfl,q _ H (Same.refl H) rep_int⟩
 ·obtain ⟨x,rfl,rx⟩:=rep1 rl
  split at e
  ·rename_i i t he
   cases e
   unfold Rep at rx
   obtain ⟨p,ys,rfl,_,hq,ry⟩:=rx
   obtain ⟨u,rfl,ru⟩:=vals1 r
   cases ru
   obtain ⟨its,rv,pl,hz⟩:=I.list (SqL.of hq)
   have hi:=ints_vals he ry rv
   refine max_list_K (I.ok.hd hc) pl.isList hi (by simp) fun h' M tt tk hk hM hle=>⟨.int M,H,I.kept (t':=tk) hk,⟨_,rfl⟩,?_⟩
   obtain ⟨m1,m2,m3⟩:=maxI_spec t i
   have e1:maxI i t ∈ i::t:=by
    rcases m1 with z|z
    ·rw [z]; simp
    ·exact List.mem_cons_of_mem _ z
   have e2:M≤maxI i t:=by
    rcases List.mem_cons.mp hM with z|z
    ·rw [z]; exact m2
    ·exact m3 M z
   have e3:M=maxI i t:=Int.le_antisymm e2 (hle _ e1)
   rw [e3]
   exact q _ H (Same.refl H) rep_int
  ·cases e
 ·cases e
theorem b_min (hc:X.calm=true):CallR X (.builtin "min") (rBf X.K T S fMin):=by
 rintro pins s σ H xs us Q I r ⟨ds,d,dom,rl,e,q⟩
 unfold fMin at e
 split at e
 ·obtain ⟨x,y,rfl,rx,ry⟩:=rep2 rl
  cases e
  unfold Rep at rx ry
  subst rx ry
  exact call_min2 hc pins s σ H _ us Q I r ⟨_,_,rfl,q _ H (Same.refl H) rep_int⟩
 ·obtain ⟨x,rfl,rx⟩:=rep1 rl
  split at e
  ·rename_i i t he
   cases e
   unfold Rep at rx
   obtain ⟨p,ys,rfl,_,hq,ry⟩:=rx
   obtain ⟨u,rfl,ru⟩:=vals1 r
   cases ru
   obtain ⟨its,rv,pl,hz⟩:=I.list (SqL.of hq)
   have hi:=ints_vals he ry rv
   refine min_list_K (I.ok.hd hc) pl.isList hi (by simp) fun h' M tt tk hk hM hle=>⟨.int M,H,I.kept (t':=tk) hk,⟨_,rfl⟩,?_⟩
   obtain ⟨m1,m2,m3⟩:=minI_spec t i
   have e1:minI i t ∈ i::t:=by
    rcases m1 with z|z
    ·rw [z]; simp
    ·exact List.mem_cons_of_mem _ z
   have e2:minI i t≤M:=by
    rcases List.mem_cons.mp hM with z|z
    ·rw [z]; exact m2
    ·exact m3 M z
   have e3:M=minI i t:=Int.le_antisymm (hle _ e1) e2
   rw [e3]
   exact q _ H (Same.refl H) rep_int
  ·cases e
 ·cases e
end
end Z
namespace Z
open PySem PySem.Spec PyProof.Rows L2
section
variable {CX:CXT}{X:Cx}{c:CC}{G:GS}{T:Tx}{lv:Nat}{ρ:List Sl}{S:Addr→Prop}{pos:Pos}{ea eb ec:Expr}{a b d:D}
noncomputable def tyn:D→Option String
 | .non=>some "NoneType"
 | .bl _=>some "bool"
 | .int _=>some "int"
 | .str _=>some "str"
 | .lst _=>some "list"
 | .tup _=>some "tuple"
 | _=>none
theorem isinst_D {pins:List (Addr × Obj)} {σ:L2.St} {H:Hp} {s:Shared} {A:Around} {E:Value→Shared→Prop} {Q:Value→Shared→Prop} {x:V} {u c:Value} {tn:String} {k:Bool} (I:Inv X pins σ H s) (rx:RelV x u) (rep:Rep X.K T H S d x) (ht:tyn d=some tn)
  (e:PySem.W.kitOne X.K (.type tn) c=some k) (h:∀ tk,Q (.bool k) { s with toks:=tk }):wpAny (model X.prog X.w) A (call (.builtin "isinstance") [u,c]) Q E s:=by
 cases d<;>simp only [tyn,reduceCtorEq,Option.some.injEq] at ht
 all_goals subst ht
 ·unfold Rep at rep; subst rep; exact isinst_ok I rx (.non) e h
 ·unfold Rep at rep; subst rep; exact isinst_ok I rx (.bl _) e h
 ·unfold Rep at rep; subst rep; exact isinst_ok I rx (.int _) e h
 ·unfold Rep at rep; subst rep; exact isinst_ok I rx (.str _) e h
 ·unfold Rep at rep
  obtain ⟨p,xs,rfl,_,hq,_⟩:=rep
  exact isinst_ok I rx (.lst hq) e h
 ·unfold Rep at rep
  obtain ⟨p,xs,rfl,_,hq,_⟩:=rep
  obtain rfl:u=Value.ref p:=rx
  obtain ⟨its,rv,⟨o,h1,h2,_⟩,_⟩:=I.tuple hq
  exact PySem.W.kia_one PySem.W.kitx_tuple I.kIn ⟨o,h1,h2⟩ e (fun z=>nomatch z) h
theorem isi_table (K:PySem.W.Frag):∀ (t n:String),(t,n) ∈ ([("NoneType","int"),("NoneType","bool"),("NoneType","str"),("NoneType","list"),("NoneType","tuple"),("bool","str"),("bool","list"),("bool","tuple"),("int","bool"),("int","str"),("int","list"),("int","tuple"),
  ("str","int"),("str","bool"),("str","list"),("str","tuple"),("list","int"),("list","bool"),("list","str"),("list","tuple"),("tuple","int"),("tuple","bool"),("tuple","str"),("tuple","list")]:List (String × String))→PySem.W.kitOne K (.type t) (.type n)=some false:=by
 intro t n h
 simp only [List.mem_cons,Prod.mk.injEq,List.not_mem_nil,or_false] at h
 rcases h with ⟨rfl,rfl⟩|⟨rfl,rfl⟩|⟨rfl,rfl⟩|⟨rfl,rfl⟩|⟨rfl,rfl⟩|⟨rfl,rfl⟩|⟨rfl,rfl⟩|⟨rfl,rfl⟩|⟨rfl,rfl⟩|⟨rfl,rfl⟩|⟨rfl,rfl⟩|⟨rfl,rfl⟩|⟨rfl,rfl⟩|⟨rfl,rfl⟩|⟨rfl,rfl⟩|⟨rfl,rfl⟩|⟨rfl,rfl⟩|⟨rfl,rfl⟩|⟨rfl,rfl⟩|⟨rfl,rfl⟩|⟨rfl,rfl⟩|⟨rfl,rfl⟩|⟨rfl,rfl⟩|⟨rfl,rfl⟩<;>kernel_rfl
theorem isi_true (K:PySem.W.Frag):PySem.W.kitOne K (.type "bool") (.type "int")=some true:=by kernel_rfl
theorem isi_same (K:PySem.W.Frag) (t:String):PySem.W.kitOne K (.type t) (.type t)=some true:=by
 unfold PySem.W.kitOne
 rw [if_pos (by simp)]
theorem tys_ne:¬ (("bool":Str) = "int")∧¬ (("str":Str) = "int")∧¬ (("list":Str) = "int")∧¬ (("tuple":Str) = "int")∧¬ (("int":Str) = "bool")∧¬ (("str":Str) = "bool")∧¬ (("list":Str) = "bool")∧¬ (("tuple":Str) = "bool") ∧
  ¬ (("int":Str) = "str")∧¬ (("bool":Str) = "str")∧¬ (("list":Str) = "str")∧¬ (("tuple":Str) = "str")∧¬ (("int":Str) = "list")∧¬ (("bool":Str) = "list")∧¬ (("str":Str) = "list")∧¬ (("tuple":Str) = "list") ∧
  ¬ (("int":Str) = "tuple")∧¬ (("bool":Str) = "tuple")∧¬ (("str":Str) = "tuple")∧¬ (("list":Str) = "tuple"):=by decide +kernel
theorem isi_of {t:Str} {k:Bool} {tn:String} (K:PySem.W.Frag) (ht:tyNames.contains t=true) (hd:tyn d=some tn) (h:isiD G t d=some k):∃ n:String,bootBuiltins t=some (.type n)∧PySem.W.kitOne K (.type tn) (.type n)=some k:=by
 obtain ⟨n1,n2,n3,n4,n5,n6,n7,n8,n9,n10,n11,n12,n13,n14,n15,n16,n17,n18,n19,n20⟩:=tys_ne
 have ht':t = "int"∨t = "bool"∨t = "str"∨t = "list"∨t = "tuple":=by
  simpa [tyNames] using ht
 have b1:bootBuiltins "int" = some (.type "int"):=by decide +kernel
 have b2:bootBuiltins "bool" = some (.type "bool"):=by decide +kernel
 have b3:bootBuiltins "str" = some (.type "str"):=by decide +kernel
 have b4:bootBuiltins "list" = some (.type "list"):=by decide +kernel
 have b5:bootBuiltins "tuple" = some (.type "tuple"):=by decide +kernel
 rcases ht' with rfl|rfl|rfl|rfl|rfl<;>cases d<;>simp only [tyn,reduceCtorEq,Option.some.injEq] at hd
 all_goals subst hd
 all_goals simp only [isiD,n1,n2,n3,n4,n5,n6,n7,n8,n9,n10,n11,n12,n13,n14,n15,n16,n17,n18,n19,n20,if_true,if_false,true_or,or_true,or_false,or_self,Option.some.injEq] at h
 all_goals subst h
 all_goals first
  | exact ⟨_,b1,by first|exact isi_same K _|exact isi_true K|exact isi_table K _ _ (by decide)⟩
  | exact ⟨_,b2,by first|exact isi_same K _|exact isi_table K _ _ (by decide)⟩
  | exact ⟨_,b3,by first|exact isi_same K _|exact isi_table K _ _ (by decide)⟩
  | exact ⟨_,b4,by first|exact isi_same K _|exact isi_table K _ _ (by decide)⟩
  | exact ⟨_,b5,by first|exact isi_same K _|exact isi_table K _ _ (by decide)⟩
theorem bt_isinstance:bootBuiltins "isinstance" = some (.builtin "isinstance"):=by decide +kernel
theorem n_isi (h:XC CX X c G T lv) {t:Str} {p p2:Pos} {k:Bool} {tn:String} (hg:isGlob c "isinstance" = true) (hm:X.mg "isinstance" = none) (hgt:isGlob c t=true) (hmt:X.mg t=none) (ht:tyNames.contains t=true) (ha:PE X ea (tD X.K T S ρ a)) (hs:starEach [ea,.Name t p2] X.env=[(false,eval ea X.env),(false,eval (.Name t p2) X.env)])
  (hd:tyn a=some tn) (hi:isiD G t a=some k):PE X (.Call (.Name "isinstance" p) [ea,.Name t p2] [] pos) (tD X.K T S ρ (.bl k)):=by
 obtain ⟨n,hb,hk⟩:=isi_of X.K ht hd hi
 have hnn:t≠"__name__":=by
  intro z
  subst z
  revert ht
  decide +kernel
 have hp:PE X (.Name t p2) (tC (.ty n)):=pe_bltn (h.glob hgt) hmt hb rfl hnn (h.gne hgt)
 have hc:CallR X (.builtin "isinstance") (fun xs H Q=>∃ x,xs=[x,.ty n]∧Rep X.K T H S a x∧Q (.bl k) H):=by
  rintro pins s σ H xs us Q I r ⟨x,rfl,rep,q⟩
  obtain ⟨u,w',rfl,r1,r2⟩:=vals2 r
  obtain rfl:w'=Value.type n:=r2
  exact isinst_D I r1 rep hd hk fun tk=>⟨.bl k,H,I.tok tk,rfl,q⟩
 have hs1:starEach [ea,.Name t p2] X.env=(false,eval ea X.env)::starEach [.Name t p2] X.env:=hs
 refine PE.mono (pe_callB hc (h.glob hg) hm bt_isinstance (pa_cons ha (pa_cons hp pa_nil) hs1) (by decide +kernel) ?_ ?_ ?_) fun σ H Q ⟨re,q⟩=>⟨re,fun x H1 s1 r1=>⟨x,rfl,r1,q _ H1 s1 rep_bl⟩⟩
 all_goals first|exact h.gne hg|exact hs1|rfl|decide +kernel
end
theorem base_of {o:Expr} {m:Str} {env:Env} (ho:noSuper o=true):attributeBase o m env (eval o env)=eval o env:=by
 cases o<;>first|rfl|(simp [noSuper] at ho)
theorem back_all {env:Env} {pos:Pos}:∀ (l:List Expr),(backTo pos (l.map fun e=>(false,eval e env))).all (!·.1)=true
 | []=>rfl
 | _::r=>back_all r
theorem methTree {X:Cx} {o:Expr} {m:Str} {args:List Expr} {apos pos:Pos} (ho:noSuper o=true) (hs:starEach args X.env=args.map fun e=>(false,eval e X.env)) (hl:args.length<30) (hp:(apos.endLine == pos.line)=true):MethTree X o m args apos pos:=by
 refine ⟨do return (← importBound o X.env).getD true,?_⟩
 show (do
  let ov ← attributeBase o m X.env (eval o X.env)
  standAt apos.atName
  methodCall o m apos pos X.env ov (args.length+0) (backTo pos (starEach args X.env)) (backToKw pos (keywordEach [] X.env)))=_
 rw [base_of ho]
 have hf:methodCallForm (args.length+0) (backTo pos (starEach args X.env)) (backToKw pos (keywordEach [] X.env))=true:=by
  unfold methodCallForm
  rw [hs,back_all]
  simp [backToKw,keywordEach]
  first|omega|(refine ⟨?_,?_⟩<;>first|rfl|omega)
 have hpp:methodCallPos true o X.env apos pos=pure pos:=by
  unfold methodCallPos
  rw [hp]
  rfl
 unfold methodCall
 rw [hf,hpp]
 unfold calleeOf
 rfl
end Z
namespace Z
open PySem PySem.Spec PyProof.Rows L2
section
variable {K:PySem.W.Frag}{T:Tx}{H:Hp}{S:Addr→Prop}
theorem RepK.len:∀ {kvs:List (Int × D)} {gs:List (Key × V)},RepK K T H S kvs gs→kvs.length=gs.length
 | [],gs,h=>by unfold RepK at h; subst h; rfl
 | (i,d)::kvs,gs,h=>by
  unfold RepK at h
  obtain ⟨x,r,rfl,_,q⟩:=h
  exact congrArg (· + 1) (RepK.len q)
theorem RepK.nil:RepK K T H S [] []:=by unfold RepK; rfl
theorem RepK.cons {i:Int} {d:D} {x:V} {kvs:List (Int × D)} {gs:List (Key × V)} (h:Rep K T H S d x) (g:RepK K T H S kvs gs):RepK K T H S ((i,d)::kvs) ((Sum.inl i,x)::gs):=by unfold RepK; exact ⟨x,gs,rfl,h,g⟩
theorem inl_ne {i j:Int} (h:¬ i=j):¬ (Sum.inl i:Key)=Sum.inl j:=fun z=>h (Sum.inl.inj z)
theorem RepK.val {k:Int}:∀ {kvs:List (Int × D)} {gs:List (Key × V)},RepK K T H S kvs gs→(∀ d,valI kvs k=some d→∃ x,valV gs (Sum.inl k)=some x∧Rep K T H S d x)∧(valI kvs k=none→valV gs (Sum.inl k)=none)
 | [],gs,h=>by unfold RepK at h; subst h; exact ⟨fun d e=>(nomatch (show none=some d from e)),fun _=>rfl⟩
 | (i,d)::kvs,gs,h=>by
  unfold RepK at h
  obtain ⟨x,r,rfl,p,q⟩:=h
  obtain ⟨i1,i2⟩:=RepK.val (k:=k) q
  by_cases e:i=k
  ·have e1:valI ((i,d)::kvs) k=some d:=by unfold valI; rw [List.find?_cons_of_pos (by simpa using e)]; rfl
   rw [e1,valV_pos (congrArg Sum.inl e)]
   exact ⟨fun d' z=>⟨x,rfl,by cases z; exact p⟩,fun z=>by cases z⟩
  ·have e1:valI ((i,d)::kvs) k=valI kvs k:=by unfold valI; rw [List.find?_cons_of_neg (by simpa using e)]
   rw [e1,valV_neg (inl_ne e)]
   exact ⟨i1,i2⟩
theorem RepK.any {k:Int}:∀ {kvs:List (Int × D)} {gs:List (Key × V)},RepK K T H S kvs gs→(kvs.any fun kv=>decide (kv.1=k))=gs.any fun kv=>decide (kv.1=(Sum.inl k:Key))
 | [],gs,h=>by unfold RepK at h; subst h; rfl
 | (i,d)::kvs,gs,h=>by
  unfold RepK at h
  obtain ⟨x,r,rfl,p,q⟩:=h
  rw [List.any_cons,List.any_cons,RepK.any q]
  congr 1
  exact decide_eq_decide.mpr ⟨fun z=>congrArg Sum.inl z,fun z=>Sum.inl.inj z⟩
theorem RepK.repl {k:Int} {d:D} {v:V} (hv:Rep K T H S d v):∀ {kvs:List (Int × D)} {gs:List (Key × V)},RepK K T H S kvs gs→RepK K T H S (kvs.map fun kv=>if kv.1=k then (kv.1,d) else kv) (gs.map fun kv=>if kv.1=(Sum.inl k:Key) then (kv.1,v) else kv)
 | [],gs,h=>by unfold RepK at h; subst h; exact RepK.nil
 | (i,d')::kvs,gs,h=>by
  unfold RepK at h
  obtain ⟨x,r,rfl,p,q⟩:=h
  rw [List.map_cons,List.map_cons]
  by_cases e:i=k
  ·rw [if_pos e,if_pos (congrArg Sum.inl e)]
   exact RepK.cons hv (RepK.repl hv q)
  ·rw [if_neg e,if_neg (inl_ne e)]
   exact RepK.cons p (RepK.repl hv q)
theorem RepK.snoc {k:Int} {d:D} {v:V} (hv:Rep K T H S d v):∀ {kvs:List (Int × D)} {gs:List (Key × V)},RepK K T H S kvs gs→RepK K T H S (kvs++[(k,d)]) (gs++[(Sum.inl k,v)])
 | [],gs,h=>by unfold RepK at h; subst h; exact RepK.cons hv RepK.nil
 | (i,d')::kvs,gs,h=>by
  unfold RepK at h
  obtain ⟨x,r,rfl,p,q⟩:=h
  exact RepK.cons p (RepK.snoc hv q)
theorem RepK.put {k:Int} {d:D} {v:V} (hv:Rep K T H S d v) {kvs:List (Int × D)} {gs:List (Key × V)} (h:RepK K T H S kvs gs):RepK K T H S (putI kvs k d) (putK gs (Sum.inl k) v):=by
 unfold putI putK
 rw [RepK.any h]
 split
 ·exact RepK.repl hv h
 ·exact RepK.snoc hv h
end
section
variable {CX:CXT}{X:Cx}{c:CC}{G:GS}{T:Tx}{lv:Nat}{ρ:List Sl}{S:Addr→Prop}{pos:Pos}{ea eb ec:Expr}{a b d:D}
theorem n_dix (hu:X.A.units+1<cLine) {i:Int} {kvs:List (Int × D)} (ha:PE X ea (tD X.K T S ρ (.dct kvs))) (hb:PE X eb (tD X.K T S ρ (.int i))) (hp:PlainIx eb) (hd:valI kvs i=some d):PE X (.Subscript ea eb pos) (tD X.K T S ρ d):=
 PE.mono (pe_dget hu ha hb hp) fun σ H Q ⟨re,q⟩=>⟨re,fun x H1 s1 r1=>⟨re.same s1,fun y H2 s2 r2=>by
  have r1:=r1.same s2
  unfold Rep at r1 r2
  subst r2
  obtain ⟨p,gs,rfl,_,e,rk⟩:=r1
  obtain ⟨v,e1,rv⟩:=(RepK.val (k:=i) rk).1 d hd
  refine ⟨p,v,rfl,?_,q v H2 (s1.trans s2) rv⟩
  rw [← e1]
  exact DGet.k (k:=Sum.inl i) e⟩⟩
end
end Z
namespace Z
open PySem PySem.Spec PyProof.Rows L2
structure Plain (e:Expr):Prop where
 star:∀ (env:Env) (es:List Expr),starEach (e::es) env=(false,eval e env)::starEach es env
 marks:∀ op,behindInMarks op e=false
 set_:∀ env x,foldedSetIterable e env x=pure x
 ix:PlainIx e
theorem plainE {n:Nat} {c:CC} {e:Expr} {ir:IE} (h:cE n c e=some ir):Plain e:=by
 cases e<;>first|exact ⟨fun _ _=>rfl,fun _=>rfl,fun _ _=>rfl,fun _ _=>rfl⟩|(cases n<;>exact nomatch (show none=some ir from h))
section
variable {CX:CXT}{G:GS}{T:Tx}{lv:Nat}
def OkE (CX:CXT) (G:GS) (T:Tx) (lv n:Nat):Prop:=∀ (X:Cx) (c:CC) (S:Addr→Prop) (ρ:List Sl) (e:Expr) (ir:IE),XC CX X c G T lv→cE n c e=some ir→∀ d,ev G ir ρ=some d →
 PE X e (tD X.K T S ρ d)∧(freshE c e=true→∀ ds,d=.lst ds→PE X e (tNw X.K T S ρ ds))
def OkT (CX:CXT) (G:GS) (T:Tx) (lv n:Nat):Prop:=∀ (X:Cx) (c:CC) (S:Addr→Prop) (ρ:List Sl) (e:Expr) (ir:IE),XC CX X c G T lv→cT n c e=some ir→∀ k,ev G ir ρ=some (.bl k)→PT X e (tTe X.K T S ρ k)
def OkB (CX:CXT) (G:GS) (T:Tx) (lv n:Nat):Prop:=∀ (X:Cx) (c:CC) (S:Addr→Prop) (ρ:List Sl) (k:Bool) (vs:List Expr) (ir:IE) (pos:Pos),XC CX X c G T lv →
 (cB n c false k vs=some ir→∀ d,ev G ir ρ=some d→PE X (.BoolOp (if k then .And else .Or) vs pos) (tD X.K T S ρ d)) ∧
 (cB n c true k vs=some ir→∀ b,ev G ir ρ=some (.bl b)→PW X (.BoolOp (if k then .And else .Or) vs pos) (tTe X.K T S ρ b))
def OkA (CX:CXT) (G:GS) (T:Tx) (lv n:Nat):Prop:=∀ (X:Cx) (c:CC) (S:Addr→Prop) (ρ:List Sl) (es:List Expr) (ir:IE),XC CX X c G T lv→cA n c es=some ir→∀ d,ev G ir ρ=some d →
 ∃ ds,d=.tup ds∧ds.length=es.length∧PA X es (tAs X.K T S ρ ds)∧starEach es X.env=es.map fun e=>(false,eval e X.env)
def TgOk (_:Src) (_:Expr):Prop:=True
theorem tgok_of {c:CC} {tg:Expr} {tgs:List Nat} {tp:Bool} {k:Src} (htg:targetN c tg=some (tgs,tp)) (h:forOk tp k=true):TgOk k tg:=trivial
def OkI (CX:CXT) (G:GS) (T:Tx) (lv n:Nat):Prop:=∀ (X:Cx) (c:CC) (S:Addr→Prop) (ρ:List Sl) (e:Expr) (k:Src) (ir:IE),XC CX X c G T lv→cI n c e=some (k,ir)→∀ d ds,ev G ir ρ=some d→items k d=some ds →
 (∀ tg,TgOk k tg→PI X tg e (tI X.K T S ρ ds))∧∀ x,foldedSetIterable e X.env x=pure x
theorem okA_succ {n:Nat} (hE:OkE CX G T lv n) (hA:OkA CX G T lv n):OkA CX G T lv (n+1):=by
 intro X c S ρ es ir xc h d hd
 cases es with
 | nil =>
  cases (show some IE.nil=some ir from h)
  simp only [ev,Option.some.injEq] at hd
  exact ⟨[],hd.symm,rfl,n_nil,rfl⟩
 | cons e es =>
  obtain ⟨x,hx,h⟩:=b_some h
  obtain ⟨y,hy,rfl⟩:=m_some h
  simp only [ev,Option.bind_eq_bind,Option.bind_eq_some_iff] at hd
  obtain ⟨a,ha,w,hw,hd⟩:=hd
  obtain ⟨ds,rfl,hl,pa,hs⟩:=hA X c S ρ es y xc hy w hw
  simp only [Option.some.injEq] at hd
  have st:=(plainE hx).star X.env es
  refine ⟨a::ds,hd.symm,by simp [hl],n_cons (hE X c S ρ e x xc hx a ha).1 pa st,?_⟩
  rw [st,hs]; rfl
theorem okB_succ {n:Nat} (hE:OkE CX G T lv n) (hT:OkT CX G T lv n) (hB:OkB CX G T lv n):OkB CX G T lv (n+1):=by
 intro X c S ρ k vs ir pos xc
 refine ⟨fun h d hd=>?_,fun h b hb=>?_⟩
 ·cases vs with
  | nil=>exact nomatch (show none=some ir from h)
  | cons a r =>
   cases r with
   | nil =>
    exact pe_one (hE X c S ρ a ir xc h d hd).1
   | cons b r =>
    obtain ⟨x,hx,h⟩:=b_some h
    obtain ⟨y,hy,rfl⟩:=m_some h
    cases k with
    | true =>
     simp only [if_true,ev,Option.bind_eq_bind,Option.bind_eq_some_iff] at hd
     obtain ⟨w,hw,hd⟩:=hd
     have p1:=(hE X c S ρ a x xc hx w hw).1
     cases w<;>first|(simp only [reduceCtorEq] at hd; done)|skip
     rename_i kk
     cases kk with
     | true =>
      simp only [Option.bind_eq_some_iff] at hd
      obtain ⟨z,hz,hd⟩:=hd
      have p2:=(hB X c S ρ true (b::r) y pos xc).1 hy z hz
      have hzd:z=d:=by cases z<;>simp_all
      subst hzd
      exact PE.mono (pe_and p1 p2) fun σ H Q ⟨re,q⟩=>⟨re,fun x H1 s1 r1=>by
       unfold Rep at r1
       exact ⟨true,r1,iteT ⟨re.same s1,fun v H' s2 r=>q v H' (s1.trans s2) r⟩⟩⟩
     | false =>
      simp only [Option.some.injEq] at hd
      subst hd
      exact PE.mono (pe_and p1 (tb:=fun _ _ _=>False) (fun _ _ _ _ _ _ h=>h.elim)) fun σ H Q ⟨re,q⟩=>⟨re,fun x H1 s1 r1=>by
       unfold Rep at r1
       exact ⟨false,r1,iteF (q _ H1 s1 rep_bl)⟩⟩
    | false =>
     simp only [Bool.false_eq_true,if_false,ev,Option.bind_eq_bind,Option.bind_eq_some_iff] at hd
     obtain ⟨w,hw,hd⟩:=hd
     have p1:=(hE X c S ρ a x xc hx w hw).1
     cases w<;>first|(simp only [reduceCtorEq] at hd; done)|skip
     rename_i kk
     cases kk with
     | false =>
      simp only [Option.bind_eq_some_iff] at hd
      obtain ⟨z,hz,hd⟩:=hd
      have p2:=(hB X c S ρ false (b::r) y pos xc).1 hy z hz
      have hzd:z=d:=by cases z<;>simp_all
      subst hzd
      exact PE.mono (pe_or p1 p2) fun σ H Q ⟨re,q⟩=>⟨re,fun x H1 s1 r1=>by
       unfold Rep at r1
       exact ⟨false,r1,iteF ⟨re.same s1,fun v H' s2 r=>q v H' (s1.trans s2) r⟩⟩⟩
     | true =>
      simp only [Option.some.injEq] at hd
      subst hd
      exact PE.mono (pe_or p1 (tb:=fun _ _ _=>False) (fun _ _ _ _ _ _ h=>h.elim)) fun σ H Q ⟨re,q⟩=>⟨re,fun x H1 s1 r1=>by
       unfold Rep at r1
       exact ⟨true,r1,iteT (q _ H1 s1 rep_bl)⟩⟩
 ·cases vs with
  | nil=>exact nomatch (show none=some ir from h)
  | cons a r =>
   cases r with
   | nil =>
    cases k with
    | true=>exact pw_and1 (hT X c S ρ a ir xc h b hb)
    | false=>exact pw_or1 (hT X c S ρ a ir xc h b hb)
   | cons b' r =>
    obtain ⟨x,hx,h⟩:=b_some h
    obtain ⟨y,hy,rfl⟩:=m_some h
    cases k with
    | true =>
     simp only [if_true,ev,Option.bind_eq_bind,Option.bind_eq_some_iff] at hb
     obtain ⟨w,hw,hb⟩:=hb
     cases w<;>first|(simp only [reduceCtorEq] at hb; done)|skip
     rename_i kk
     have p1:=hT X c S ρ a x xc hx kk hw
     cases kk with
     | true =>
      simp only [Option.bind_eq_some_iff] at hb
      obtain ⟨z,hz,hb⟩:=hb
      have hzd:z=.bl b:=by cases z<;>simp_all
      subst hzd
      have p2:=(hB X c S ρ true (b'::r) y pos xc).2 hy b hz
      exact PW.mono (pw_and p1 p2) fun σ H Q ⟨re,q⟩=>⟨re,fun H1 s1=>iteT ⟨re.same s1,fun H' s2=>q H' (s1.trans s2)⟩⟩
     | false =>
      simp only [Option.some.injEq,D.bl.injEq] at hb
      subst hb
      exact PW.mono (pw_and p1 (tB':=fun _ _ _=>False) (fun _ _ _ _ _ _ _ h=>h.elim)) fun σ H Q ⟨re,q⟩=>⟨re,fun H1 s1=>iteF (q H1 s1)⟩
    | false =>
     simp only [Bool.false_eq_true,if_false,ev,Option.bind_eq_bind,Option.bind_eq_some_iff] at hb
     obtain ⟨w,hw,hb⟩:=hb
     cases w<;>first|(simp only [reduceCtorEq] at hb; done)|skip
     rename_i kk
     have p1:=hT X c S ρ a x xc hx kk hw
     cases kk with
     | false =>
      simp only [Option.bind_eq_some_iff] at hb
      obtain ⟨z,hz,hb⟩:=hb
      have hzd:z=.bl b:=by cases z<;>simp_all
      subst hzd
      have p2:=(hB X c S ρ false (b'::r) y pos xc).2 hy b hz
      exact PW.mono (pw_or p1 p2) fun σ H Q ⟨re,q⟩=>⟨re,fun H1 s1=>iteF ⟨re.same s1,fun H' s2=>q H' (s1.trans s2)⟩⟩
     | true =>
      simp only [Option.some.injEq,D.bl.injEq] at hb
      subst hb
      exact PW.mono (pw_or p1 (tB':=fun _ _ _=>False) (fun _ _ _ _ _ _ _ h=>h.elim)) fun σ H Q ⟨re,q⟩=>⟨re,fun H1 s1=>iteT (q H1 s1)⟩
theorem bi_none (xc:XC CX X c G T lv) {x:Str} (h1:biNames.contains x=true) (h2:c.fns.contains x=false) (h3:c.cls.contains x=false):X.mg x=none:=xc.go.bi x h1 h2 h3
theorem okI_succ {n:Nat} (hE:OkE CX G T lv n) (hA:OkA CX G T lv n):OkI CX G T lv (n+1):=by
 intro X c S ρ e k ir xc h d ds hd hi
 have h:(match (biCall c e).bind fun q=>(srcOf q.1).map fun k=>(k,q.2) with
  | some q=>(match q.1 with
   | .rng=>(cA n c q.2).map fun y=>(Src.rng,IE.tup y)
   | k=>(one? q.2).bind fun a=>(cE n c a).map fun y=>(k,y))
  | none=>(cE n c e).map fun y=>(Src.seq,y))=some (k,ir):=h
 cases hb:((biCall c e).bind fun q=>(srcOf q.1).map fun k=>(k,q.2)) with
 | none =>
  rw [hb] at h
  obtain ⟨y,hy,e1⟩:=m_some h
  cases e1
  exact ⟨fun tg _=>pi_seqD (hE X c S ρ e ir xc hy d hd).1 hi,(plainE hy).set_ X.env⟩
 | some q =>
  rw [hb] at h
  obtain ⟨r,hr,hq⟩:=b_some hb
  obtain ⟨k',hk,rfl⟩:=m_some hq
  obtain ⟨p1,p2,rfl,hg,ho⟩:=biCall_some hr
  obtain ⟨hf,hc⟩:=own_f ho
  have hx:(r.1 = "range"∧k'=.rng)∨(r.1 = "reversed"∧k'=.rev):=by
   unfold srcOf at hk
   split at hk
   ·rename_i e0; cases hk; exact .inl ⟨e0,rfl⟩
   ·split at hk
    ·rename_i e0; cases hk; exact .inr ⟨e0,rfl⟩
    ·cases hk
  obtain ⟨x,args⟩:=r
  rcases hx with ⟨rfl,rfl⟩|⟨rfl,rfl⟩
  ·obtain ⟨y,hy,e1⟩:=m_some h
   cases e1
   simp only [ev,Option.map_eq_some_iff] at hd
   obtain ⟨as,has,rfl⟩:=hd
   have hev:ev G y ρ=some (.tup as):=by
    unfold argsOf at has
    split at has
    ·cases has; assumption
    ·cases has
   obtain ⟨as',e1,hl,pa,hs⟩:=hA X _ S ρ args y xc hy _ hev
   cases e1
   exact ⟨fun tg _=>pi_rngD (xc.glob hg) (bi_none xc (by decide +kernel) hf hc) pa hs hi hl,fun _=>rfl⟩
  ·obtain ⟨a,ha,h⟩:=b_some h
   obtain rfl:=one_some ha
   obtain ⟨y,hy,e1⟩:=m_some h
   cases e1
   have st:=(plainE hy).star X.env []
   exact ⟨fun tg _=>pi_revD (xc.glob hg) (bi_none xc (by decide +kernel) hf hc) (n_cons (hE X _ S ρ a ir xc hy d hd).1 n_nil st) st hi,fun _=>rfl⟩
end
end Z
namespace Z
open PySem PySem.Spec PyProof.Rows L2
section
variable {CX:CXT}{X:Cx}{c:CC}{G:GS}{T:Tx}{lv:Nat}{ρ:List Sl}{S:Addr→Prop}{pos p:Pos}{ea:Expr}
noncomputable def inOp:Bool→CmpOp
 | false=>.In
 | true=>.NotIn
theorem pc_inC (h:XC CX X c G T lv) {x y:Str} {kvs:List (Str × D)} (e:isGlob c x=true) (hk:G.dk x=some kvs) (ha:PE X ea (tD X.K T S ρ (.str y))) (neg:Bool):PC X (inOp neg) ea (.Name x p) (tD X.K T S ρ (.bl (neg != (kvs.lookup y).isSome))):=by
 obtain ⟨a,hm,hs,o,vs,hl,hd,hks,_⟩:=h.go.dk x kvs hk
 intro pins s σ H Q I ⟨re,q⟩
 refine thn (ha pins s σ H (fun v H'=>Same H H'∧Rep X.K T H' S (.str y) v) I ⟨re,fun v H' sm r=>⟨sm,r⟩⟩) fun iv s1 ⟨v,H1,I1,ry,sm,r⟩=>?_
 refine ld_glob I1 (h.glob e) hm ?_ (h.gne e)
 unfold Rep at r
 subst r
 obtain ⟨t,rfl⟩:=ry
 have dd:s1.heap.DictOf (mixKind X.prog X.w) a vs:=Heap.dictOf_iff.mpr ⟨o,I1.kIn a o hl,hd⟩
 have fin:∀ b,b=(neg != (kvs.lookup y).isSome)→EP X pins σ Q (.bool b) { s1 with toks:=s1.toks+1 }:=fun b hb=>⟨.bl b,H1,I1.tok _,rfl,q _ H1 sm (by rw [hb]; unfold Rep; rfl)⟩
 cases neg with
 | false=>exact wpAny_in_of (knd:=mixKind X.prog X.w) (mixKind_str X.prog X.w y t) hs dd.mapOf (fin _ (by rw [hks]; simp))
 | true=>exact wpAny_notIn_of (knd:=mixKind X.prog X.w) (mixKind_str X.prog X.w y t) hs dd.mapOf (fin _ (by rw [hks]; simp))
theorem n_inC (h:XC CX X c G T lv) {x y:Str} {kvs:List (Str × D)} (e:isGlob c x=true) (hk:G.dk x=some kvs) (ha:PE X ea (tD X.K T S ρ (.str y))) (neg:Bool):PE X (.Compare ea [inOp neg] [.Name x p] pos) (tD X.K T S ρ (.bl (neg != (kvs.lookup y).isSome))):=pe_cmp (pc_inC h e hk ha neg) (by cases neg<;>rfl)
theorem n_inCT (h:XC CX X c G T lv) {x y:Str} {kvs:List (Str × D)} (e:isGlob c x=true) (hk:G.dk x=some kvs) (ha:PE X ea (tD X.K T S ρ (.str y))) (neg:Bool):PT X (.Compare ea [inOp neg] [.Name x p] pos) (tTe X.K T S ρ (neg != (kvs.lookup y).isSome)):=
 PT.mono (pt_cmp (pc_inC h e hk ha neg) (by cases neg<;>rfl)) fun σ H Q ⟨re,q⟩=>⟨re,fun v H' sm r=>by
  unfold Rep at r
  exact ⟨_,r,q H' sm⟩⟩
end
end Z
namespace Z
open PySem PySem.Spec PyProof.Rows L2
section
variable {X:Cx}{T:Tx}{S:Addr→Prop}
theorem rep_str {K:PySem.W.Frag} {H:Hp} {x:Str}:Rep K T H S (.str x) (.str x):=by unfold Rep; rfl
theorem strs_vals {K:PySem.W.Frag} {H:Hp}:∀ {ds:List D} {ns:List Str} {ys:List V} {us:List Value},strsD ds=some ns→RepL K T H S ds ys→Vals ys us→StrsAre us ns
 | [],ns,ys,us,h,r,v=>by
  simp only [strsD] at h
  cases h
  unfold RepL at r
  subst r
  cases v
  exact .nil
 | d::ds,ns,ys,us,h,r,v=>by
  cases d<;>simp only [strsD,reduceCtorEq] at h
  rename_i i
  rw [Option.map_eq_some_iff] at h
  obtain ⟨r',h1,rfl⟩:=h
  unfold RepL at r
  obtain ⟨x,w,rfl,rx,rw'⟩:=r
  unfold Rep at rx
  subst rx
  cases v with
  | cons h2 h3 =>
   obtain ⟨t,rfl⟩:=h2
   exact .cons _ _ (strs_vals h1 rw' h3)
theorem bools_vals {K:PySem.W.Frag} {H:Hp}:∀ {ds:List D} {ns:List Bool} {ys:List V} {us:List Value},boolsD ds=some ns→RepL K T H S ds ys→Vals ys us→us=ns.map .bool
 | [],ns,ys,us,h,r,v=>by
  simp only [boolsD] at h
  cases h
  unfold RepL at r
  subst r
  cases v
  rfl
 | d::ds,ns,ys,us,h,r,v=>by
  cases d<;>simp only [boolsD,reduceCtorEq] at h
  rename_i i
  rw [Option.map_eq_some_iff] at h
  obtain ⟨r',h1,rfl⟩:=h
  unfold RepL at r
  obtain ⟨x,w,rfl,rx,rw'⟩:=r
  unfold Rep at rx
  subst rx
  cases v with
  | cons h2 h3 =>
   cases h2
   rw [bools_vals h1 rw' h3]; rfl
theorem b_all (hc:X.calm=true):CallR X (.builtin "all") (rBf X.K T S fAll):=by
 rintro pins s σ H xs us Q I r ⟨ds,d,dom,rl,e,q⟩
 unfold fAll at e
 split at e
 ·obtain ⟨x,rfl,rx⟩:=rep1 rl
  obtain ⟨bs,he,rfl⟩:=Option.map_eq_some_iff.mp e
  unfold Rep at rx
  obtain ⟨p,ys,rfl,_,hq,ry⟩:=rx
  obtain ⟨u,rfl,ru⟩:=vals1 r
  cases ru
  obtain ⟨its,rv,pl,hz⟩:=I.list (SqL.of hq)
  have hb:=bools_vals he ry rv
  subst hb
  have hl:=pl.isList
  have hlt:p<s.heap.objs.size:=by obtain ⟨_,e,_⟩:=hl; exact Heap.lt_size e
  refine call_all_walk (wpAny_pyIter_list hl ?_)
  refine ⟨s.heap.objs.size,[s.heap.objs.size,p],[s.heap.objs.size],(bs.map Value.bool).toArray.size,_,_,fun i=>(bs[i]?).getD true,rfl,Walks.list (A:=X.A.in1) (I.ok.hd hc) _ p (Nat.ne_of_lt hlt) (bs.map Value.bool).toArray,
   ⟨⟨_,Heap.get?_push_size _ rfl,rfl,rfl⟩,hl.push _⟩,fun i v s' Q' E' hP hQ=>?_,fun h' tk hk=>?_⟩
  ·have hP':(bs.map Value.bool)[i]?=some v:=by simpa using hP
   rw [List.getElem?_map,Option.map_eq_some_iff] at hP'
   obtain ⟨b,e,rfl⟩:=hP'
   simp only [e,Option.getD_some] at hQ
   exact wpAny_truthy_bool hQ
  ·have e:((List.range (bs.map Value.bool).toArray.size).all fun i=>(bs[i]?).getD true)=bs.all id:=by
    rw [List.size_toArray,List.length_map]; exact LSm.range_all bs
   rw [e]
   exact ⟨.bl _,H,I.kept (t':=tk) (LSm.kept_iter hk),rfl,q _ H (Same.refl H) rep_bl⟩
 ·cases e
theorem b_str:CallR X (.type "str") (rBf X.K T S fStr):=by
 rintro pins s σ H xs us Q I r ⟨ds,d,dom,rl,e,q⟩
 unfold fStr at e
 split at e
 ·obtain ⟨x,rfl,rx⟩:=rep1 rl
  unfold Rep at rx
  subst rx
  split at e
  ·rename_i hz
   cases e
   exact call_str_int pins s σ H _ us Q I r ⟨_,rfl,hz,q _ H (Same.refl H) rep_str⟩
  ·cases e
 ·cases e
noncomputable def rSm (K:PySem.W.Frag) (T:Tx) (S:Addr→Prop) (g:List D→Option D):V→List V→Hp→VK→Prop:=fun x xs H Q =>
 ∃ ds d,(∀ a,S a→∃ o,H a=some o)∧RepL K T H S ds (x::xs)∧g ds=some d∧∀ v H',Same H H'→Rep K T H' S d v→Q v H'
theorem m_starts:MtR X "str.startswith" (rSm X.K T S fStarts):=by
 rintro pins s σ H x xs v us Q I rx rs ⟨ds,d,dom,rl,e,q⟩
 unfold fStarts at e
 split at e
 ·obtain ⟨x',y',ee,r1,r2⟩:=rep2 rl
  cases ee
  unfold Rep at r1 r2
  subst r1 r2
  cases e
  obtain ⟨t,rfl⟩:=rx
  obtain ⟨u,rfl,t',rfl⟩:=vals1 rs
  exact SC.startswith ⟨.bl _,H,I,rfl,q _ H (Same.refl H) rep_bl⟩
 ·cases e
noncomputable def rUpper:V→List V→Hp→VK→Prop:=fun x xs H Q=>∃ z,x=.str z∧xs=[]∧z.length≤1000∧Q (.str (Txt.upper z)) H
theorem m_upper:MtR X "str.upper" rUpper:=by
 rintro pins s σ H x xs v us Q I rx rs ⟨z,rfl,rfl,hz,q⟩
 obtain ⟨t,rfl⟩:=rx
 cases rs
 exact PyProof.Rows.SCL.upper (Nat.le_trans hz (by decide)) fun _=>⟨.str _,H,I.tok _,⟨_,rfl⟩,q⟩
theorem m_join:MtR X "str.join" (rSm X.K T S fJoin):=by
 rintro pins s σ H x xs v us Q I rx rs ⟨ds,d,dom,rl,e,q⟩
 unfold fJoin at e
 split at e
 ·obtain ⟨x',y',ee,r1,r2⟩:=rep2 rl
  cases ee
  obtain ⟨ys,hy,e⟩:=Option.bind_eq_some_iff.mp e
  split at e
  ·rename_i hz
   cases e
   unfold Rep at r1 r2
   subst r1
   obtain ⟨p,zs,rfl,_,hq,ry⟩:=r2
   obtain ⟨t,rfl⟩:=rx
   obtain ⟨u,rfl,ru⟩:=vals1 rs
   cases ru
   obtain ⟨its,rv,pl,_⟩:=I.list (SqL.of hq)
   exact join_list pl.isList (by simpa using strs_vals hy ry rv) (Nat.le_trans hz (by decide)) fun t' k=>⟨.str _,H,I.tok _,⟨_,rfl⟩,q _ H (Same.refl H) rep_str⟩
  ·cases e
 ·cases e
theorem repL_strs {K:PySem.W.Frag} {H:Hp}:∀ {zs:List Str},RepL K T H S (zs.map .str) (zs.map .str)
 | []=>by unfold RepL; rfl
 | z::zs=>by
  show RepL K T H S (.str z::zs.map .str) _
  unfold RepL
  exact ⟨_,_,rfl,rep_str,repL_strs⟩
theorem vals_strs:∀ {l:List (Str × Tok)},Vals ((l.map (·.1)).map .str) (strValues l)
 | []=>.nil
 | (x,t)::l=>.cons ⟨t,rfl⟩ vals_strs
theorem m_split:MtR X "str.split" (rSm X.K T S fSplit):=by
 rintro pins s σ H x xs v us Q I rx rs ⟨ds,d,dom,rl,e,q⟩
 unfold fSplit at e
 split at e
 ·rename_i x0 y0
  obtain ⟨x',y',ee,r1,r2⟩:=rep2 rl
  cases ee
  split at e
  ·rename_i hz
   cases e
   unfold Rep at r1 r2
   subst r1 r2
   obtain ⟨t,rfl⟩:=rx
   obtain ⟨w,rfl,u,rfl⟩:=vals1 rs
   have hsz:x0.length+2≤sizeLine:=Nat.le_trans hz.2 big_le
   have hy:=hz.1
   have fin:∀ (l:List (Str × Tok)) (k:Nat),l.map (·.1)=Txt.split x0 y0 →
     EP X pins σ Q (.ref s.heap.objs.size) { s with heap:=s.heap.push { cls:=.type "list",data:=.seq (strValues l).toArray },toks:=k }:=fun l k el=>by
    have hp:H s.heap.objs.size=none:=I.hok.fresh (Nat.le_refl _)
    have hln:(Txt.split x0 y0).length≤sizeLine:=Nat.le_trans (fact_split x0 y0).2 hsz
    have ev:Vals ((Txt.split x0 y0).map .str) (strValues l):=by rw [← el]; exact vals_strs
    refine ⟨.ref s.heap.objs.size,upd H s.heap.objs.size (.lst ((Txt.split x0 y0).map .str)),I.laid (t':=k) (fun b u e=>Heap.get?_push_of_some _ e) (Nat.le_refl _) (show ObjOk X.prog X.w _ _ _ (.lst _) from ⟨by rw [List.length_map]; exact hln,strValues l,_,ev,Heap.get?_push_size _ rfl⟩),rfl,q _ _ (Same.upd hp) ?_⟩
    unfold Rep
    refine ⟨_,_,rfl,fun z=>?_,upd_same,repL_strs⟩
    obtain ⟨o,e⟩:=dom _ z
    rw [hp] at e; cases e
   have hn:(Builtin.Str.partsBetween x0 (Builtin.Str.occurrences x0 y0 0 x0.length (x0.length+1)) y0.length).length≤sizeLine:=by
    have e1:=StrLaws.occ_length_le x0 y0 0 x0.length (x0.length+1)
    rw [length_partsBetween]; omega
   cases h1:(decide (x0.length<y0.length) || decide (Builtin.Str.strKind x0<Builtin.Str.strKind y0))
   ·cases hf:(Builtin.Str.occurrences x0 y0 0 x0.length (x0.length+1)).isEmpty
    ·refine call_meets F.slot_str_split (typeIs_str _ _ _) F.entry_str_split (F.args_str_split_2 _ _) (meets_str_split_sep x0 y0 t u h1 hy hf (by omega) hn) ?_
     show wants _ _ _ { s with toks:=_,heap:=s.heap.push { cls:=.type "list",data:=.seq (strsFrom s.toks (Builtin.Str.partsBetween x0 (Builtin.Str.occurrences x0 y0 0 x0.length (x0.length+1)) y0.length)).toArray } }
     rw [strsFrom_eq]
     exact fin (numbered s.toks _) _ ((numbered_texts _ _).trans ((if_neg (ne_true_of_eq_false h1)).trans (if_neg (ne_true_of_eq_false hf))).symm)
    ·exact call_meets F.slot_str_split (typeIs_str _ _ _) F.entry_str_split (F.args_str_split_2 _ _) (meets_str_split_not_found x0 y0 t u h1 hy hf)
      (fin [(x0,t)] s.toks ((if_neg (ne_true_of_eq_false h1)).trans (if_pos hf)).symm)
   ·exact call_meets F.slot_str_split (typeIs_str _ _ _) F.entry_str_split (F.args_str_split_2 _ _) (meets_str_split_cannot_occur x0 y0 t u h1)
     (fin [(x0,t)] s.toks (if_pos h1).symm)
  ·cases e
 ·cases e
end
section
variable {CX:CXT}{X:Cx}{c:CC}{G:GS}{T:Tx}{lv:Nat}{ρ:List Sl}{S:Addr→Prop}{pos p:Pos}{ea eb:Expr}
theorem n_sm {es:List Expr} {m:Str} {x:Str} {ds:List D} {d:D} {ap q:Pos} (ho:noSuper ea=true) (hl:es.length<30) (hp:(ap.endLine == q.line)=true) (ha:PE X ea (tD X.K T S ρ (.str x))) (pa:PA X es (tAs X.K T S ρ ds)) (hs:starEach es X.env=es.map fun e=>(false,eval e X.env)) (hlen:ds.length=es.length) (hd:smD m (.str x::ds)=some d) :
  PE X (.Call (.Attribute ea m ap) es [] q) (tD X.K T S ρ d):=by
 cases es with
 | nil =>
  obtain rfl:ds=[]:=List.length_eq_zero_iff.mp hlen
  unfold smD at hd
  split at hd
  ·exact nomatch (show none=some d from hd)
  split at hd
  ·exact nomatch (show none=some d from hd)
  split at hd
  ·exact nomatch (show none=some d from hd)
  split at hd
  ·rename_i e0; subst e0
   have hd:(if x.length≤1000 then some (D.str (Txt.upper x)) else none)=some d:=hd
   split at hd
   ·rename_i hz
    cases hd
    refine PE.mono (pe_bm0 PySem.F.plainAttrs_str PySem.F.slot_str_upper PySem.F.type_str_upper m_upper ha (base_of ho) hp) fun σ H Q ⟨re,q⟩=>⟨re,fun v H1 s1 r1=>?_⟩
    unfold Rep at r1
    subst r1
    exact ⟨rfl,x,rfl,rfl,hz,q _ H1 s1 rep_str⟩
   ·cases hd
  ·cases hd
 | cons e es =>
  obtain ⟨h1,h2⟩:=stars (pos:=q) hs
  have hf:((backTo q (starEach (e::es) X.env)).all (fun x=>!x.1)&&(backToKw q (keywordEach [] X.env)).all (fun x=>x.1.isSome)&&decide ((e::es).length+([]:List Keyword).length+(if ([]:List Keyword).isEmpty then 0 else 1)<30))=true:=by
   rw [hs,back_all]
   simp [backToKw,keywordEach]
   simp at hl
   omega
  have go:∀ {g:List D→Option D},g (.str x::ds)=some d→∀ σ H Q,tD X.K T S ρ d σ H Q→tBM X.K "str" (rSm X.K T S g) (tD X.K T S ρ (.str x)) (tAs X.K T S ρ ds) σ H Q:=fun {g} hg σ H Q ⟨re,q⟩=>⟨re,fun v H1 s1 r1=>by
   unfold Rep at r1
   subst r1
   exact ⟨rfl,re.same s1,fun vs H2 s2 r2=>⟨.str x::ds,d,((re.same s1).same s2).dom,by unfold RepL; exact ⟨_,_,rfl,rep_str,r2⟩,hg,fun w H3 s3 r3=>q w H3 (s1.trans (s2.trans s3)) r3⟩⟩⟩
  unfold smD at hd
  split at hd
  ·rename_i e0; subst e0
   exact PE.mono (pe_bm PySem.F.plainAttrs_str PySem.F.slot_str_join PySem.F.type_str_join m_join ha pa (base_of ho) hf hp h1 h2) (go hd)
  split at hd
  ·rename_i e0; subst e0
   exact PE.mono (pe_bm PySem.F.plainAttrs_str PySem.F.slot_str_split PySem.F.type_str_split m_split ha pa (base_of ho) hf hp h1 h2) (go hd)
  split at hd
  ·rename_i e0; subst e0
   exact PE.mono (pe_bm PySem.F.plainAttrs_str PySem.F.slot_str_startswith PySem.F.type_str_startswith m_starts ha pa (base_of ho) hf hp h1 h2) (go hd)
  split at hd
  ·exfalso
   cases ds with
   | nil=>cases hlen
   | cons d0 ds=>exact nomatch (show none=some d from hd)
  ·cases hd
theorem parts_ok {n:Nat} (hE:OkE CX G T lv n) (xc:XC CX X c G T lv):∀ (vs:List Expr) (ir:IE) (ds:List D) (out x:Str),rdFs (cE n c) vs=some ir→ev G ir ρ=some (.tup ds)→catD out ds=some x→out.length≤sizeLine →
  ∀ (pins:List (Addr × Obj)) (s:Shared) (σ:L2.St) (H:Hp) (Q:VK),Inv X pins σ H s→RE X.K T H S ρ σ→(∀ H',Same H H'→Q (.str x) H')→wpAny (model X.prog X.w) X.A (joinParts out (evalEach vs X.env)) (EP X pins σ Q) X.xe s
 | [],ir,ds,out,x,h1,h2,h3,hz=>fun pins s σ H Q I re q=>by
  cases h1
  cases h2
  cases h3
  exact joinParts_nilE (joinParts_nil ⟨.str out,H,I.tok _,⟨_,rfl⟩,q H (Same.refl H)⟩ hz)
 | v::r,ir,ds,out,x,h1,h2,h3,hz=>fun pins s σ H Q I re q=>by
  obtain ⟨e,he,h1⟩:=Option.bind_eq_some_iff.mp h1
  obtain ⟨x1,hx1,h1⟩:=Option.bind_eq_some_iff.mp h1
  obtain ⟨y,hy,rfl⟩:=Option.map_eq_some_iff.mp h1
  simp only [ev,Option.bind_eq_bind,Option.bind_eq_some_iff] at h2
  obtain ⟨d1,hd1,t2,ht2,h2⟩:=h2
  cases t2<;>first|exact nomatch (show none=some (D.tup ds) from h2)|skip
  cases h2
  obtain ⟨t1,ht1,h3⟩:=Option.bind_eq_some_iff.mp h3
  split at h3
  ·rename_i hl
   have hl':=Nat.le_trans hl big_le
   have pe:=(hE X c S ρ e x1 xc hx1 d1 hd1).1
   have nxt:∀ (s1:Shared) (H1:Hp),Inv X pins σ H1 s1→Same H H1→wpAny (model X.prog X.w) X.A (joinParts (out++t1) (evalEach r X.env)) (EP X pins σ Q) X.xe s1:=fun s1 H1 I1 sm =>
    parts_ok hE xc r y _ _ x hy ht2 h3 hl' pins s1 σ H1 Q I1 (re.same sm) fun H' s2=>q H' (sm.trans s2)
   have tz:t1.length≤sizeLine:=Nat.le_trans (by rw [PySem.strLen_append]; exact Nat.le_add_left _ _) hl'
   refine joinParts_consE (joinParts_cons ?_)
   unfold fsP at he
   split at he
   ·split at he
    ·rename_i ek
     subst ek
     cases he
     refine FormattedValue_plain (thn (pe pins s σ H (fun v H'=>Same H H'∧Rep X.K T H' S d1 v) I ⟨re,fun v H' a b=>⟨a,b⟩⟩) fun u s1 ⟨vv,H1,I1,ru,sm,rp⟩=>?_)
     cases d1<;>first|exact nomatch (show none=some t1 from ht1)|skip
     ·simp only [txtD] at ht1
      split at ht1<;>cases ht1
      rename_i hi
      unfold Rep at rp
      subst rp
      obtain ⟨t,rfl⟩:=ru
      exact formatField_int_small hi ⟨hl',nxt _ _ (I1.tok _) sm⟩
     ·cases ht1
      unfold Rep at rp
      subst rp
      obtain ⟨t,rfl⟩:=ru
      exact formatField_str (fun t' tk=>⟨hl',nxt _ _ (I1.tok _) sm⟩) tz
    ·cases he
   ·cases he
    refine thn (pe pins s σ H (fun v H'=>Same H H'∧Rep X.K T H' S d1 v) I ⟨re,fun v H' a b=>⟨a,b⟩⟩) fun u s1 ⟨vv,H1,I1,ru,sm,rp⟩=>?_
    have hd1':d1=.str t1:=by
     cases n with
     | zero=>exact nomatch (show none=some x1 from hx1)
     | succ n =>
      cases hx1
      cases hd1
      cases ht1
      rfl
    subst hd1'
    unfold Rep at rp
    subst rp
    obtain ⟨t,rfl⟩:=ru
    exact ⟨hl',nxt _ _ I1 sm⟩
   ·cases he
  ·cases h3
theorem n_fst {n:Nat} (hE:OkE CX G T lv n) (xc:XC CX X c G T lv) {vs:List Expr} {ir:IE} {ds:List D} {x:Str} (hl:2≤vs.length) (h1:rdFs (cE n c) vs=some ir) (h2:ev G ir ρ=some (.tup ds)) (h3:catD Str.empty ds=some x):PE X (.JoinedStr vs pos) (tD X.K T S ρ (.str x)):=by
 match vs,hl with
 | v1::v2::r,_ =>
  intro pins s σ H Q I ⟨re,q⟩
  exact JoinedStr_many (parts_ok hE xc (v1::v2::r) ir ds Str.empty x h1 h2 h3 (Nat.zero_le _) pins s σ H Q I re fun H' sm=>q _ H' sm rep_str)
theorem n_ixC (h:XC CX X c G T lv) {x y:Str} {kvs:List (Str × D)} {d:D} (e:isGlob c x=true) (hk:G.dk x=some kvs) (ha:PE X eb (tD X.K T S ρ (.str y))) (hs:NoSl eb) (hd:kvs.lookup y=some d):PE X (.Subscript (.Name x p) eb pos) (tD X.K T S ρ d):=by
 obtain ⟨a,hm,hs',o,vs,hl,hdd,hks,hvs⟩:=h.go.dk x kvs hk
 intro pins s σ H Q I ⟨re,q⟩
 refine subD_of PySem.F.slot_dict_getitem.lookup hs (ld_glob I (h.glob e) hm ?_ (h.gne e))
 refine thn (ha pins s σ H (fun v H'=>Same H H'∧Rep X.K T H' S (.str y) v) I ⟨re,fun v H' sm r=>⟨sm,r⟩⟩) fun iv s1 ⟨v,H1,I1,ry,sm,r⟩=>?_
 unfold Rep at r
 subst r
 obtain ⟨t,rfl⟩:=ry
 have dd:s1.heap.DictOf (mixKind X.prog X.w) a vs:=Heap.dictOf_iff.mpr ⟨o,I1.kIn a o hl,hdd⟩
 have hv:(valueAt vs (Sum.inr y)).isSome=true:=by rw [hks,hd]; rfl
 obtain ⟨u,hu⟩:=Option.isSome_iff_exists.mp hv
 obtain ⟨w,rw',rep⟩:=hvs y d u hd hu
 refine ⟨?_,wpAny_getItem_of (knd:=mixKind X.prog X.w) (mixKind_str X.prog X.w y t) dd.mapOf hu ⟨w,H1,I1.tok _,rw',q _ H1 sm (rep H1 S (kfree I1) (re.same sm).dom)⟩⟩
 exact dd.typeIs
theorem part_none {o:Option D} {lo:Option Expr} (h:part lo.isSome o=some none):lo=none:=by
 cases lo with
 | none=>rfl
 | some e =>
  simp only [part,Option.isSome_some,if_true,Option.map_eq_some_iff] at h
  obtain ⟨i,_,h⟩:=h
  cases h
theorem n_slS {lo hi:Option Expr} {z:Str} {j:Int} {p2:Pos} (ha:PE X ea (tD X.K T S ρ (.str z))) (hlo:lo=none) (hh:PO X hi (tPt X.K T S ρ (some j))) (hz:z.length≤big):PE X (.Subscript ea (.Slice lo hi none p2) pos) (tD X.K T S ρ (.str (Txt.slice z none (some j)))):=by
 subst hlo
 intro pins s σ H Q I ⟨re,q⟩
 refine Subscript_ (thn (ha pins s σ H (fun v H'=>Same H H'∧Rep X.K T H' S (.str z) v) I ⟨re,fun v H' a b=>⟨a,b⟩⟩) fun v s1 ⟨x,H1,I1,r1,sm,rx⟩=>?_)
 unfold Rep at rx
 subst rx
 obtain ⟨t,rfl⟩:=r1
 refine wpAny_Slice (thn (n_po0 (T:=T) (S:=S) (ρ:=ρ) pins s1 σ H1 (fun o H'=>o=none∧Same H1 H') I1 ⟨re.same sm,fun H' a=>⟨rfl,a⟩⟩) fun vl s2 ⟨l,H2,I2,pl,el,sm2⟩=>thn (hh pins s2 σ H2 (fun o H'=>o=some j∧Same H2 H') I2 ⟨(re.same sm).same sm2,fun H' a=>⟨rfl,a⟩⟩) fun vu s3 ⟨u,H3,I3,pu,eu,sm3⟩=>?_)
 subst el eu
 cases pl
 obtain ⟨uj,rfl⟩:∃ uj,vu=.int j uj:=by cases pu; exact ⟨_,rfl⟩
 rw [evalPart_none]
 refine wpAny_pure ?_
 obtain ⟨ty,id,hl,hT,hg⟩:=SBH.sliceItem_ns (prog:=X.prog) (w:=X.w) (A:=X.A) (E:=X.xe) (P:=fun h=>∀ b o,s3.heap.get? b=some o→h.get? b=some o) (s:=s3) (x:=z) (t:=t) (j:=j) (uj:=uj) (Q:=EP X pins σ Q) (fun h ob k b o e=>Heap.get?_push_of_some _ (k b o e)) (fun b o e=>e) (fun h' t' k hP=>⟨.str _,H3,I3.kept (t':=k) hP,⟨t',rfl⟩,q _ H3 (sm.trans (sm2.trans sm3)) rep_str⟩) (Nat.le_trans hz big_le)
 exact tail_any (ops:=[.ref s3.heap.objs.size,.str z t]) hT hl hg (by with_unfolding_all rfl)
theorem n_repl {t a b b0 o:Expr} {i k:Int} {y z:Str} {d:D} (hq:replP t a=some (b0,i,o,y,z)) (hb0:PE X b0 (tD X.K T S ρ (.int k))) (ha:i<k→∃ x,d=.str (Txt.replace x y z)∧(x.length≤100000∧z.length≤14)∧PE X o (tD X.K T S ρ (.str x))) (hb:¬ i<k→PE X b (tD X.K T S ρ d)):PE X (.IfExp t a b pos) (tD X.K T S ρ d):=by
 unfold replP at hq
 split at hq
 ·rename_i b1 i1 j1 p1 p2 o1 m ap y1 j2 p3 z1 j3 p4 cp
  obtain ⟨hc,hq⟩:=i_some hq
  cases hq
  obtain ⟨hc,c4⟩:=and_t hc
  obtain ⟨hc,c3⟩:=and_t hc
  obtain ⟨c1,c2⟩:=and_t hc
  have hm:m = "replace":=beq_iff_eq.mp c1
  subst hm
  have hyz:=not_t c4
  intro pins s σ H Q I ⟨re,q⟩
  refine wpAny_IfExp (wpAny_isTrue_Compare1 (thn (hb0 pins s σ H (fun v H'=>Same H H'∧Rep X.K T H' S (.int k) v) I ⟨re,fun v H' a b=>⟨a,b⟩⟩) fun v s1 ⟨x1,H1,I1,r1,sm,rx⟩=>?_) (nomark _))
  unfold Rep at rx
  subst rx
  refine wpAny_Constant_int ?_
  refine wpAny_with_toks (n:=1) (s:={ s1 with toks:=s1.toks+1 }) (Nat.succ_le_succ (Nat.zero_le _)) ?_
  refine wpAny_mono (op_gt pins { s1 with toks:=s1.toks+1 } σ H1 (.int k) (.int i) v (.int i s1.toks) (fun w H'=>w=.bl (decide (i<k))∧H'=H1) (I1.tok _) r1 ⟨_,rfl⟩ ⟨k,i,rfl,rfl,rfl,rfl⟩) (fun c s3 ⟨w,H3,I3,r3,ew,eH⟩ ht=>?_) fun _ _ e _=>e
  subst ew eH
  cases r3
  refine wpAny_truthy_bool ?_
  cases hd:decide (i<k) with
  | false =>
   have hn:¬ i<k:=of_decide_eq_false hd
   exact hb hn pins s3 σ H3 Q I3 ⟨re.same sm,fun v H' s2 r=>q v H' (sm.trans s2) r⟩
  | true =>
   obtain ⟨x,rfl,hz,ho⟩:=ha (of_decide_eq_true hd)
   refine wpAny_Call_method_late (base_of c2) rfl c3 rfl (wpAny_with_toks (n:=1) ht (wpAny_mono (ho pins s3 σ H3 (fun v H'=>Same H3 H'∧Rep X.K T H' S (.str x) v) I3 ⟨re.same sm,fun v H' a b=>⟨a,b⟩⟩) (fun v4 s4 ⟨x4,H4,I4,r4,sm4,rx4⟩ ht4=>?_) fun _ _ e _=>e))
   unfold Rep at rx4
   subst rx4
   obtain ⟨t4,rfl⟩:=r4
   obtain ⟨g1,g2⟩:=tyV_is (T:="str") (x:=.str x) (v:=.str x t4) I4 ⟨t4,rfl⟩ rfl
   refine ⟨"str","str.replace",PySem.F.plainAttrs_str,PySem.F.slot_str_replace,PySem.F.type_str_replace,g1,g2,?_⟩
   refine Calls.callWith_builtin rfl (Calls.evalArgs_plain ?_)
   refine Calls.spliced_cons (Calls.Constant_str (k:=j2) (pos:=p3) (Calls.spliced_cons (Calls.Constant_str (k:=j3) (pos:=p4) (Calls.spliced_nil ?_))))
   have h4:1≤s4.toks:=ht4
   refine SC.replaceW (fun e=>?_) (fun e=>?_) (fun e=>?_) hyz (Nat.le_trans hz.1 (by decide)) hz.2 fun t' k'=>⟨.str _,H4,I4.tok _,⟨t',rfl⟩,q _ H4 (sm.trans sm4) rep_str⟩
   ·rw [e] at h4; cases h4
   ·exact absurd (show s4.toks+1=0 from e) (Nat.succ_ne_zero _)
   ·exact absurd (show s4.toks=s4.toks+1 from e) (Nat.ne_of_lt (Nat.lt_succ_self _))
 ·cases hq
end
end Z
namespace Z
open PySem PySem.Spec PyProof.Rows L2
variable {CX:CXT}{G:GS}{T:Tx}{lv:Nat}
theorem argsOf_some {o:Option D} {ds:List D} (h:argsOf o=some ds):o=some (.tup ds):=by
 unfold argsOf at h
 split at h
 ·cases h; rfl
 ·cases h
theorem okOf_some {o:Option Rs} {d:D} (h:okOf o=some d):o=some (.ok d):=by
 unfold okOf at h
 split at h
 ·cases h; rfl
 ·cases h
theorem intOf_some {o:Option D} {i:Int} (h:intOf o=some i):o=some (.int i):=by
 unfold intOf at h
 split at h
 ·cases h; rfl
 ·cases h
theorem noFresh {X:Cx} {K:PySem.W.Frag} {c:CC} {S:Addr→Prop} {ρ:List Sl} {e:Expr} {d:D} (h:PE X e (tD X.K T S ρ d)) (hf:freshE c e=false):PE X e (tD X.K T S ρ d)∧(freshE c e=true→∀ ds,d=.lst ds→PE X e (tNw X.K T S ρ ds)):=
 ⟨h,fun z=>by rw [hf] at z; cases z⟩
theorem withFresh {X:Cx} {c:CC} {S:Addr→Prop} {ρ:List Sl} {e:Expr} {ds:List D} (h:PE X e (tNw X.K T S ρ ds)):PE X e (tD X.K T S ρ (.lst ds))∧(freshE c e=true→∀ es,D.lst ds=.lst es→PE X e (tNw X.K T S ρ es)):=
 ⟨n_new h,fun _ es z=>by cases z; exact h⟩
theorem part_po {X:Cx} {c:CC} {S:Addr→Prop} {ρ:List Sl} {n:Nat} (hE:OkE CX G T lv n) (xc:XC CX X c G T lv) {lo:Option Expr} {l:IE} {o:Option Int} (h:rdPart (cE n c) lo=some l) (hp:part lo.isSome (ev G l ρ)=some o):PO X lo (tPt X.K T S ρ o):=by
 cases lo with
 | none =>
  simp only [part,Option.isSome_none,Bool.false_eq_true,if_false,Option.some.injEq] at hp
  subst hp
  exact n_po0
 | some e =>
  simp only [part,Option.isSome_some,if_true,Option.map_eq_some_iff] at hp
  obtain ⟨i,hi,rfl⟩:=hp
  exact n_po1 (hE X c S ρ e l xc h _ (intOf_some hi)).1
theorem muOf_slot {c:CC} {x:Str} {i:Nat} (h:muOf c x=some i):slotOf c x=some i:=by
 unfold muOf at h
 exact (i_some h).2
theorem muName_at {c:CC} {e:Expr} {i:Nat} (h:muName c e=some i):∃ x p,e=.Name x p∧slotOf c x=some i:=by
 obtain ⟨x,h1,h⟩:=b_some h
 exact ⟨x.1,x.2,nameP_some h1,muOf_slot h⟩
theorem fresh_new {K:PySem.W.Frag} {S:Addr→Prop} {H H1 H':Hp} {es:List D} {v:V} {Q:VK} (s1:Same H H1) (s2:Same H1 H') (fr:Fresh K T S H1 H' (.lst es) v) (q:∀ p xs H',Same H H'→H p=none→H' p=some (.lst xs)→RepL K T (er H' p) S es xs→Q (.ref p) H'):Q v H':=by
 obtain ⟨p,xs,rfl,hn,hs,rl⟩:=fr es rfl
 exact q p xs H' (s1.trans s2) (s1.free hn) hs rl
theorem n_lenm {X:Cx} {c:CC} {S:Addr→Prop} {ρ:List Sl} (xc:XC CX X c G T lv) {y:Str} {p py q:Pos} {i:Nat} {xs:List D} (hg:isGlob c "len" = true) (hm:X.mg "len" = none) (e:slotOf c y=some i) (hs:slotL ρ i=some xs) :
  PE X (.Call (.Name "len" p) [.Name y py] [] q) (tD X.K T S ρ (.int xs.length)):=by
 have st:starEach [.Name y py] X.env=(false,eval (.Name y py) X.env)::starEach [] X.env:=rfl
 refine PE.mono (pe_callB call_len_seq (xc.glob hg) hm (by decide +kernel) (pa_cons (n_ref xc e) pa_nil st) (by decide +kernel) (by decide +kernel) rfl rfl) fun σ H Q ⟨re,q⟩=>?_
 obtain ⟨p,ys,e1,e2,rl⟩:=slotL_ref re hs
 exact ⟨_,e1,p,ys,rfl,.inl (SqL.of e2),by rw [← rl.len]; exact q _ H (Same.refl H) rep_int⟩
theorem bt_all:bootBuiltins "all" = some (.builtin "all"):=by decide +kernel
theorem bt_str:bootBuiltins "str" = some (.type "str"):=by decide +kernel
theorem bt_len:bootBuiltins "len" = some (.builtin "len"):=by decide +kernel
theorem bt_int:bootBuiltins "int" = some (.type "int"):=by decide +kernel
theorem bt_tuple:bootBuiltins "tuple" = some (.type "tuple"):=by decide +kernel
theorem bt_max:bootBuiltins "max" = some (.builtin "max"):=by decide +kernel
theorem bt_min:bootBuiltins "min" = some (.builtin "min"):=by decide +kernel
theorem n_bcall {X:Cx} {c:CC} {S:Addr→Prop} {ρ:List Sl} (xc:XC CX X c G T lv) {x:Str} {b:BF} {p pos:Pos} {es:List Expr} {ds:List D} {d:D} (hg:isGlob c x=true) (hm:X.mg x=none) (hb:bfOf x=some b) (ha:PA X es (tAs X.K T S ρ ds)) (hs:starEach es X.env=es.map fun e=>(false,eval e X.env)) (hlen:ds.length=es.length) (hd:bf b ds=some d) :
  PE X (.Call (.Name x p) es [] pos) (tD X.K T S ρ d)∧(x = "list"∨x = "sorted"→∀ es',d=.lst es'→PE X (.Call (.Name x p) es [] pos) (tNw X.K T S ρ es')):=by
 cases es with
 | nil =>
  have:ds=[]:=List.length_eq_zero_iff.mp hlen
  subst this
  cases b<;>simp [bf,fLen,fInt,fList,fTuple,fMax,fMin,fSorted,fStr,fAll] at hd
 | cons e es =>
  obtain ⟨h1,h2⟩:=stars (pos:=pos) hs
  have hgl:=xc.glob hg
  have go:∀ {g:List D→Option D},g ds=some d→∀ σ H Q,tD X.K T S ρ d σ H Q→tCB (rBf X.K T S g) (tAs X.K T S ρ ds) σ H Q:=fun {g} hg' σ H Q ⟨re,q⟩=>⟨re,fun vs H1 s1 r1=>⟨ds,d,(re.same s1).dom,r1,hg',fun v H' s2 r2=>q v H' (s1.trans s2) r2⟩⟩
  unfold bfOf at hb
  split at hb
  ·rename_i e0; subst e0; cases hb
   exact ⟨PE.mono (pe_callB (b_all xc.calm) hgl hm bt_all ha (by decide +kernel) (by decide +kernel) h1 h2) (go hd),fun z=>absurd z (by decide +kernel)⟩
  split at hb
  ·rename_i e0; subst e0; cases hb
   exact ⟨PE.mono (pe_callB b_len hgl hm bt_len ha (by decide +kernel) (by decide +kernel) h1 h2) (go hd),fun z=>absurd z (by decide +kernel)⟩
  split at hb
  ·rename_i e0; subst e0; cases hb
   exact ⟨PE.mono (pe_callTy b_int hgl hm bt_int ha (by decide +kernel) (by decide +kernel) h1 h2) (go hd),fun z=>absurd z (by decide +kernel)⟩
  split at hb
  ·rename_i e0; subst e0; cases hb
   have hl:∃ es',d=.lst es':=by
    simp only [bf] at hd
    unfold fList at hd
    split at hd<;>first|(cases hd; exact ⟨_,rfl⟩)|cases hd
   obtain ⟨es',rfl⟩:=hl
   have pn:PE X (.Call (.Name "list" p) (e::es) [] pos) (tNw X.K T S ρ es'):=PE.mono (pe_callTy b_list hgl hm bt_list ha (by decide +kernel) (by decide +kernel) h1 h2) fun σ H Q ⟨re,q⟩=>⟨re,fun vs H1 s1 r1=>⟨ds,es',r1,hd,fun p ys H' s2 hn hs' rl=>by
    refine q p ys H' (s1.trans s2) ?_ hs' rl
    cases e0:H p with
    | none=>rfl
    | some o=>rw [s1 p o e0] at hn; cases hn⟩⟩
   exact ⟨n_new pn,fun _ es2 z=>by cases z; exact pn⟩
  split at hb
  ·rename_i e0; subst e0; cases hb
   exact ⟨PE.mono (pe_callTy b_tuple hgl hm bt_tuple ha (by decide +kernel) (by decide +kernel) h1 h2) (go hd),fun z=>absurd z (by decide +kernel)⟩
  split at hb
  ·rename_i e0; subst e0; cases hb
   exact ⟨PE.mono (pe_callB (b_max xc.calm) hgl hm bt_max ha (by decide +kernel) (by decide +kernel) h1 h2) (go hd),fun z=>absurd z (by decide +kernel)⟩
  split at hb
  ·rename_i e0; subst e0; cases hb
   exact ⟨PE.mono (pe_callB (b_min xc.calm) hgl hm bt_min ha (by decide +kernel) (by decide +kernel) h1 h2) (go hd),fun z=>absurd z (by decide +kernel)⟩
  split at hb
  ·rename_i e0; subst e0; cases hb
   exact ⟨PE.mono (pe_callTy b_str hgl hm bt_str ha (by decide +kernel) (by decide +kernel) h1 h2) (go hd),fun z=>absurd z (by decide +kernel)⟩
  split at hb
  ·cases hb; cases hd
  ·cases hb
theorem bf_bi {x:Str} {b:BF} (h:bfOf x=some b):biNames.contains x=true:=by
 unfold bfOf at h
 repeat' split at h
 all_goals first|cases h; done|(rename_i e; subst e; decide +kernel)
theorem ty_bi {x:Str} (h:tyNames.contains x=true):biNames.contains x=true:=by
 rw [List.contains_iff_mem] at h ⊢
 unfold tyNames at h
 simp only [List.mem_cons,List.not_mem_nil,or_false] at h
 rw [← List.contains_iff_mem]
 rcases h with h|h|h|h|h<;>subst h<;>decide +kernel
section
variable {n:Nat}{X:Cx}{c:CC}{S:Addr→Prop}{ρ:List Sl}{ir:IE}{d:D}
abbrev Tells (CX:CXT) (T:Tx) (X:Cx) (c:CC) (S:Addr→Prop) (ρ:List Sl) (e:Expr) (d:D):Prop:=PE X e (tD X.K T S ρ d)∧(freshE c e=true→∀ ds,d=.lst ds→PE X e (tNw X.K T S ρ ds))
theorem ok_bf (hE:OkE CX G T lv n) (hA:OkA CX G T lv n) (xc:XC CX X c G T lv) {x:Str} {p q:Pos} {args:List Expr} {b:BF} (hg:isGlob c x=true) (hf:c.fns.contains x=false) (hc:c.cls.contains x=false) (hb:bfOf x=some b) (h:rdBf (cE n c) c b args (cA n c args)=some ir) (hd:ev G ir ρ=some d):Tells CX T X c S ρ (.Call (.Name x p) args [] q) d:=by
 have hm:=bi_none xc (bf_bi hb) hf hc
 have bcl:∀ {y:IE},cA n c args=some y→ir=.bcall b y→Tells CX T X c S ρ (.Call (.Name x p) args [] q) d:=fun {y} hy e=>by
  subst e
  simp only [ev,Option.bind_eq_bind,Option.bind_eq_some_iff] at hd
  obtain ⟨ds,hds,hd⟩:=hd
  obtain ⟨ds',e1,hl,pa,hs⟩:=hA X _ S ρ args y xc hy _ (argsOf_some hds)
  cases e1
  have r:=n_bcall (p:=p) (pos:=q) xc hg hm hb pa hs hl hd
  refine ⟨r.1,fun z es e=>r.2 ?_ es e⟩
  have z:((c.fns.contains x&&c.fresh.contains x) || (isGlob c x&&(x == "list" || x == "sorted")&&!own c x))=true:=z
  simp only [own,hf,hc,hg,Bool.false_and,Bool.false_or,Bool.true_and,Bool.or_false,Bool.not_false,Bool.and_true,Bool.or_eq_true,beq_iff_eq] at z
  exact z
 have mb:(cA n c args).map (fun x=>IE.bcall b x)=some ir→Tells CX T X c S ρ (.Call (.Name x p) args [] q) d:=fun h=>by
  obtain ⟨y,hy,e⟩:=m_some h
  exact bcl hy e
 unfold rdBf at h
 cases hmu:muArg c args with
 | some i =>
  rw [hmu] at h
  obtain ⟨e,h1,h2⟩:=b_some hmu
  obtain ⟨y,py,rfl,hsl⟩:=muName_at h2
  obtain rfl:=one_some h1
  cases b with
  | int=>exact mb h
  | list=>exact mb h
  | tuple=>exact mb h
  | max=>exact mb h
  | min=>exact mb h
  | str=>exact mb h
  | all=>exact mb h
  | any=>exact mb h
  | len =>
   cases (show some (IE.lenm i)=some ir from h)
   simp only [ev,Option.bind_eq_bind,Option.bind_eq_some_iff,Option.some.injEq] at hd
   obtain ⟨xs,hxs,rfl⟩:=hd
   have hx:x = "len":=by
    unfold bfOf at hb
    repeat' split at hb
    all_goals first|assumption|cases hb
   subst hx
   exact ⟨n_lenm xc hg hm hsl hxs,fun _ ds z=>by cases z⟩
  | sorted=>exact mb h
 | none =>
  rw [hmu] at h
  cases hr:revArg c args with
  | none =>
   rw [hr] at h
   exact mb (by cases b<;>exact h)
  | some a =>
   rw [hr] at h
   cases b with
   | int=>exact mb h
   | len=>exact mb h
   | tuple=>exact mb h
   | max=>exact mb h
   | min=>exact mb h
   | str=>exact mb h
   | any=>exact mb h
   | all=>exact mb h
   | sorted=>exact mb h
   | list =>
   clear bcl mb
   obtain ⟨z,hz,rfl⟩:=m_some (show (cE n c a).map (fun x=>IE.walk .rev x)=some ir from h)
   simp only [ev,Option.bind_eq_bind,Option.bind_eq_some_iff,Option.map_eq_some_iff] at hd
   obtain ⟨w,hw,ds,hds,rfl⟩:=hd
   have hx:x = "list":=by
    unfold bfOf at hb
    repeat' split at hb
    all_goals first|assumption|cases hb
   subst hx
   obtain ⟨e,h1,r1⟩:=b_some hr
   obtain ⟨r,h2,r2⟩:=b_some r1
   obtain ⟨hn,r3⟩:=i_some r2
   obtain ⟨p1,p2,e5,hg',ho⟩:=biCall_some h2
   obtain ⟨y,as⟩:=r
   have e6:y = "reversed":=beq_iff_eq.mp hn
   have e7:as=[a]:=one_some r3
   have e8:=one_some h1
   clear hr h1 r1 h2 r2 hn r3 hmu h
   subst e6 e7
   dsimp only at e5 hg' ho
   subst e5
   subst e8
   obtain ⟨hf',hc'⟩:=own_f ho
   have st:=(plainE hz).star X.env []
   exact withFresh (pe_listrev xc.calm (xc.glob hg') (bi_none xc (by decide +kernel) hf' hc') (xc.glob hg) hm (n_cons (hE X _ S ρ a z xc hz w hw).1 n_nil st) st hds)
theorem ok_callN (hE:OkE CX G T lv n) (hA:OkA CX G T lv n) (xc:XC CX X c G T lv) {x:Str} {p q:Pos} {args:List Expr} (h:rdCallN (cE n c) c x args (cA n c args)=some ir) (hd:ev G ir ρ=some d):Tells CX T X c S ρ (.Call (.Name x p) args [] q) d:=by
 obtain ⟨hg,h⟩:=i_some h
 cases hfn:c.fns.contains x with
 | true =>
  rw [hfn] at h
  obtain ⟨y,hy,rfl⟩:=m_some (show (cA n c args).map (fun y=>IE.call x y)=some ir from h)
  simp only [ev,Option.bind_eq_bind,Option.bind_eq_some_iff] at hd
  obtain ⟨ds,hds,hd⟩:=hd
  obtain ⟨ds',e1,hl,pa,hs⟩:=hA X _ S ρ args y xc hy _ (argsOf_some hds)
  cases e1
  have r:=n_call (p:=p) (pos:=q) xc hg hfn pa hs hl (okOf_some hd)
  refine ⟨PE.mono r fun σ H Q ⟨re,q⟩=>⟨re,fun v H1 H' s1 s2 rp _=>q v H' (s1.trans s2) rp⟩,fun hf es e=>?_⟩
  subst e
  have hf':G.ff x=true:=by
   have z:((c.fns.contains x&&c.fresh.contains x) || (isGlob c x&&(x == "list" || x == "sorted")&&!own c x))=true:=hf
   simp only [own,hfn,Bool.true_and,Bool.true_or,Bool.not_true,Bool.and_false,Bool.or_false] at z
   exact (xc.go.frs x z).1
  exact PE.mono r fun σ H Q ⟨re,q⟩=>⟨re,fun v H1 H' s1 s2 rp fr=>fresh_new s1 s2 (fr hf') q⟩
 | false =>
  rw [hfn] at h
  cases hcl:c.cls.contains x with
  | true =>
   rw [hcl] at h
   obtain ⟨y,hy,rfl⟩:=m_some (show (cA n c args).map (fun y=>IE.mk x y)=some ir from h)
   simp only [ev,Option.bind_eq_bind,Option.bind_eq_some_iff] at hd
   obtain ⟨ds,hds,hd⟩:=hd
   obtain ⟨ds',e1,hl,pa,hs⟩:=hA X _ S ρ args y xc hy _ (argsOf_some hds)
   cases e1
   refine noFresh (K:=X.K) (n_mk xc hg hcl pa hs hl (okOf_some hd)) ?_
   show ((c.fns.contains x&&c.fresh.contains x) || (isGlob c x&&(x == "list" || x == "sorted")&&!own c x))=false
   simp only [own,hfn,hcl,Bool.false_and,Bool.or_true,Bool.not_true,Bool.and_false,Bool.or_false]
  | false =>
   rw [hcl] at h
   cases hi:x == "isinstance" with
   | false =>
    rw [hi] at h
    obtain ⟨b,hb,h⟩:=b_some (show (bfOf x).bind (fun b=>rdBf (cE n c) c b args (cA n c args))=some ir from h)
    exact ok_bf hE hA xc hg hfn hcl hb h hd
   | true =>
    rw [hi] at h
    obtain rfl:=beq_iff_eq.mp hi
    have h:rdIsi (cE n c) c args=some ir:=h
    match args,h with
    | [a,y],h =>
     obtain ⟨y',hy',h⟩:=b_some h
     obtain ⟨hk,h⟩:=i_some h
     obtain ⟨hk,hk3⟩:=and_t hk
     obtain ⟨hk1,hk2⟩:=and_t hk
     obtain ⟨z,hz,rfl⟩:=m_some h
     obtain rfl:=nameP_some hy'
     obtain ⟨ho1,ho2⟩:=own_f (not_t hk3)
     simp only [ev,Option.bind_eq_bind,Option.bind_eq_some_iff,Option.map_eq_some_iff] at hd
     obtain ⟨w,hw,k,hk,rfl⟩:=hd
     have ht:∃ tn,tyn w=some tn:=by
      cases w<;>first|exact ⟨_,rfl⟩|(simp only [isiD,reduceCtorEq] at hk)
     obtain ⟨tn,ht⟩:=ht
     have st:=(plainE hz).star X.env [.Name y'.1 y'.2]
     exact ⟨n_isi xc hg (bi_none xc (by decide +kernel) hfn hcl) hk1 (bi_none xc (ty_bi hk2) ho1 ho2) hk2 (hE X _ S ρ a z xc hz w hw).1 (by rw [st]; rfl) ht hk,fun _ ds z=>by cases z⟩
theorem ok_meth (hE:OkE CX G T lv n) (hA:OkA CX G T lv n) (xc:XC CX X c G T lv) {o:Expr} {m:Str} {ap q:Pos} {args:List Expr} (h:(if noSuper o&&decide (args.length<30)&&(ap.endLine == q.line) then (cE n c o).bind fun x=>(cA n c args).map fun y=>IE.meth x m y else none)=some ir) (hd:ev G ir ρ=some d):Tells CX T X c S ρ (.Call (.Attribute o m ap) args [] q) d:=by
 obtain ⟨hc,h⟩:=i_some h
 obtain ⟨hc,hc3⟩:=and_t hc
 obtain ⟨hc1,hc2⟩:=and_t hc
 obtain ⟨x,hx,h⟩:=b_some h
 obtain ⟨y,hy,rfl⟩:=m_some h
 simp only [ev,Option.bind_eq_bind,Option.bind_eq_some_iff] at hd
 obtain ⟨w,hw,hd⟩:=hd
 cases w<;>first|exact nomatch (show none=some d from hd)|skip
 ·obtain ⟨ds,hds,hd⟩:=b_some hd
  obtain ⟨ds',e1,hl,pa,hs⟩:=hA X _ S ρ args y xc hy _ (argsOf_some hds)
  cases e1
  refine ⟨n_sm hc1 (of_decide_eq_true hc2) hc3 (hE X _ S ρ o x xc hx _ hw).1 pa hs hl hd,fun hf es e=>?_⟩
  subst e
  have hf:(c.fresh.contains m&&!(m == "split"))=true:=hf
  have nm:=not_t (and_t hf).2
  unfold smD at hd
  split at hd
  ·unfold fJoin at hd
   split at hd
   ·obtain ⟨_,_,hd⟩:=b_some hd
    split at hd<;>cases hd
   ·cases hd
  split at hd
  ·rename_i e0
   subst e0
   exact nomatch (show true=false from nm)
  split at hd
  ·unfold fStarts at hd
   split at hd<;>cases hd
  split at hd
  ·unfold fUpper at hd
   split at hd
   ·split at hd<;>cases hd
   ·cases hd
  ·cases hd
 rename_i cn fs
 obtain ⟨hnone,hd⟩:=i_some hd
 obtain ⟨ds,hds,hd⟩:=b_some hd
 obtain ⟨ds',e1,hl,pa,hs⟩:=hA X _ S ρ args y xc hy _ (argsOf_some hds)
 cases e1
 have r:=n_meth (pos:=q) xc (methTree hc1 hs (of_decide_eq_true hc2) hc3) (hE X _ S ρ o x xc hx _ hw).1 (Option.isNone_iff_eq_none.mp hnone) pa hs hl (okOf_some hd)
 refine ⟨PE.mono r fun σ H Q ⟨re,q⟩=>⟨re,fun v H1 H' s1 s2 rp _=>q v H' (s1.trans s2) rp⟩,fun hf es e=>?_⟩
 subst e
 have hf:(c.fresh.contains m&&!(m == "split"))=true:=hf
 have hf':=(xc.go.frs m (and_t hf).1).2 cn
 exact PE.mono r fun σ H Q ⟨re,q⟩=>⟨re,fun v H1 H' s1 s2 rp fr=>fresh_new s1 s2 (fr hf') q⟩
theorem few_le {es:List Expr} (h:few es=true):es.length≤sizeLine:=Nat.le_trans (of_decide_eq_true h) (Nat.le_trans (by decide) big_le)
theorem ok_sub (hE:OkE CX G T lv n) (xc:XC CX X c G T lv) {a i:Expr} {p:Pos} (h:rdSub (cE n c) (muName c a) (cE n c a) i=some ir) (hd:ev G ir ρ=some d):Tells CX T X c S ρ (.Subscript a i p) d:=by
 unfold rdSub at h
 cases hsl:slP i with
 | some q =>
  rw [hsl] at h
  obtain ⟨lo,hi,st,pp⟩:=q
  obtain rfl:=slP_some hsl
  cases st with
  | some _=>exact nomatch (show none=some ir from h)
  | none =>
   obtain ⟨l,hl,h⟩:=b_some (show (rdPart (cE n c) lo).bind _=some ir from h)
   obtain ⟨u,hu,h⟩:=b_some h
   unfold rdSl at h
   cases hm:muName c a with
   | some j =>
    rw [hm] at h
    cases h
    obtain ⟨x,px,rfl,hsl⟩:=muName_at hm
    simp only [ev,Option.bind_eq_bind,Option.bind_eq_some_iff,Option.some.injEq] at hd
    obtain ⟨xs,hxs,ol,hol,ou,hou,rfl⟩:=hd
    exact withFresh (n_slm xc hsl hxs (part_po hE xc hl hol) (part_po hE xc hu hou))
   | none =>
    rw [hm] at h
    obtain ⟨x,hx,rfl⟩:=m_some h
    simp only [ev,Option.bind_eq_bind,Option.bind_eq_some_iff] at hd
    obtain ⟨w,hw,ol,hol,ou,hou,hd⟩:=hd
    have pa:=(hE X _ S ρ a x xc hx w hw).1
    cases w<;>first|exact nomatch (show none=some d from hd)|skip
    ·have hd:slTxt _ ol ou=some d:=hd
     unfold slTxt at hd
     split at hd
     ·split at hd
      ·rename_i hz
       cases hd
       refine ⟨n_slS pa (part_none hol) (part_po hE xc hu hou) hz,fun _ ds z=>by cases z⟩
      ·cases hd
     ·cases hd
    ·cases hd
     exact withFresh (n_slL pa (part_po hE xc hl hol) (part_po hE xc hu hou) (.inl rfl))
    ·simp only at hd
     split at hd
     ·cases hd
     ·rename_i hw'
      cases hd
      exact ⟨n_slT pa (part_po hE xc hl hol) (part_po hE xc hu hou) hw',fun _ ds z=>by cases z⟩
    ·cases hd
     exact withFresh (n_slL pa (part_po hE xc hl hol) (part_po hE xc hu hou) (.inr rfl))
 | none =>
  rw [hsl] at h
  obtain ⟨k,hk,h⟩:=b_some h
  refine noFresh (K:=X.K) ?_ (by show (slP i).isSome=false; rw [hsl]; rfl)
  unfold rdIx at h
  cases hm:muName c a with
  | some j =>
   rw [hm] at h
   cases h
   obtain ⟨x,px,rfl,hsl⟩:=muName_at hm
   simp only [ev,Option.bind_eq_bind,Option.bind_eq_some_iff] at hd
   obtain ⟨xs,hxs,ii,hii,hd⟩:=hd
   exact n_ixm xc hsl (hE X _ S ρ i k xc hk _ (intOf_some hii)).1 (plainE hk).ix hxs hd
  | none =>
   rw [hm] at h
   obtain ⟨x,hx,rfl⟩:=m_some h
   simp only [ev,Option.bind_eq_bind,Option.bind_eq_some_iff] at hd
   obtain ⟨u,hu,v,hv,hd⟩:=hd
   have pa:=(hE X _ S ρ a x xc hx u hu).1
   have pi:=(hE X _ S ρ i k xc hk v hv).1
   cases v<;>first|(cases u<;>exact nomatch (show none=some d from hd))|skip
   cases u<;>first|exact nomatch (show none=some d from hd)|skip
   ·exact n_ix pa pi (plainE hk).ix (.inl rfl) hd
   ·exact n_ix pa pi (plainE hk).ix (.inr (.inl rfl)) hd
   ·exact n_dix (hu_of xc.room) pa pi (plainE hk).ix hd
   ·exact n_ix pa pi (plainE hk).ix (.inr (.inr rfl)) hd
theorem comp_of (hE:OkE CX G T lv n) (hT:OkT CX G T lv n) (hI:OkI CX G T lv n) (xc:XC CX X c G T lv) {elt:Expr} {gs:List Comprehension} {sc:Scope} {p:Pos} (h:cE (n+1) c (.ListComp elt gs sc p)=some ir) (hd:ev G ir ρ=some d) :
  ∃ tg iter ifs fr tgs tp ds outs f,gs=[⟨tg,iter,ifs,0⟩]∧d=.lst outs∧compOk c sc=true∧freeOf c sc (sc.names.filter fun x=>x.2 == .free)=some fr∧tgs.all (fun i=>(fr.lookup i).isNone)=true∧targetN { c with N:=ownNames sc,sc:=sc } tg=some (tgs,tp) ∧
   PI X tg iter (tI X.K T S ρ ds)∧(∀ x,foldedSetIterable iter X.env x=pure x)∧compGo f ds=some outs ∧
   (∀ d o,f d=some o→∃ ρ1,bindT tgs tp d (frame (ownNames sc).length fr ρ)=some ρ1∧TurnOk CX G T lv { c with N:=ownNames sc,sc:=sc } X.K ifs elt ρ1 o):=by
 obtain ⟨g,hgs,h⟩:=b_some h
 obtain ⟨tg,iter,ifs,as⟩:=g
 by_cases ha:as=0
 ·subst ha
  obtain ⟨⟨tgs,tp⟩,htg,h⟩:=b_some (show rdComp c sc ⟨tg,iter,ifs,0⟩ (cI n c iter) (cT n { c with N:=ownNames sc,sc:=sc }) (cE n { c with N:=ownNames sc,sc:=sc } elt)=some ir from h)
  obtain ⟨⟨k,src⟩,hk,h⟩:=b_some h
  obtain ⟨test,htest,h⟩:=b_some h
  obtain ⟨el,hel,h⟩:=b_some h
  obtain ⟨fr,hfr,h⟩:=b_some h
  obtain ⟨hok,h⟩:=i_some h
  have tgk:TgOk k tg:=trivial
  obtain ⟨ho1,ho2⟩:=and_t hok
  cases h
  obtain ⟨s,hs,hd⟩:=b_some hd
  obtain ⟨ds,hds,hd⟩:=b_some hd
  obtain ⟨outs,houts,rfl⟩:=m_some hd
  obtain ⟨hi,hset⟩:=hI X _ S ρ iter k src xc hk s ds hs hds
  refine ⟨tg,iter,ifs,fr,tgs,tp,ds,outs,_,one_some hgs,rfl,ho1,hfr,ho2,htg,hi tg tgk,hset,houts,?_⟩
  intro d o hf
  obtain ⟨ρ1,h1,hf⟩:=b_some hf
  obtain ⟨w,hw,hf⟩:=b_some hf
  refine ⟨ρ1,h1,fun X' S' xc' hK=>?_⟩
  cases w<;>first|exact nomatch (show none=some o from hf)|skip
  rename_i kk
  have ho:kk=o.isSome∧∀ y,o=some y→ev G el ρ1=some y:=by
   cases kk with
   | true =>
    obtain ⟨y,hy,rfl⟩:=m_some hf
    exact ⟨rfl,fun z e=>by cases e; exact hy⟩
   | false =>
    cases hf
    exact ⟨rfl,fun z e=>by cases e⟩
  obtain ⟨rfl,hy⟩:=ho
  refine ⟨?_,fun y e=>(hE X' _ S' ρ1 elt el xc' hel y (hy y e)).1⟩
  match ifs,htest with
  | [],htest =>
   cases htest
   simp only [ev,Lit.d,Option.some.injEq,D.bl.injEq] at hw
   exact .inl ⟨rfl,hw.symm⟩
  | [e],htest=>exact .inr ⟨e,rfl,hT X' _ S' ρ1 e test xc' htest _ hw⟩
 ·exact nomatch (show none=some ir from (if_neg ha).symm.trans h)
theorem ok_cmp (hE:OkE CX G T lv n) (xc:XC CX X c G T lv) {a:Expr} {os:List CmpOp} {bs:List Expr} {p:Pos} (h:rdCmp c (cE n c) (cE n c a) os bs=some ir) (hd:ev G ir ρ=some d):PE X (.Compare a os bs p) (tD X.K T S ρ d)∧∀ k,d=.bl k→PT X (.Compare a os bs p) (tTe X.K T S ρ k):=by
 match os,bs,h with
 | [o],[b],h =>
  obtain ⟨x,hx,h⟩:=b_some h
  cases hi:inDk c o b with
  | some q =>
   rw [hi] at h
   cases h
   obtain ⟨k,hk,hi⟩:=b_some hi
   obtain ⟨r,hr,hi⟩:=b_some hi
   obtain ⟨hg,hi⟩:=i_some hi
   cases hi
   obtain rfl:=nameP_some hr
   obtain rfl:o=inOp k:=by cases o<;>first|exact nomatch (show none=some k from hk)|(cases hk; rfl)
   cases hu:ev G x ρ with
   | none=>simp only [ev,hu] at hd; cases hd
   | some u =>
    simp only [ev,hu,Option.bind_eq_bind,Option.bind_some] at hd
    cases u<;>first|exact nomatch (show none=some d from hd)|skip
    rename_i s
    obtain ⟨kvs,hkv,rfl⟩:=m_some hd
    have pa:=(hE X _ S ρ a x xc hx _ hu).1
    exact ⟨n_inC xc (and_t hg).1 hkv pa k,fun k' e=>by cases e; exact n_inCT xc (and_t hg).1 hkv pa k⟩
  | none =>
  rw [hi] at h
  obtain ⟨y,hy,rfl⟩:=m_some h
  simp only [ev,Option.bind_eq_bind,Option.bind_eq_some_iff] at hd
  obtain ⟨u,hu,v,hv,hd⟩:=hd
  have pa:=(hE X _ S ρ a x xc hx u hu).1
  have pb:=(hE X _ S ρ b y xc hy v hv).1
  exact ⟨n_cmp xc.units pa pb ((plainE hy).marks o) hd,fun k e=>by subst e; exact n_cmpT xc.units pa pb ((plainE hy).marks o) hd⟩
 | [o,o'],[b,b'],h =>
  obtain ⟨x,hx,h⟩:=b_some h
  obtain ⟨y,hy,h⟩:=b_some h
  obtain ⟨z,hz,rfl⟩:=m_some h
  simp only [ev,Option.bind_eq_bind,Option.bind_eq_some_iff] at hd
  obtain ⟨v,hv,u,hu,w,hw,hd⟩:=hd
  have pa:=(hE X _ S ρ a x xc hx u hu).1
  have pb:=(hE X _ S ρ b y xc hy v hv).1
  have lm:lastMarks [o,o'] [b,b']=false:=(plainE hz).marks o'
  cases w<;>first|exact nomatch (show none=some d from hd)|skip
  rename_i kk
  cases kk with
  | true =>
   obtain ⟨w,hw',hd⟩:=b_some hd
   have pc:=(hE X _ S ρ b' z xc hz w hw').1
   exact ⟨n_chain xc.units pa pb pc lm hw (by rw [if_pos rfl]; exact hd),fun k e=>by subst e; exact n_chainT xc.units pa pb pc lm hw (by rw [if_pos rfl]; exact hd)⟩
  | false =>
   cases hd
   refine ⟨PE.mono (pe_chain (opD_cmp (T:=T) (S:=S) xc.units o) (opD_cmp (T:=T) (S:=S) xc.units o') pa pb (tc:=fun _ _ _=>False) (fun _ _ _ _ _ _ h=>h.elim) lm) fun σ H Q ⟨re,q⟩=>⟨re,fun x H1 s1 r1=>⟨re.same s1,fun y H2 s2 r2=>⟨u,v,.bl false,((re.same s1).same s2).dom,r1.same s2,r2,hw,fun z H3 s3 r3=>?_⟩⟩⟩,fun k e=>?_⟩
   ·unfold Rep at r3
    exact ⟨false,r3,iteF (q _ H3 (s1.trans (s2.trans s3)) rep_bl)⟩
   ·cases e
    refine PT.mono (pt_chain (opD_cmp (T:=T) (S:=S) xc.units o) (opD_cmp (T:=T) (S:=S) xc.units o') pa pb (tc:=fun _ _ _=>False) (fun _ _ _ _ _ _ h=>h.elim) lm) fun σ H Q ⟨re,q⟩=>⟨re,fun x H1 s1 r1=>⟨re.same s1,fun y H2 s2 r2=>⟨u,v,.bl false,((re.same s1).same s2).dom,r1.same s2,r2,hw,fun z H3 s3 r3=>?_⟩⟩⟩
    unfold Rep at r3
    exact ⟨false,r3,iteF ⟨_,rfl,q H3 (s1.trans (s2.trans s3))⟩⟩
end
theorem okE_succ {n:Nat} (hE:OkE CX G T lv n) (hT:OkT CX G T lv n) (hB:OkB CX G T lv n) (hA:OkA CX G T lv n) (hI:OkI CX G T lv n):OkE CX G T lv (n+1):=by
 intro X c S ρ e ir xc h d hd
 cases e<;>first|exact nomatch (show none=some ir from h)|skip
 case Name x p =>
  refine noFresh (K:=X.K) ?_ rfl
  have h:rdName c x=some ir:=h
  unfold rdName at h
  cases hs:slotOf c x with
  | some i =>
   rw [hs] at h
   cases h
   simp only [ev] at hd
   exact n_var xc hs hd
  | none =>
   rw [hs] at h
   obtain ⟨hg,h⟩:=i_some h
   cases h
   simp only [ev] at hd
   exact n_glo xc (and_t hg).1 (and_t hg).2 hd
 case Constant v k p =>
  refine noFresh (K:=X.K) ?_ rfl
  have h:rdConst v=some ir:=h
  cases v<;>first|exact nomatch (show none=some ir from h)|skip
  all_goals
   cases h
   simp only [ev,Lit.d,Option.some.injEq] at hd
   subst hd
  ·exact n_non
  ·exact n_bl
  ·exact n_int
  ·exact n_str
 case BinOp a o b p =>
  refine noFresh (K:=X.K) ?_ rfl
  obtain ⟨o',ho,h⟩:=b_some h
  obtain ⟨x,hx,h⟩:=b_some h
  obtain ⟨y,hy,rfl⟩:=m_some h
  simp only [ev,Option.bind_eq_bind,Option.bind_eq_some_iff] at hd
  obtain ⟨u,hu,v,hv,hd⟩:=hd
  exact n_bin ho (hE X _ S ρ a x xc hx u hu).1 (hE X _ S ρ b y xc hy v hv).1 hd
 case UnaryOp o a p =>
  refine noFresh (K:=X.K) ?_ rfl
  have h:rdUn (cE n c a) o=some ir:=h
  cases o<;>first|exact nomatch (show none=some ir from h)|skip
  ·obtain ⟨x,hx,rfl⟩:=m_some h
   simp only [ev,Option.bind_eq_bind,Option.bind_eq_some_iff,Option.map_eq_some_iff] at hd
   obtain ⟨u,⟨w,hw,k,hk,rfl⟩,hd⟩:=hd
   cases hd
   exact n_not (hE X _ S ρ a x xc hx w hw).1 hk
  ·obtain ⟨x,hx,rfl⟩:=m_some h
   simp only [ev,Option.bind_eq_bind,Option.bind_eq_some_iff] at hd
   obtain ⟨u,hu,hd⟩:=hd
   cases u<;>first|exact nomatch (show none=some d from hd)|skip
   cases hd
   exact n_neg (hE X _ S ρ a x xc hx _ hu).1
 case BoolOp o vs p =>
  refine noFresh (K:=X.K) ?_ rfl
  cases o with
  | And=>exact (hB X _ S ρ true vs ir p xc).1 h d hd
  | Or=>exact (hB X _ S ρ false vs ir p xc).1 h d hd
 case IfExp t a b p =>
  refine noFresh (K:=X.K) ?_ rfl
  have h:(match replP t a with
   | some q=>(cE n c q.1).bind fun x=>(cE n c q.2.2.1).bind fun y=>(cE n c b).map fun z=>IE.repl x q.2.1 y q.2.2.2.1 q.2.2.2.2 z
   | none=>(cT n c t).bind fun x=>(cE n c a).bind fun y=>(cE n c b).map fun z=>IE.ite x y z)=some ir:=h
  cases hq:replP t a with
  | some q =>
   rw [hq] at h
   obtain ⟨x,hx,h⟩:=b_some h
   obtain ⟨y,hy,h⟩:=b_some h
   obtain ⟨z,hz,rfl⟩:=m_some h
   simp only [ev,Option.bind_eq_bind,Option.bind_eq_some_iff] at hd
   obtain ⟨u,hu,hd⟩:=hd
   cases u<;>first|exact nomatch (show none=some d from hd)|skip
   rename_i k
   obtain ⟨b0,i,o,s1,s2⟩:=q
   refine n_repl hq (hE X _ S ρ b0 x xc hx _ hu).1 (fun hlt=>?_) fun hge=>?_
   ·have hd:(if i<k then (ev G y ρ).bind (fRepl s1 s2) else ev G z ρ)=some d:=hd
    rw [if_pos hlt] at hd
    obtain ⟨w,hw,hd⟩:=b_some hd
    unfold fRepl at hd
    split at hd
    ·split at hd
     ·rename_i hz
      cases hd
      exact ⟨_,rfl,hz,(hE X _ S ρ o y xc hy _ hw).1⟩
     ·cases hd
    ·cases hd
   ·have hd:(if i<k then (ev G y ρ).bind (fRepl s1 s2) else ev G z ρ)=some d:=hd
    rw [if_neg hge] at hd
    exact (hE X _ S ρ b z xc hz _ hd).1
  | none =>
  rw [hq] at h
  obtain ⟨x,hx,h⟩:=b_some h
  obtain ⟨y,hy,h⟩:=b_some h
  obtain ⟨z,hz,rfl⟩:=m_some h
  simp only [ev,Option.bind_eq_bind,Option.bind_eq_some_iff] at hd
  obtain ⟨u,hu,hd⟩:=hd
  cases u<;>first|exact nomatch (show none=some d from hd)|skip
  rename_i k
  have pt:=hT X _ S ρ t x xc hx k hu
  cases k with
  | true=>exact n_ite pt (fun _=>(hE X _ S ρ a y xc hy d hd).1) (fun z=>by cases z)
  | false=>exact n_ite pt (fun z=>by cases z) (fun _=>(hE X _ S ρ b z xc hz d hd).1)
 case Compare a os bs p=>exact noFresh (K:=X.K) (ok_cmp hE xc h hd).1 rfl
 case Tuple es k p =>
  refine noFresh (K:=X.K) ?_ rfl
  obtain ⟨hl0,h⟩:=i_some h
  obtain ⟨x,hx,rfl⟩:=m_some h
  simp only [ev,Option.map_eq_some_iff] at hd
  obtain ⟨ds,hds,rfl⟩:=hd
  obtain ⟨ds',e1,hl,pa,hs⟩:=hA X _ S ρ es x xc hx _ (argsOf_some hds)
  cases e1
  exact n_tup pa (by rw [hl]; exact few_le hl0)
 case List es p =>
  obtain ⟨hl0,h⟩:=i_some h
  obtain ⟨x,hx,rfl⟩:=m_some h
  simp only [ev,Option.map_eq_some_iff] at hd
  obtain ⟨ds,hds,rfl⟩:=hd
  obtain ⟨ds',e1,hl,pa,hs⟩:=hA X _ S ρ es x xc hx _ (argsOf_some hds)
  cases e1
  exact withFresh (n_lst pa (by rw [hl]; exact few_le hl0))
 case Subscript a i p =>
  cases hk:ixDk c a with
  | some x =>
   have h:(match ixDk c a with|some x=>rdIxC (cE n c) x i|none=>rdSub (cE n c) (muName c a) (cE n c a) i)=some ir:=h
   rw [hk] at h
   obtain ⟨q,hq,hk⟩:=b_some hk
   obtain ⟨hg,hk⟩:=i_some hk
   cases hk
   obtain rfl:=nameP_some hq
   replace h:rdIxC (cE n c) q.1 i=some ir:=h
   unfold rdIxC at h
   cases hsl:slP i with
   | some _=>rw [hsl] at h; cases h
   | none =>
    rw [hsl] at h
    obtain ⟨k,hk,rfl⟩:=m_some h
    simp only [ev,Option.bind_eq_bind,Option.bind_eq_some_iff] at hd
    obtain ⟨u,hu,hd⟩:=hd
    cases u<;>first|exact nomatch (show none=some d from hd)|skip
    obtain ⟨kvs,hkv,hd⟩:=b_some hd
    exact noFresh (K:=X.K) (n_ixC xc (and_t hg).1 hkv (hE X _ S ρ i k xc hk _ hu).1 (plainE hk).ix hd) (by show (slP i).isSome=false; rw [hsl]; rfl)
  | none =>
   have h:(match ixDk c a with|some x=>rdIxC (cE n c) x i|none=>rdSub (cE n c) (muName c a) (cE n c a) i)=some ir:=h
   rw [hk] at h
   exact ok_sub hE xc h hd
 case JoinedStr vs p =>
  obtain ⟨hl,h⟩:=i_some h
  obtain ⟨x,hx,rfl⟩:=m_some h
  simp only [ev,Option.bind_eq_bind,Option.bind_eq_some_iff,Option.map_eq_some_iff] at hd
  obtain ⟨ds,hds,y,hy,rfl⟩:=hd
  exact noFresh (K:=X.K) (n_fst hE xc (of_decide_eq_true hl) hx (argsOf_some hds) hy) rfl
 case Attribute a f p =>
  refine noFresh (K:=X.K) ?_ rfl
  obtain ⟨hns,h⟩:=i_some h
  obtain ⟨x,hx,rfl⟩:=m_some h
  simp only [ev,Option.bind_eq_bind,Option.bind_eq_some_iff] at hd
  obtain ⟨u,hu,hd⟩:=hd
  have pa:=(hE X _ S ρ a x xc hx u hu).1
  cases u<;>first|exact nomatch (show none=some d from hd)|skip
  obtain ⟨hf,hd⟩:=i_some hd
  exact n_fld xc pa (base_of hns) hf hd
 case ListComp elt gs sc p =>
  obtain ⟨tg,iter,ifs,fr,tgs,tp,ds,outs,f,rfl,rfl,h1,h2,h3,h4,h5,h6,h7,h8⟩:=comp_of (S:=S) hE hT hI xc h hd
  exact withFresh (pe_comp xc h1 h2 h3 h4 h5 h6 h7 h8)
 case Call f args kw p =>
  obtain ⟨hkw,h⟩:=i_some h
  obtain rfl:=emp_t hkw
  cases f<;>first|exact nomatch (show none=some ir from h)|skip
  ·exact ok_meth hE hA xc h hd
  ·exact ok_callN hE hA xc h hd
end Z
namespace Z
open PySem PySem.Spec PyProof.Rows L2
variable {CX:CXT}{G:GS}{T:Tx}{lv:Nat}
theorem okT_succ {n:Nat} (hE:OkE CX G T lv n) (hT:OkT CX G T lv n) (hB:OkB CX G T lv n):OkT CX G T lv (n+1):=by
 intro X c S ρ e ir xc h k hk
 have tr:(cE n c e).map .tr=some ir→(∀ whole,isTrue e X.env whole=(do let v ← whole; standAt e.pos; holding [v] (truthy v)))→PT X e (tTe X.K T S ρ k):=fun h he=>by
  obtain ⟨x,hx,rfl⟩:=m_some h
  simp only [ev,Option.bind_eq_bind,Option.bind_eq_some_iff,Option.map_eq_some_iff,D.bl.injEq] at hk
  obtain ⟨w,hw,k',hk',rfl⟩:=hk
  exact n_truth (hE X c S ρ e x xc hx w hw).1 he hk'
 cases e<;>first|exact tr h fun _=>rfl|skip
 case BoolOp o vs p =>
  cases o with
  | And=>exact PW.pt ((hB X c S ρ true vs ir p xc).2 h k hk)
  | Or=>exact PW.pt ((hB X c S ρ false vs ir p xc).2 h k hk)
 case UnaryOp o a p =>
  cases o<;>first|exact tr h fun _=>rfl|skip
  obtain ⟨x,hx,rfl⟩:=m_some h
  simp only [ev,Option.bind_eq_bind,Option.bind_eq_some_iff] at hk
  obtain ⟨w,hw,hk⟩:=hk
  cases w<;>first|exact nomatch (show none=some (D.bl k) from hk)|skip
  cases hk
  exact n_notT (hT X c S ρ a x xc hx _ hw)
 case IfExp _ _ _ _=>exact nomatch (show none=some ir from h)
 case Compare a os bs p=>exact (ok_cmp hE xc h hk).2 k rfl
theorem ok_all:∀ n,OkE CX G T lv n∧OkT CX G T lv n∧OkB CX G T lv n∧OkA CX G T lv n∧OkI CX G T lv n
 | 0=>⟨fun X c S ρ e ir xc h=>(nomatch (show none=some ir from h)),fun X c S ρ e ir xc h=>(nomatch (show none=some ir from h)),fun X c S ρ k vs ir pos xc=>⟨fun h=>(nomatch (show none=some ir from h)),fun h=>(nomatch (show none=some ir from h))⟩,fun X c S ρ es ir xc h=>(nomatch (show none=some ir from h)),fun X c S ρ e k ir xc h=>(nomatch (show none=some (k,ir) from h))⟩
 | n+1=>by
  obtain ⟨hE,hT,hB,hA,hI⟩:=ok_all n
  exact ⟨okE_succ hE hT hB hA hI,okT_succ hE hT hB,okB_succ hE hT hB,okA_succ hE hA,okI_succ hE hA⟩
end Z
namespace Z
open PySem PySem.Spec PyProof.Rows L2
abbrev Dm (S₀:Addr→Prop) (H₀:Hp) (_:List Sl) (_:L2.St):Prop:=∀ a,S₀ a→∃ o,H₀ a=some o
structure SInv (K:PySem.W.Frag) (T:Tx) (S₀:Addr→Prop) (H₀:Hp) (S:Addr→Prop) (ρ:List Sl) (σ:L2.St) (H:Hp):Prop where
 re:RE K T H S ρ σ
 dom0:Dm S₀ H₀ ρ σ
 sup:∀ a,S₀ a→S a
 same:Same H₀ H
 dist:∀ (i j:Nat) xs ys p,ρ[i]?=some (.mu xs)→ρ[j]?=some (.mu ys)→σ[i]?=some (some (.ref p))→σ[j]?=some (some (.ref p))→i=j
 own:∀ (i:Nat) xs p,ρ[i]?=some (.mu xs)→σ[i]?=some (some (.ref p))→H₀ p=none
section
variable {K:PySem.W.Frag}{T:Tx}{S₀ S S':Addr→Prop}{H₀ H H' H'':Hp}{ρ ρ1:List Sl}{σ σ1:L2.St}
theorem Moves.refl:Moves K H H S S:=fun a n _=>⟨n,fun _ e=>e⟩
theorem Moves.same (h:Same H H'):Moves K H H' S S:=fun a n _=>⟨n,fun o e=>h a o e⟩
theorem Moves.trans {S'':Addr→Prop} (h:Moves K H H' S S') (g:Moves K H' H'' S' S''):Moves K H H'' S S'':=fun a n q=>by
 obtain ⟨n1,k1⟩:=h a n q
 obtain ⟨n2,k2⟩:=g a n1 (q.elim (fun ⟨o,e⟩=>.inl ⟨o,k1 o e⟩) .inr)
 exact ⟨n2,fun o e=>k2 o (k1 o e)⟩
theorem SInv.step (si:SInv K T S₀ H₀ S ρ σ H) (h:Same H H'):SInv K T S₀ H₀ S ρ σ H':=⟨si.re.same h,si.dom0,si.sup,si.same.trans h,si.dist,si.own⟩
theorem SInv.set (si:SInv K T S₀ H₀ S ρ σ H) {i:Nat} {d:D} {v:V} (r:Rep K T H S d v):SInv K T S₀ H₀ S (ρ.set i (.im d)) (σ.set i (some v)) H:=by
 have old:∀ (j:Nat) xs p,(ρ.set i (.im d))[j]?=some (.mu xs)→(σ.set i (some v))[j]?=some (some (.ref p))→j≠i∧ρ[j]?=some (.mu xs)∧σ[j]?=some (some (.ref p)):=fun j xs p h1 h2=>by
  have ne:j≠i:=by
   rintro rfl
   have hl:j<ρ.length:=by simpa using (List.getElem?_eq_some_iff.mp h1).1
   rw [List.getElem?_set_self hl] at h1
   cases h1
  rw [List.getElem?_set_ne (Ne.symm ne)] at h1 h2
  exact ⟨ne,h1,h2⟩
 refine ⟨si.re.set r,si.dom0,si.sup,si.same,fun a b xs ys p h1 h2 h3 h4=>?_,fun a xs p h1 h2=>?_⟩
 ·obtain ⟨_,q1,q2⟩:=old a xs p h1 h3
  obtain ⟨_,q3,q4⟩:=old b ys p h2 h4
  exact si.dist a b xs ys p q1 q3 q2 q4
 ·obtain ⟨_,q1,q2⟩:=old a xs p h1 h2
  exact si.own a xs p q1 q2
theorem SInv.setm (si:SInv K T S₀ H₀ S ρ σ H) {i:Nat} {ds:D} {p:Addr} {xs:HO} (sm:Same H H') (hp:H p=none) (hk:K.lookup p=none) (hp':H' p=some xs) (rl:RepM K T (er H' p) S ds xs) :
  SInv K T S₀ H₀ (fun a=>S a∨a=p) (ρ.set i (.mu ds)) (σ.set i (some (.ref p))) H'∧Moves K H H' S (fun a=>S a∨a=p):=by
 have mv:Moves K H H' S (fun a=>S a∨a=p):=fun a n q=>by
  have ne:a≠p:=by
   rintro rfl
   rcases q with ⟨o,e⟩|⟨o,e⟩
   ·rw [hp] at e; cases e
   ·rw [hk] at e; cases e
  exact ⟨fun z=>z.elim n ne,fun o e=>sm a o e⟩
 have dom:∀ a,(S a∨a=p)→∃ o,H' a=some o:=fun a z=>z.elim (fun z=>let ⟨o,e⟩:=si.re.dom a z; ⟨o,sm a o e⟩) fun z=>⟨xs,by rw [z]; exact hp'⟩
 have re':RE K T H' (fun a=>S a∨a=p) ρ σ:=si.re.gen mv (fun a ys z e _=>⟨.inl z,sm a _ e⟩) dom
 have slotp:∀ (j:Nat) ys,ρ[j]?=some (.mu ys)→σ[j]?=some (some (.ref p))→False:=fun j ys h1 h2=>by
  obtain ⟨q,zs,e1,e2,e3,_⟩:=si.re.at_ j _ h1
  rw [h2] at e1
  cases e1
  rw [hp] at e3; cases e3
 have at_:∀ (j:Nat) ys q,(ρ.set i (.mu ds))[j]?=some (.mu ys)→(σ.set i (some (.ref p)))[j]?=some (some (.ref q))→(j=i∧q=p)∨(j≠i∧ρ[j]?=some (.mu ys)∧σ[j]?=some (some (.ref q))):=fun j ys q h1 h2=>by
  by_cases e:j=i
  ·subst e
   have hl:j<ρ.length:=by simpa using (List.getElem?_eq_some_iff.mp h1).1
   rw [List.getElem?_set_self (by rw [← si.re.len]; exact hl)] at h2
   cases h2
   exact .inl ⟨rfl,rfl⟩
  ·rw [List.getElem?_set_ne (Ne.symm e)] at h1 h2
   exact .inr ⟨e,h1,h2⟩
 refine ⟨⟨⟨dom,by simp [si.re.len],fun j s e=>?_⟩,si.dom0,fun a z=>.inl (si.sup a z),si.same.trans sm,fun a b ys zs q h1 h2 h3 h4=>?_,fun a ys q h1 h2=>?_⟩,mv⟩
 ·by_cases hj:j=i
  ·subst hj
   have hl:j<ρ.length:=by simpa using (List.getElem?_eq_some_iff.mp e).1
   rw [List.getElem?_set_self hl] at e
   cases e
   rw [List.getElem?_set_self (by rw [← si.re.len]; exact hl)]
   exact ⟨p,xs,rfl,.inr rfl,hp',rl.gen (Moves.own hk)⟩
  ·rw [List.getElem?_set_ne (Ne.symm hj)] at e ⊢
   exact re'.at_ j s e
 ·rcases at_ a ys q h1 h3 with ⟨ea,eq⟩|⟨na,q1,q2⟩
  ·rcases at_ b zs q h2 h4 with ⟨eb,_⟩|⟨nb,q3,q4⟩
   ·rw [ea,eb]
   ·subst eq; exact (slotp b zs q3 q4).elim
  ·rcases at_ b zs q h2 h4 with ⟨eb,eq⟩|⟨nb,q3,q4⟩
   ·subst eq; exact (slotp a ys q1 q2).elim
   ·exact si.dist a b ys zs q q1 q3 q2 q4
 ·rcases at_ a ys q h1 h2 with ⟨ea,eq⟩|⟨na,q1,q2⟩
  ·subst eq; exact si.same.free hp
  ·exact si.own a ys q q1 q2
theorem SInv.write (si:SInv K T S₀ H₀ S ρ σ H) {i:Nat} {ds ds':D} {p:Addr} {xs':HO} (hi:ρ[i]?=some (.mu ds)) (hp:σ[i]?=some (some (.ref p))) (rl:RepM K T H S ds' xs') :
  SInv K T S₀ H₀ S (ρ.set i (.mu ds')) σ (upd H p xs')∧Moves K H (upd H p xs') S S:=by
 obtain ⟨q,zs,e1,e2,e3,_⟩:=si.re.at_ i _ hi
 rw [hp] at e1
 cases e1
 have mv:Moves K H (upd H p xs') S S:=fun a n _=>⟨n,fun o e=>by rw [upd_ne (fun z=>n (by rw [z]; exact e2))]; exact e⟩
 have dom:∀ a,S a→∃ o,upd H p xs' a=some o:=fun a z=>by
  by_cases e:a=p
  ·exact ⟨xs',by rw [e]; exact upd_same⟩
  ·obtain ⟨o,q⟩:=si.re.dom a z
   exact ⟨o,by rw [upd_ne e]; exact q⟩
 have hl:i<ρ.length:=(List.getElem?_eq_some_iff.mp hi).1
 have old:∀ (j:Nat) ys,(ρ.set i (.mu ds'))[j]?=some (.mu ys)→∃ zs,ρ[j]?=some (.mu zs):=fun j ys h=>by
  by_cases e:j=i
  ·exact ⟨ds,by rw [e]; exact hi⟩
  ·rw [List.getElem?_set_ne (Ne.symm e)] at h
   exact ⟨ys,h⟩
 refine ⟨⟨⟨dom,by simp [si.re.len],fun j s e=>?_⟩,si.dom0,si.sup,fun b o e=>?_,fun a b ys zs q h1 h2 h3 h4=>?_,fun a ys q h1 h2=>?_⟩,mv⟩
 ·by_cases hj:j=i
  ·subst hj
   rw [List.getElem?_set_self hl] at e
   cases e
   exact ⟨p,xs',hp,e2,upd_same,rl.gen mv⟩
  ·rw [List.getElem?_set_ne (Ne.symm hj)] at e
   have h:=si.re.at_ j s e
   cases s with
   | un=>trivial
   | im d=>obtain ⟨v,e4,r⟩:=h; exact ⟨v,e4,Rep.gen mv d v r⟩
   | mu ys =>
    obtain ⟨q,ws,e4,e5,e6,r⟩:=h
    refine ⟨q,ws,e4,e5,?_,r.gen mv⟩
    rw [upd_ne]
    ·exact e6
    ·rintro rfl
     exact hj (si.dist j i ys ds q e hi e4 hp)
 ·have ne:b≠p:=by
   rintro rfl
   rw [si.own i ds b hi hp] at e; cases e
  rw [upd_ne ne]
  exact si.same b o e
 ·obtain ⟨ys',q1⟩:=old a ys h1
  obtain ⟨zs',q2⟩:=old b zs h2
  exact si.dist a b ys' zs' q q1 q2 h3 h4
 ·obtain ⟨ys',q1⟩:=old a ys h1
  exact si.own a ys' q q1 h2
theorem bindEach_mu:∀ {is:List Nat} {ds:List D} {ρ ρ1:List Sl} {j:Nat} {xs:D},bindEach is ds ρ=some ρ1→ρ1[j]?=some (.mu xs)→j ∉ is∧ρ[j]?=some (.mu xs)
 | [],[],ρ,ρ1,j,xs,h,e=>by
  simp only [bindEach,Option.some.injEq] at h
  subst h
  exact ⟨by simp,e⟩
 | i::is,d::ds,ρ,ρ1,j,xs,h,e=>by
  simp only [bindEach] at h
  obtain ⟨n,q⟩:=bindEach_mu h e
  have ne:j≠i:=by
   rintro rfl
   have hl:j<ρ.length:=by simpa using (List.getElem?_eq_some_iff.mp q).1
   rw [List.getElem?_set_self hl] at q
   cases q
  rw [List.getElem?_set_ne (Ne.symm ne)] at q
  exact ⟨by simp [n,ne],q⟩
 | [],_::_,_,_,_,_,h,_=>by simp [bindEach] at h
 | _::_,[],_,_,_,_,h,_=>by simp [bindEach] at h
theorem bindT_mu {is:List Nat} {tp:Bool} {d:D} {j:Nat} {xs:D} (h:bindT is tp d ρ=some ρ1) (e:ρ1[j]?=some (.mu xs)):j ∉ is∧ρ[j]?=some (.mu xs):=by
 unfold bindT at h
 split at h
 ·split at h
  ·exact bindEach_mu h e
  ·cases h
 ·exact bindEach_mu h e
theorem SInv.bind (si:SInv K T S₀ H₀ S ρ σ H) {is:List Nat} {tp:Bool} {d:D} (h:bindT is tp d ρ=some ρ1) (re:RE K T H S ρ1 σ1) (ag:∀ j,j ∉ is→σ1[j]?=σ[j]?):SInv K T S₀ H₀ S ρ1 σ1 H:=by
 refine ⟨re,si.dom0,si.sup,si.same,fun a b xs ys p h1 h2 h3 h4=>?_,fun a xs p h1 h2=>?_⟩
 ·obtain ⟨n1,q1⟩:=bindT_mu h h1
  obtain ⟨n2,q2⟩:=bindT_mu h h2
  rw [ag a n1] at h3
  rw [ag b n2] at h4
  exact si.dist a b xs ys p q1 q2 h3 h4
 ·obtain ⟨n1,q1⟩:=bindT_mu h h1
  rw [ag a n1] at h2
  exact si.own a xs p q1 h2
theorem RE.view (re:RE K T H S ρ σ):RE K T H (fun _=>False) (view ρ) σ:=by
 refine ⟨fun a z=>z.elim,by simp [Z.view,re.len],fun i s e=>?_⟩
 unfold Z.view at e
 rw [List.getElem?_map] at e
 cases h:ρ[i]? with
 | none=>rw [h] at e; cases e
 | some s' =>
  rw [h] at e
  cases e
  have r:=re.at_ i s' h
  cases s' with
  | un=>trivial
  | im d=>obtain ⟨v,e1,r⟩:=r; exact ⟨v,e1,Rep.mono (fun _ z=>z.elim) (fun _ _ _ e=>e) d v r⟩
  | mu ds =>
   obtain ⟨p,xs,e1,_,e3,r⟩:=r
   exact ⟨.ref p,e1,r.rep e3 (fun z=>z) fun _ z=>z.elim⟩
theorem scal_rep {d:D} {v:V} (h:scal d=true) (r:Rep K T H S d v):Rep K T H S' d v:=by
 cases d<;>first|(simp only [scal,Bool.false_eq_true] at h; done)|(unfold Rep at r ⊢; exact r)
end
end Z
namespace Z
open PySem PySem.Spec PyProof.Rows L2
variable {CX:CXT}{G:GS}{T:Tx}{lv:Nat}{X:Cx}{c:CC}{S₀:Addr→Prop}{H₀:Hp}{fr:Bool}{EX:Str→Hp→Prop}{pos:Pos}
noncomputable def Post (K:PySem.W.Frag) (T:Tx) (S₀:Addr→Prop) (H₀:Hp) (fr:Bool) (EX:Str→Hp→Prop) (H:Hp) (S:Addr→Prop) (D:Ends):Out→Prop
 | .nx ρ=>∀ S' σ' H',SInv K T S₀ H₀ S' ρ σ' H'→Moves K H H' S S'→D.nx σ' H'
 | .bk ρ=>∀ S' σ' H',SInv K T S₀ H₀ S' ρ σ' H'→Moves K H H' S S'→D.bk σ' H'
 | .ct ρ=>∀ S' σ' H',SInv K T S₀ H₀ S' ρ σ' H'→Moves K H H' S S'→D.ct σ' H'
 | .rt d=>∀ v H',Same H₀ H'→Rep K T H' S₀ d v→(fr=true→Fresh K T S₀ H₀ H' d v)→D.rt v H'
 | .er c=>∀ H',Same H₀ H'→EX c H'
def tSt (K:PySem.W.Frag) (T:Tx) (S₀:Addr→Prop) (H₀:Hp) (fr:Bool) (EX:Str→Hp→Prop) (G:GS) (is:IS):TS:=fun D σ H=>∃ ρ out S,ex G is ρ=some out∧SInv K T S₀ H₀ S ρ σ H∧Post K T S₀ H₀ fr EX H S D out
structure XS (CX:CXT) (T:Tx) (X:Cx) (c:CC) (EX:Str→Hp→Prop):Prop where
 kind:X.env.scope.kind=.function
 pass:PassesOwn (model X.prog X.w) X.A X.env X.xe
 rse:∀ x m j p p' q pos,isGlob c x=true→c.cls.contains x=true→PS X (.Raise (some (.Call (.Name x p) [.Constant (.str m) j p'] [] q)) none pos) (fun D σ H=>EX x H)
 pss:∀ E1:XK,(∀ cls H',E1 cls none H'→∃ k C,T.xc k=some C∧cls=.ref C∧EX k H')→Passes CX X E1
 stk:X.stack=X.env::X.outer
 frm:X.env.frame=some X.env.locals
 exn:X.ex=[]
 hld:∀ (H':Hp) (B:Heap) (a:Addr) (k:Str) (C:Addr) (a0:Value) (s':Shared),T.xc k=some C→EX k H'→Hd X H' B a (.ref C) a0 s'→X.xe (.ref a) s'
theorem Post.step {K:PySem.W.Frag} {H H':Hp} {S S':Addr→Prop} {D:Ends} {o:Out} (mv:Moves K H H' S S') (h:Post K T S₀ H₀ fr EX H S D o):Post K T S₀ H₀ fr EX H' S' D o:=by
 cases o with
 | nx ρ=>exact fun S2 σ2 H2 si m=>h S2 σ2 H2 si (mv.trans m)
 | bk ρ=>exact fun S2 σ2 H2 si m=>h S2 σ2 H2 si (mv.trans m)
 | ct ρ=>exact fun S2 σ2 H2 si m=>h S2 σ2 H2 si (mv.trans m)
 | rt d=>exact h
 | er c=>exact h
theorem evs_some {e:IE} {ρ:List Sl} {d:D} (h:evs G e ρ=some d):ev G e ρ=some d∨(ev G e (view ρ)=some d∧scal d=true):=by
 unfold evs at h
 split at h
 ·rename_i h1; cases h; exact .inl h1
 ·split at h
  ·rename_i h2
   split at h
   ·rename_i h3; cases h; exact .inr ⟨h2,h3⟩
   ·cases h
  ·cases h
theorem n_evs (xc:XC CX X c G T lv) {n:Nat} {e:Expr} {ir:IE} {ρ:List Sl} {d:D} {S:Addr→Prop} (he:cE n c e=some ir) (h:evs G ir ρ=some d):PE X e (tD X.K T S ρ d):=by
 rcases evs_some h with h|⟨h,hs⟩
 ·exact ((ok_all n).1 X c S ρ e ir xc he d h).1
 ·exact PE.mono ((ok_all n).1 X c (fun _=>False) (view ρ) e ir xc he d h).1 fun σ H Q ⟨re,q⟩=>⟨re.view,fun v H' sm r=>q v H' sm (scal_rep hs r)⟩
theorem st_pass:PS X (.Pass pos) (tSt X.K T S₀ H₀ fr EX G .nop):=fun pins s σ H D I ⟨ρ,out,S,hx,si,po⟩=>by
 simp only [ex,Option.some.injEq] at hx
 subst hx
 exact ps_pass pins s σ H D I (po S σ H si Moves.refl)
theorem st_retn:PS X (.Return none pos) (tSt X.K T S₀ H₀ fr EX G .retn):=fun pins s σ H D I ⟨ρ,out,S,hx,si,po⟩=>by
 simp only [ex,Option.some.injEq] at hx
 subst hx
 exact ps_retN pins s σ H D I (po .non H si.same (by unfold Rep; rfl) fun _ ds e=>by cases e)
theorem st_retm (xc:XC CX X c G T lv) {x:Str} {p:Pos} {i:Nat} (e:slotOf c x=some i):PS X (.Return (some (.Name x p)) pos) (tSt X.K T S₀ H₀ fr EX G (.retm i)):=fun pins s σ H D I ⟨ρ,out,S,hx,si,po⟩=>by
 simp only [ex] at hx
 split at hx
 ·rename_i ds hi
  cases hx
  obtain ⟨q,xs,e1,e2,e3,rl⟩:=si.re.at_ i _ hi
  have hn:=si.own i ds q hi e1
  have n0:¬ S₀ q:=fun z=>by obtain ⟨o,z⟩:=si.dom0 q z; rw [hn] at z; cases z
  refine ps_ret (n_ref xc e) pins s σ H D I ⟨_,e1,po (.ref q) H si.same ?_ fun _ ds' z=>?_⟩
  ·exact rl.rep e3 n0 si.sup
  ·subst z
   obtain ⟨ys,rfl,rl'⟩:=rl.lst
   exact ⟨q,ys,rfl,hn,e3,RepL.disown e2 si.sup rl'⟩
 ·cases hx
theorem st_ret (xc:XC CX X c G T lv) {n:Nat} {e:Expr} {ir:IE} {b:Bool} (he:cE n c e=some ir) (hb:b=true→freshE c e=true) (hfr:fr=true→b=true):PS X (.Return (some e) pos) (tSt X.K T S₀ H₀ fr EX G (.ret b ir)):=fun pins s σ H D I ⟨ρ,out,S,hx,si,po⟩=>by
 simp only [ex,Option.map_eq_some_iff] at hx
 obtain ⟨d,hd,rfl⟩:=hx
 have plain:(∀ ds,d=.lst ds→fr=false)→wpAny (model X.prog X.w) X.A (exec (.Return (some e) pos) X.env) (SP X pins D) X.xe s:=fun hn =>
  ps_ret (n_evs (S:=S) xc he hd) pins s σ H D I ⟨si.re,fun v H' sm r=>po v H' (si.same.trans sm) (Rep.mono si.sup (fun _ _ _ e=>e) d v r) fun z ds e=>by rw [hn ds e] at z; cases z⟩
 cases hf:fr with
 | false=>exact plain fun _ _=>hf
 | true =>
  by_cases hl:∃ ds,d=.lst ds
  ·obtain ⟨ds,rfl⟩:=hl
   have hev:ev G ir ρ=some (.lst ds):=by
    rcases evs_some hd with h|⟨_,h⟩
    ·exact h
    ·cases h
   refine ps_ret (((ok_all n).1 X c S ρ e ir xc he _ hev).2 (hb (hfr hf)) ds rfl) pins s σ H D I ⟨si.re,fun p xs H' sm hp hp' rl=>po (.ref p) H' (si.same.trans sm) ?_ fun _ ds' z=>?_⟩
   ·unfold Rep
    exact ⟨p,xs,rfl,fun z=>si.re.nS hp (si.sup p z),hp',RepL.mono si.sup (fun _ _ _ e=>e) _ _ rl.er⟩
   ·cases z
    exact ⟨p,xs,rfl,si.same.free hp,hp',RepL.mono si.sup (fun _ _ _ e=>e) _ _ rl⟩
  ·exact plain fun ds e=>(hl ⟨ds,e⟩).elim
theorem st_if (xc:XC CX X c G T lv) {n:Nat} {t:Expr} {ir:IE} {a b:List Stmt} {ia ib:IS} (ht:cT n c t=some ir) (ha:PSs X a (tSt X.K T S₀ H₀ fr EX G ia)) (hb:PSs X b (tSt X.K T S₀ H₀ fr EX G ib)) :
  PS X (.If t a b pos) (tSt X.K T S₀ H₀ fr EX G (.iff ir ia ib)):=fun pins s σ H D I ⟨ρ,out,S,hx,si,po⟩=>by
 simp only [ex,Option.bind_eq_bind,Option.bind_eq_some_iff] at hx
 obtain ⟨w,hw,hx⟩:=hx
 cases w<;>first|(simp only [reduceCtorEq] at hx; done)|skip
 rename_i k
 refine ps_if ((ok_all n).2.1 X c (fun _=>False) (view ρ) t ir xc ht k hw) ha hb pins s σ H D I ⟨si.re.view,fun H' sm=>?_⟩
 cases k with
 | true=>exact iteT ⟨ρ,out,S,hx,si.step sm,po.step (Moves.same sm)⟩
 | false=>exact iteF ⟨ρ,out,S,hx,si.step sm,po.step (Moves.same sm)⟩
theorem st_nil:PSs X [] (tSt X.K T S₀ H₀ fr EX G .nop):=fun pins s σ H D I ⟨ρ,out,S,hx,si,po⟩=>by
 simp only [ex,Option.some.injEq] at hx
 subst hx
 exact pss_nil pins s σ H D I (po S σ H si Moves.refl)
theorem st_seq {st:Stmt} {rest:List Stmt} {a b:IS} (ha:PS X st (tSt X.K T S₀ H₀ fr EX G a)) (hb:PSs X rest (tSt X.K T S₀ H₀ fr EX G b)):PSs X (st::rest) (tSt X.K T S₀ H₀ fr EX G (.seq a b)):=fun pins s σ H D I ⟨ρ,out,S,hx,si,po⟩=>by
 simp only [ex,Option.bind_eq_bind,Option.bind_eq_some_iff] at hx
 obtain ⟨o,ho,hx⟩:=hx
 refine pss_cons ha hb pins s σ H D I ⟨ρ,o,S,ho,si,?_⟩
 cases o with
 | nx ρ'=>exact fun S' σ' H' si' mv=>⟨ρ',out,S',hx,si',po.step mv⟩
 | bk ρ'=>simp only [Option.some.injEq] at hx; subst hx; exact po
 | ct ρ'=>simp only [Option.some.injEq] at hx; subst hx; exact po
 | rt d=>simp only [Option.some.injEq] at hx; subst hx; exact po
 | er d=>simp only [Option.some.injEq] at hx; subst hx; exact po
theorem st_rse (xs:XS CX T X c EX) {x:Str} {m:Str} {j:Nat} {p p' q:Pos} (hg:isGlob c x=true) (hc:c.cls.contains x=true):PS X (.Raise (some (.Call (.Name x p) [.Constant (.str m) j p'] [] q)) none pos) (tSt X.K T S₀ H₀ fr EX G (.rse x)):=fun pins s σ H D I ⟨ρ,out,S,hx,si,po⟩=>by
 simp only [ex] at hx
 split at hx
 ·cases hx
  exact xs.rse x m j p p' q pos hg hc pins s σ H D I (po H si.same)
 ·cases hx
theorem st_sett (xc:XC CX X c G T lv) {n:Nat} {es:List Expr} {k:Nat} {p:Pos} {e:Expr} {ir:IE} {is:List Nat} (hn:namesT c es=some is) (he:cE n c e=some ir) (hnt:∀ vs k p,e≠.Tuple vs k p) :
  PS X (.Assign [.Tuple es k p] e pos) (tSt X.K T S₀ H₀ fr EX G (.sett is ir)):=fun pins s σ H D I ⟨ρ,out,S,hx,si,po⟩=>by
 simp only [ex,Option.bind_eq_bind,Option.bind_eq_some_iff,Option.map_eq_some_iff] at hx
 obtain ⟨d,hd,ρ1,hb,rfl⟩:=hx
 have htg:targetN c (.Tuple es k p)=some (is,true):=by simp only [targetN,hn,Option.map_some]
 refine ps_asg ((ok_all n).1 X c S ρ e ir xc he d hd).1 (pg_D xc (S:=S) htg hb) ?_ ?_ rfl pins s σ H D I ⟨si.re,fun v H' sm r=>⟨si.re.same sm,r,fun σ' re' ag=>po S σ' H' ((si.step sm).bind hb re' ag) (Moves.same sm)⟩⟩
 ·cases e<;>rfl
 ·cases e<;>first|rfl|exact absurd rfl (hnt _ _ _)
end Z
namespace Z
open PySem PySem.Spec PyProof.Rows L2
variable {CX:CXT}{G:GS}{T:Tx}{lv:Nat}{X:Cx}{c:CC}{S₀:Addr→Prop}{H₀:Hp}{fr:Bool}{EX:Str→Hp→Prop}{pos:Pos}
noncomputable def isComp:Expr→Bool
 | .ListComp _ _ _ _=>true
 | _=>false
theorem swaps_no {n:Nat} {c:CC} {e:Expr} {ir:IE} (h:cE n c e=some ir) (hc:isComp e=false) (t:Expr) (l:Nat) (env:Env):swapsWith e (some t) l env=pure false:=by
 cases e<;>first|rfl|exact nomatch (show true=false from hc)|(cases n<;>exact nomatch (show none=some ir from h))
theorem swaps_comp {elt:Expr} {gs:List Comprehension} {sc:Scope} {p px:Pos} {x:Str} {l:Nat} {env:Env}:∃ b,swapsWith (.ListComp elt gs sc p) (some (.Name x px)) l env=pure b:=⟨_,rfl⟩
theorem comp_parts {n:Nat} {elt:Expr} {gs:List Comprehension} {sc:Scope} {p:Pos} {ir:IE} {ρ:List Sl} {d:D} (xc:XC CX X c G T lv) (h:cE n c (.ListComp elt gs sc p)=some ir) (hd:ev G ir ρ=some d) (S:Addr→Prop) :
  ∃ tg iter ifs fr tgs tp ds outs f,gs=[⟨tg,iter,ifs,0⟩]∧d=.lst outs∧compOk c sc=true∧freeOf c sc (sc.names.filter fun x=>x.2 == .free)=some fr∧tgs.all (fun i=>(fr.lookup i).isNone)=true∧targetN { c with N:=ownNames sc,sc:=sc } tg=some (tgs,tp) ∧
   PI X tg iter (tI X.K T S ρ ds)∧(∀ x,foldedSetIterable iter X.env x=pure x)∧compGo f ds=some outs ∧
   (∀ d o,f d=some o→∃ ρ1,bindT tgs tp d (frame (ownNames sc).length fr ρ)=some ρ1∧TurnOk CX G T lv { c with N:=ownNames sc,sc:=sc } X.K ifs elt ρ1 o):=by
 cases n with
 | zero=>exact nomatch (show none=some ir from h)
 | succ n =>
  obtain ⟨hE,hT,hB,hA,hI⟩:=ok_all (CX:=CX) (G:=G) (T:=T) (lv:=lv) n
  exact comp_of hE hT hI xc h hd
theorem kn_of {pins:List (Addr × Obj)} {σ:L2.St} {H:Hp} {s:Shared} {p:Addr} {o:HO} (I:Inv X pins σ H s) (h:H p=some o):X.K.lookup p=none:=by
 cases e:X.K.lookup p with
 | none=>rfl
 | some u=>rw [kfree I p u e] at h; cases h
def tNk (K:PySem.W.Frag) (T:Tx) (S:Addr→Prop) (ρ:List Sl) (ds:List D):TE:=fun σ H Q=>RE K T H S ρ σ∧∀ p xs H',Same H H'→H p=none→K.lookup p=none→H' p=some (.lst xs)→RepL K T (er H' p) S ds xs→Q (.ref p) H'
theorem n_nk {e:Expr} {S:Addr→Prop} {ρ:List Sl} {ds:List D} (h:PE X e (tNw X.K T S ρ ds)):PE X e (tNk X.K T S ρ ds):=fun pins s σ H Q I ⟨re,q⟩ =>
 thn (h pins s σ H (fun v H'=>∃ p xs,v=.ref p∧Same H H'∧H p=none∧H' p=some (.lst xs)∧RepL X.K T (er H' p) S ds xs) I ⟨re,fun p xs H' a b c d=>⟨p,xs,rfl,a,b,c,d⟩⟩) fun u s1 ⟨v,H',I',r,p,xs,e,a,b,c,d⟩=>⟨v,H',I',r,by rw [e]; exact q p xs H' a b (kn_of I' c) c d⟩
theorem st_setd (xc:XC CX X c G T lv) {x:Str} {px px' pd:Pos} {i:Nat} (hx:nameT c (.Name x px')=some i):PS X (.Assign [.Name x px] (.Dict [] [] pd) pos) (tSt X.K T S₀ H₀ fr EX G (.setd i)):=fun pins s σ H D I ⟨ρ,out,S,hex,si,po⟩=>by
 cases hex
 obtain ⟨hN,hk⟩:=nameT_at hx
 obtain ⟨hl,hf⟩:=xc.loc hk
 have pn:PE X (.Dict [] [] pd) (fun σ H Q=>∀ p,H p=none→X.K.lookup p=none→Q (.ref p) (upd H p (.dK []))):=fun pins s σ H Q I q =>
  thn (pe_dnewK pins s σ H (fun v H'=>∃ p,v=.ref p∧H p=none∧H'=upd H p (.dK [])) I fun p hp=>⟨p,rfl,hp,rfl⟩) fun u s1 ⟨v,H',I',r,p,e1,hp,e2⟩=>⟨v,H',I',r,by
   subst e1 e2
   exact q p hp (kn_of I' (upd_same))⟩
 refine ps_set (by rw [xc.N]; exact xc.nd) (by rw [xc.N]; exact hN) hl pn rfl hf pins s σ H D I fun p hp hkp=>?_
 obtain ⟨si',mv⟩:=si.setm (i:=i) (ds:=.dct []) (xs:=.dK []) (Same.upd hp) hp hkp upd_same (.inr ⟨_,_,rfl,rfl,RepK.nil⟩)
 exact po _ _ _ si' mv
theorem st_set (xc:XC CX X c G T lv) {n:Nat} {e:Expr} {ir:IE} {x:Str} {px px':Pos} {i:Nat} (hx:nameT c (.Name x px')=some i) (he:cE n c e=some ir):PS X (.Assign [.Name x px] e pos) (tSt X.K T S₀ H₀ fr EX G (.set i ir)):=fun pins s σ H D I ⟨ρ,out,S,hex,si,po⟩=>by
 simp only [ex,Option.map_eq_some_iff] at hex
 obtain ⟨d,hd,rfl⟩:=hex
 obtain ⟨hN,hk⟩:=nameT_at hx
 obtain ⟨hl,hf⟩:=xc.loc hk
 have plain:swapsWith e (some (.Name x px)) pos.line X.env=pure false→wpAny (model X.prog X.w) X.A (exec (.Assign [.Name x px] e pos) X.env) (SP X pins D) X.xe s:=fun hs =>
  ps_set (by rw [xc.N]; exact xc.nd) (by rw [xc.N]; exact hN) hl (n_evs (S:=S) xc he hd) hs hf pins s σ H D I ⟨si.re,fun v H' sm r=>po S _ H' ((si.step sm).set r) (Moves.same sm)⟩
 cases hc:isComp e with
 | false=>exact plain (swaps_no he hc _ _ _)
 | true =>
  cases e<;>simp only [isComp,Bool.false_eq_true] at hc
  rename_i elt gs sc p
  obtain ⟨b,hb⟩:=swaps_comp (elt:=elt) (gs:=gs) (sc:=sc) (p:=p) (px:=px) (x:=x) (l:=pos.line) (env:=X.env)
  cases b with
  | false=>exact plain hb
  | true =>
   have hev:ev G ir ρ=some d:=by
    rcases evs_some hd with h|⟨h,hs⟩
    ·exact h
    ·obtain ⟨_,_,_,_,_,_,_,outs,_,_,rfl,_⟩:=comp_parts xc he h (fun _=>False)
     cases hs
   obtain ⟨tg,iter,ifs,fr',tgs,tp,ds,outs,f,rfl,rfl,h1,h2,h3,h4,h5,h6,h7,h8⟩:=comp_parts xc he hev S
   exact ps_comp xc h1 h2 h3 h4 h5 h6 (px:=px) (by simp only [nameT] at hx ⊢; exact hx) hb h7 h8 pins s σ H D I ⟨si.re,fun p xs H' sm hp hp' rl=>po S _ H' ((si.step sm).set (by unfold Rep; exact ⟨p,xs,rfl,si.re.nS hp,hp',rl.er⟩)) (Moves.same sm)⟩
theorem st_setm (xc:XC CX X c G T lv) {n:Nat} {e:Expr} {ir:IE} {x:Str} {px px':Pos} {i:Nat} (hx:nameT c (.Name x px')=some i) (he:cE n c e=some ir) (hfr:freshE c e=true):PS X (.Assign [.Name x px] e pos) (tSt X.K T S₀ H₀ fr EX G (.setm i ir)):=fun pins s σ H D I ⟨ρ,out,S,hex,si,po⟩=>by
 simp only [ex,Option.bind_eq_bind,Option.bind_eq_some_iff] at hex
 obtain ⟨d,hd,hex⟩:=hex
 cases d<;>first|(simp only [reduceCtorEq] at hex; done)|skip
 rename_i outs
 simp only [Option.some.injEq] at hex
 subst hex
 obtain ⟨hN,hk⟩:=nameT_at hx
 obtain ⟨hl,hf⟩:=xc.loc hk
 have pn:=((ok_all n).1 X c S ρ e ir xc he _ hd).2 hfr outs rfl
 have plain:swapsWith e (some (.Name x px)) pos.line X.env=pure false→wpAny (model X.prog X.w) X.A (exec (.Assign [.Name x px] e pos) X.env) (SP X pins D) X.xe s:=fun hs =>
  ps_set (by rw [xc.N]; exact xc.nd) (by rw [xc.N]; exact hN) hl (n_nk pn) hs hf pins s σ H D I ⟨si.re,fun p xs H' sm hp hkp hp' rl=>by
   obtain ⟨si',mv⟩:=si.setm (i:=i) (ds:=.lst outs) sm hp hkp hp' (.inl ⟨_,_,rfl,rfl,rl⟩)
   exact po _ _ H' si' mv⟩
 cases hc:isComp e with
 | false=>exact plain (swaps_no he hc _ _ _)
 | true =>
  cases e<;>simp only [isComp,Bool.false_eq_true] at hc
  rename_i elt gs sc p
  obtain ⟨b,hb⟩:=swaps_comp (elt:=elt) (gs:=gs) (sc:=sc) (p:=p) (px:=px) (x:=x) (l:=pos.line) (env:=X.env)
  cases b with
  | false=>exact plain hb
  | true =>
   obtain ⟨tg,iter,ifs,fr',tgs,tp,ds,outs',f,rfl,e1,h1,h2,h3,h4,h5,h6,h7,h8⟩:=comp_parts xc he hd S
   cases e1
   refine wpAny_mono (ps_comp xc h1 h2 h3 h4 h5 h6 (px:=px) (by simp only [nameT] at hx ⊢; exact hx) hb h7 h8 pins s σ H ⟨fun σ' H'=>∃ p xs,σ'=σ.set i (some (.ref p))∧Same H H'∧H p=none∧H' p=some (.lst xs)∧RepL X.K T (er H' p) S outs xs,fun _ _=>False,fun _ _=>False,fun _ _=>False⟩ I ⟨si.re,fun p xs H' sm hp hp' rl=>⟨p,xs,rfl,sm,hp,hp',rl⟩⟩) (fun f s' q=>?_) fun _ _ z=>z
   cases f with
   | next =>
    obtain ⟨σ',H',I',p,xs,rfl,sm,hp,hp',rl⟩:=q
    obtain ⟨si',mv⟩:=si.setm (i:=i) (ds:=.lst outs) sm hp (kn_of I' hp') hp' (.inl ⟨_,_,rfl,rfl,rl⟩)
    exact ⟨_,H',I',po _ _ H' si' mv⟩
   | brk=>obtain ⟨_,_,_,z⟩:=q; exact z.elim
   | cont=>obtain ⟨_,_,_,z⟩:=q; exact z.elim
   | ret u=>obtain ⟨_,_,_,_,_,z⟩:=q; exact z.elim
end Z
namespace Z
open PySem PySem.Spec PyProof.Rows L2
variable {CX:CXT}{G:GS}{T:Tx}{lv:Nat}{X:Cx}{c:CC}{S₀:Addr→Prop}{H₀:Hp}{fr:Bool}{EX:Str→Hp→Prop}{pos:Pos}
theorem st_app (xc:XC CX X c G T lv) {n:Nat} {e:Expr} {ir:IE} {x:Str} {i:Nat} {p1 p2 p:Pos} (hx:slotOf c x=some i) (hl:(p2.endLine == p.line)=true) (he:cE n c e=some ir) :
  PS X (.Expr (.Call (.Attribute (.Name x p1) "append" p2) [e] [] p) pos) (tSt X.K T S₀ H₀ fr EX G (.app i ir)):=fun pins s σ H D I ⟨ρ,out,S,hex,si,po⟩=>by
 simp only [ex,Option.bind_eq_bind,Option.bind_eq_some_iff] at hex
 obtain ⟨d,hd,hex⟩:=hex
 split at hex
 ·rename_i ds hi
  split at hex
  ·rename_i hz
   cases hex
   obtain ⟨q,ob,e1,e2,e3,rm⟩:=si.re.at_ i _ hi
   obtain ⟨xs,rfl,rl⟩:=rm.lst
   have st:=(plainE he).star X.env []
   refine ps_expr (pe_bm PySem.F.plainAttrs_list PySem.F.slot_list_append PySem.F.type_list_append mt_append (n_ref xc hx) (pa_cons (n_evs (S:=S) xc he hd) pa_nil st) rfl ?_ hl st rfl) rfl pins s σ H D I ⟨.ref q,e1,.inl ⟨rfl,xs,SqL.of e3⟩,si.re,fun v H' sm r=>⟨q,xs,v,rfl,rfl,sm _ _ e3,?_,?_⟩⟩
   ·rw [st]; rfl
   ·rw [← rl.len]; exact Nat.lt_of_lt_of_le hz big_le
   ·obtain ⟨si',mv⟩:=(si.step sm).write (ds':=.lst (ds++[d])) hi e1 (.inl ⟨_,_,rfl,rfl,(rl.same sm).app (RepL.cons r RepL.nil)⟩)
    exact po S σ _ si' ((Moves.same sm).trans mv)
  ·cases hex
 ·cases hex
theorem ixN_eq (n:Nat) (i:Int):Z.ixN n i=L2.ixN n i:=by
 unfold Z.ixN L2.ixN
 rfl
theorem swaps_sub {n:Nat} {c:CC} {e:Expr} {ir:IE} (h:cE n c e=some ir) {o i:Expr} {p:Pos} {l:Nat} {env:Env}:swapsWith e (some (.Subscript o i p)) l env=pure false:=by
 cases e<;>first|rfl|(cases n<;>exact nomatch (show none=some ir from h))
theorem st_put (xc:XC CX X c G T lv) {n:Nat} {e k:Expr} {ir kr:IE} {x:Str} {i:Nat} {p1 p2:Pos} (hx:slotOf c x=some i) (hk:cE n c k=some kr) (he:cE n c e=some ir) :
  PS X (.Assign [.Subscript (.Name x p1) k p2] e pos) (tSt X.K T S₀ H₀ fr EX G (.put i kr ir)):=fun pins s σ H D I ⟨ρ,out,S,hex,si,po⟩=>by
 simp only [ex,Option.bind_eq_bind,Option.bind_eq_some_iff] at hex
 obtain ⟨d,hd,ki,hki,hex⟩:=hex
 split at hex
 ·rename_i o hi
  obtain ⟨o',ho,rfl⟩:=Option.map_eq_some_iff.mp hex
  obtain ⟨q,ob,e1,e2,e3,rm⟩:=si.re.at_ i _ hi
  cases o<;>first|exact nomatch (show none=some o' from ho)|skip
  ·rename_i ds
   obtain ⟨j,hj,rfl⟩:=Option.map_eq_some_iff.mp ho
   obtain ⟨xs,rfl,rl⟩:=rm.lst
   refine ps_asg (n_evs (S:=S) xc he hd) (pg_sub (n_ref xc hx) (n_evs (S:=S) xc hk (intOf_some hki)) set_list ?_) ?_ ?_ rfl pins s σ H D I ⟨si.re,fun v H' sm r=>⟨.ref q,e1,(si.step sm).re,fun w H2 sm2 r2=>?_⟩⟩
   ·intro v
    cases k<;>first|rfl|(cases n<;>exact nomatch (show none=some kr from hk))
   ·cases e<;>rfl
   ·cases e<;>rfl
   ·unfold Rep at r2
    subst r2
    refine ⟨q,xs,ki,j,rfl,rfl,sm2 _ _ (sm _ _ e3),by rw [← rl.len,← ixN_eq]; exact hj,?_⟩
    obtain ⟨si',mv⟩:=(si.step (sm.trans sm2)).write (ds':=.lst (ds.set j d)) hi e1 (.inl ⟨_,_,rfl,rfl,RepL.set j (rl.same (sm.trans sm2)) (r.same sm2)⟩)
    exact po S σ _ si' ((Moves.same (sm.trans sm2)).trans mv)
  ·rename_i kvs
   have ho:(if kvs.length<big then some (Z.D.dct (putI kvs ki d)) else none)=some o':=ho
   split at ho
   ·rename_i hz
    cases ho
    obtain ⟨gs,rfl,rk⟩:=rm.dct
    refine ps_dput (hu_of xc.room) (n_ref xc hx) (n_evs (S:=S) xc hk (intOf_some hki)) (n_evs (S:=S) xc he hd) (swaps_sub he) pins s σ H D I ⟨si.re,fun v H' sm r=>⟨.ref q,e1,(si.step sm).re,fun w H2 sm2 r2=>?_⟩⟩
    unfold Rep at r2
    subst r2
    refine ⟨q,_,rfl,DPut.k (k:=Sum.inl ki) (sm2 _ _ (sm _ _ e3)) (by rw [← RepK.len rk]; exact Nat.lt_of_lt_of_le hz big_le),?_⟩
    obtain ⟨si',mv⟩:=(si.step (sm.trans sm2)).write (ds':=.dct (putI kvs ki d)) hi e1 (.inr ⟨_,_,rfl,rfl,RepK.put (r.same sm2) (RepK.gen (Moves.same (S:=S) (sm.trans sm2)) _ _ rk)⟩)
    exact po S σ _ si' ((Moves.same (sm.trans sm2)).trans mv)
   ·cases ho
 ·cases hex
theorem forGo_cons {bind:D→List Sl→Option (List Sl)} {body:List Sl→Option Out} {d:D} {r:List D} {ρ:List Sl} {out:Out} (h:forGo bind body (d::r) ρ=some out):∃ ρ1 o,bind d ρ=some ρ1∧body ρ1=some o ∧
  ((∃ ρ2,o=.nx ρ2∧forGo bind body r ρ2=some out)∨(∃ ρ2,o=.ct ρ2∧forGo bind body r ρ2=some out)∨(∃ ρ2,o=.bk ρ2∧out=.nx ρ2)∨(∃ d,o=.rt d∧out=o)∨∃ x,o=.er x∧out=o):=by
 simp only [forGo,Option.bind_eq_bind,Option.bind_eq_some_iff] at h
 obtain ⟨ρ1,h1,o,h2,h3⟩:=h
 refine ⟨ρ1,o,h1,h2,?_⟩
 cases o<;>simp only [Option.some.injEq] at h3
 ·exact .inl ⟨_,rfl,h3⟩
 ·exact .inr (.inr (.inr (.inl ⟨_,rfl,h3.symm⟩)))
 ·exact .inr (.inr (.inl ⟨_,rfl,h3.symm⟩))
 ·exact .inr (.inl ⟨_,rfl,h3⟩)
 ·exact .inr (.inr (.inr (.inr ⟨_,rfl,h3.symm⟩)))
def gEx (K:PySem.W.Frag) (T:Tx) (is:List Nat) (tp:Bool):TG:=fun v σ H Q=>∃ ρ S ρ1 d,bindT is tp d ρ=some ρ1∧gD K T S is ρ ρ1 d v σ H Q
theorem st_for (xc:XC CX X c G T lv) (xs:XS CX T X c EX) {n:Nat} {tg iter:Expr} {body:List Stmt} {tgs:List Nat} {tp:Bool} {k:Src} {src:IE} {ib:IS} (htg:targetN c tg=some (tgs,tp)) (hi:cI n c iter=some (k,src)) (htk:TgOk k tg) (hb:PSs X body (tSt X.K T S₀ H₀ fr EX G ib)) :
  PS X (.For tg iter body [] pos) (tSt X.K T S₀ H₀ fr EX G (.loop tgs tp k src ib)):=fun pins s σ H D I ⟨ρ,out,S,hex,si,po⟩=>by
 simp only [ex,Option.bind_eq_bind,Option.bind_eq_some_iff] at hex
 obtain ⟨d,hd,ds,hds,hgo⟩:=hex
 obtain ⟨hit,hset⟩:=(ok_all n).2.2.2.2 X c S ρ iter k src xc hi d ds hd hds
 have hg:PG X tg (gEx X.K T tgs tp):=fun pins s σ H v u Q I r ⟨ρ,S,ρ1,d,hbn,h⟩=>pg_D xc htg hbn pins s σ H v u Q I r h
 refine ps_for xs.pass xc.calm (hit tg htk) hg hb hset pins s σ H D I ⟨si.re,fun J H1 sm itd hlen=>?_⟩
 refine ⟨fun i m σ H=>∃ ρi Si,m=ds.length-i∧i≤ds.length∧forGo (bindT tgs tp) (ex G ib) (ds.drop i) ρi=some out∧SInv X.K T S₀ H₀ Si ρi σ H∧Moves X.K H1 H S Si,⟨ds.length,ρ,S,by simp,Nat.zero_le _,by simpa using hgo,si.step sm,Moves.refl⟩,?_⟩
 rintro i m σ' H' ⟨ρi,Si,rfl,hile,hgi,sii,mv⟩
 obtain ⟨it1,it2⟩:=itd H' Si mv sii.re.dom
 have po':Post X.K T S₀ H₀ fr EX H' Si D out:=po.step ((Moves.same sm).trans mv)
 by_cases hlt:i<ds.length
 ·refine .inr ?_
  have hdr:ds.drop i=ds[i]::ds.drop (i+1):=List.drop_eq_getElem_cons hlt
  rw [hdr] at hgi
  obtain ⟨ρ1,o,hbn,hbo,hcase⟩:=forGo_cons hgi
  obtain ⟨hgo',hy⟩:=it1 i ds[i] (by simp [hlt])
  refine ⟨hgo',fun σ2 H2=>∃ ρ2 S2,forGo (bindT tgs tp) (ex G ib) (ds.drop (i+1)) ρ2=some out∧SInv X.K T S₀ H₀ S2 ρ2 σ2 H2∧Moves X.K H1 H2 S S2,fun σ2 H2 ⟨ρ2,S2,a,b,c⟩=>⟨ds.length-(i+1),by omega,ρ2,S2,rfl,hlt,a,b,c⟩,fun x H2 hyl=>?_⟩
  obtain ⟨s2,rx⟩:=hy x H2 hyl
  refine ⟨ρi,Si,ρ1,ds[i],hbn,(sii.step s2).re,rx,fun σ3 re3 ag=>⟨ρ1,o,Si,hbo,(sii.step s2).bind hbn re3 ag,?_⟩⟩
  have mv2:Moves X.K H1 H2 S Si:=mv.trans (Moves.same s2)
  rcases hcase with ⟨ρ2,rfl,hr⟩|⟨ρ2,rfl,hr⟩|⟨ρ2,rfl,rfl⟩|⟨d',rfl,rfl⟩|⟨x',rfl,rfl⟩
  ·exact fun S3 σ4 H4 si4 mv4=>⟨ρ2,S3,hr,si4,mv2.trans mv4⟩
  ·exact fun S3 σ4 H4 si4 mv4=>⟨ρ2,S3,hr,si4,mv2.trans mv4⟩
  ·exact fun S3 σ4 H4 si4 mv4=>po' S3 σ4 H4 si4 ((Moves.same s2).trans mv4)
  ·exact po'
  ·exact po'
 ·have hn:i=ds.length:=by omega
  refine .inl ⟨it2 i (by omega),?_⟩
  rw [hn,List.drop_length] at hgi
  simp only [forGo,Option.some.injEq] at hgi
  subst hgi
  exact po' Si σ' H' sii Moves.refl
end Z
namespace Z
open PySem PySem.Spec PyProof.Rows L2
variable {CX:CXT}{G:GS}{T:Tx}{lv:Nat}{X:Cx}{c:CC}{S₀:Addr→Prop}{H₀:Hp}{fr:Bool}{EX:Str→Hp→Prop}{pos:Pos}
theorem n_callE (h:XC CX X c G T lv) {S:Addr→Prop} {ρ:List Sl} {x:Str} {es:List Expr} {ds:List D} {p:Pos} {k:Str} {C:Addr} {E1:XK} (hg:isGlob c x=true) (hf:c.fns.contains x=true) (ha:PA X es (tAs X.K T S ρ ds)) (hs:starEach es X.env=es.map fun e=>(false,eval e X.env)) (hlen:ds.length=es.length)
  (hd:G.fn x ds=some (.er k)) (hT:T.xc k=some C) (hp:Passes CX X E1):PE X (.Call (.Name x p) es [] pos) (fun σ H Q=>RE X.K T H S ρ σ∧∀ H',Same H H'→E1 (.ref C) none H'):=by
 obtain ⟨f,fd,ps,hm,hk,hb,hl,F⟩:=h.go.fn x hf
 have key:∀ σ H Q,(RE X.K T H S ρ σ∧∀ H',Same H H'→E1 (.ref C) none H')→tCall (spD X.K T ps.length (G.fn x) (G.ff x)) [] E1 (tAs X.K T S ρ ds) σ H Q:=fun σ H Q ⟨re,q⟩ =>
  ⟨re,fun vs H1 s1 r1=>⟨by rw [List.append_nil,← r1.len]; exact hl ds _ hd,S,ds,(re.same s1).dom,by rw [List.append_nil]; exact r1,.inr ⟨k,C,hd,hT,fun H' s2=>q H' (s1.trans s2)⟩⟩⟩
 cases es with
 | nil =>
  refine PE.mono (pe_call0 F h.room (h.glob hg) hm hk hb .nil hp (h.gne hg)) fun σ H Q hq=>?_
  obtain ⟨re,q⟩:=hq
  have hds:ds=[]:=List.length_eq_zero_iff.mp hlen
  subst hds
  exact (key σ H Q ⟨re,q⟩).2 [] H (Same.refl H) RepL.nil
 | cons e es =>
  obtain ⟨h1,h2⟩:=stars (pos:=pos) hs
  exact PE.mono (pe_call F h.room (h.glob hg) hm hk hb .nil hp ha (h.gne hg) h1 h2) key
theorem n_methE (h:XC CX X c G T lv) {S:Addr→Prop} {ρ:List Sl} {ea:Expr} {m cn:Str} {fs:List (Str × D)} {es:List Expr} {ds:List D} {apos:Pos} {k:Str} {C:Addr} {E1:XK} (ht:MethTree X ea m es apos pos) (ho:PE X ea (tD X.K T S ρ (.obj cn fs))) (hn:fs.lookup m=none)
  (ha:PA X es (tAs X.K T S ρ ds)) (hs:starEach es X.env=es.map fun e=>(false,eval e X.env)) (hlen:ds.length=es.length) (hd:G.me cn m (.obj cn fs::ds)=some (.er k)) (hT:T.xc k=some C) (hp:Passes CX X E1) :
  PE X (.Call (.Attribute ea m apos) es [] pos) (fun σ H Q=>RE X.K T H S ρ σ∧∀ H',Same H H'→E1 (.ref C) none H'):=by
 obtain ⟨pl,ht⟩:=ht
 intro pins s σ H Q I ⟨re,q⟩
 refine PySem.W.methodCall_KW (pl:=pl) (thn (ho pins s σ H (fun v H'=>Same H H'∧Rep X.K T H' S (.obj cn fs) v) I ⟨re,fun v H' a b=>⟨a,b⟩⟩) fun u s1 ⟨x,H1,I1,rx,sm,ro⟩=>?_) ht
 have ro':=ro
 unfold Rep at ro
 obtain ⟨p,C',dx,gs,ex,_,ec,e,rf⟩:=ro
 subst ex
 obtain rfl:u=Value.ref p:=rx
 obtain ⟨f,fd,ps,hm,hb,hl,F⟩:=h.go.me cn C' m _ _ ec hd
 refine getmeth_ok I1 e (h.go.cls cn C' ec) hm ((RepF.look rf).2 hn) ?_
 have fin:∀ (us:List Value) (vs:List V) (s2:Shared) (H2:Hp),Inv X pins σ H2 s2→Vals vs us→Same H1 H2→RepL X.K T H2 S ds vs→wpAny (model X.prog X.w) X.A (call (.ref f) (.ref p::us)) (EP X pins σ Q) X.xe s2:=fun us vs s2 H2 I2 r2 s12 rl=>by
  refine run_fn (us:=.ref p::us) (vs:=.ref p::vs) (dvs:=[]) (ds:=[]) (E:=E1) F h.room hb .nil hp I2 (.cons rfl r2) ?_
  refine ⟨?_,S,.obj cn fs::ds,((re.same sm).same s12).dom,?_,.inr ⟨k,C,hd,hT,fun H' s3=>q H' ((sm.trans s12).trans s3)⟩⟩
  ·have:=hl _ _ hd
   simp only [List.append_nil,List.length_cons] at this ⊢
   rw [← rl.len]; exact this
  ·rw [List.append_nil]
   exact RepL.cons (ro'.same s12) rl
 cases es with
 | nil =>
  have hds:ds=[]:=List.length_eq_zero_iff.mp hlen
  subst hds
  exact PySem.W.callWith_K0 (first:=[.ref p]) I1.kIn hm.kp (fin [] [] s1 H1 I1 .nil (Same.refl _) RepL.nil)
 | cons e es =>
  obtain ⟨h1,h2⟩:=stars (pos:=pos) hs
  refine PySem.W.callWith_K (first:=[.ref p]) (h₀:=X.base) I.ok.mod.kin hm.kp (thn (ha pos pins s1 σ H1 (fun vs H'=>Same H1 H'∧RepL X.K T H' S ds vs) I1 ⟨re.same sm,fun vs H' a b=>⟨a,b⟩⟩) fun us s2 ⟨vs,H2,I2,r,s12,rl⟩=>⟨I2.kIn,?_⟩) h1 h2
  exact fin us vs s2 H2 I2 r s12 rl
theorem n_err (xc:XC CX X c G T lv) {S:Addr→Prop} {ρ:List Sl} {n:Nat} {f:Expr} {args:List Expr} {kw:List Keyword} {p:Pos} {ir:IE} {k:Str} {C:Addr} {E1:XK} (he:cE n c (.Call f args kw p)=some ir) (hr:evR G ir ρ=some (.er k)) (hT:T.xc k=some C) (hp:Passes CX X E1) :
  PE X (.Call f args kw p) (fun σ H Q=>RE X.K T H S ρ σ∧∀ H',Same H H'→E1 (.ref C) none H'):=by
 cases n with
 | zero=>exact nomatch (show none=some ir from he)
 | succ n =>
  obtain ⟨hE,hT',hB,hA,hI⟩:=ok_all (CX:=CX) (G:=G) (T:=T) (lv:=lv) n
  obtain ⟨hkw,he⟩:=i_some he
  obtain rfl:=emp_t hkw
  cases f<;>first|exact nomatch (show none=some ir from he)|skip
  case Attribute o m ap _ =>
   obtain ⟨hc,he⟩:=i_some he
   obtain ⟨hc,hc3⟩:=and_t hc
   obtain ⟨hc1,hc2⟩:=and_t hc
   obtain ⟨x,hx,he⟩:=b_some he
   obtain ⟨y,hy,rfl⟩:=m_some he
   simp only [evR] at hr
   split at hr
   ·rename_i cn fs hw
    obtain ⟨hnone,hr⟩:=i_some hr
    obtain ⟨ds,hds,hd⟩:=b_some hr
    obtain ⟨ds',e1,hl,pa,hs⟩:=hA X _ S ρ args y xc hy _ (argsOf_some hds)
    cases e1
    exact n_methE xc (methTree hc1 hs (of_decide_eq_true hc2) hc3) (hE X _ S ρ o x xc hx _ hw).1 (Option.isNone_iff_eq_none.mp hnone) pa hs hl hd hT hp
   ·cases hr
  case Name x px _ =>
   obtain ⟨hg,he⟩:=i_some he
   cases hf:c.fns.contains x with
   | true =>
    rw [hf] at he
    obtain ⟨y,hy,rfl⟩:=m_some (show (cA n c args).map (fun y=>IE.call x y)=some ir from he)
    obtain ⟨ds,hds,hd⟩:=b_some (show (argsOf (ev G y ρ)).bind (G.fn x)=some (.er k) from hr)
    obtain ⟨ds',e1,hl,pa,hs⟩:=hA X _ S ρ args y xc hy _ (argsOf_some hds)
    cases e1
    exact n_callE xc hg hf pa hs hl hd hT hp
   | false =>
    exfalso
    rw [hf] at he
    have no:∀ {o:Option IE} {g:IE→IE},(∀ y,evR G (g y) ρ=none)→o.map g=some ir→False:=fun {o g} hn z=>by
     obtain ⟨y,_,rfl⟩:=m_some z
     rw [hn y] at hr; cases hr
    cases hcl:c.cls.contains x with
    | true=>rw [hcl] at he; exact no (g:=fun y=>IE.mk x y) (fun _=>rfl) he
    | false =>
     rw [hcl] at he
     cases hi:x == "isinstance" with
     | true =>
      rw [hi] at he
      have he:rdIsi (cE n c) c args=some ir:=he
      match args,he with
      | [a,y],he =>
       obtain ⟨y',_,he⟩:=b_some he
       obtain ⟨_,he⟩:=i_some he
       exact no (g:=fun z=>IE.isi z y'.1) (fun _=>rfl) he
     | false =>
      rw [hi] at he
      obtain ⟨b,hb,he⟩:=b_some (show (bfOf x).bind (fun b=>rdBf (cE n c) c b args (cA n c args))=some ir from he)
      unfold rdBf at he
      have nb:∀ b:BF,((cA n c args).map fun z=>IE.bcall b z)=some ir→False:=fun b he=>no (g:=fun z=>IE.bcall b z) (fun _=>rfl) he
      split at he
      ·rename_i i _
       cases b<;>first|exact nb _ he|(cases (show some _=some ir from he); cases hr)
      ·cases hra:revArg c args with
       | none=>rw [hra] at he; exact nb b (by cases b<;>exact he)
       | some a=>rw [hra] at he; cases b<;>first|exact nb _ he|exact no (g:=fun z=>IE.walk .rev z) (fun _=>rfl) he
theorem st_drop (xc:XC CX X c G T lv) (xs:XS CX T X c EX) {n:Nat} {f:Expr} {args:List Expr} {kw:List Keyword} {p:Pos} {ir:IE} (he:cE n c (.Call f args kw p)=some ir):PS X (.Expr (.Call f args kw p) pos) (tSt X.K T S₀ H₀ fr EX G (.drop ir)):=fun pins s σ H D I ⟨ρ,out,S,hx,si,po⟩=>by
 simp only [ex] at hx
 split at hx
 ·rename_i d hd
  cases hx
  exact ps_expr ((ok_all n).1 X c (fun _=>False) (view ρ) _ ir xc he d hd).1 rfl pins s σ H D I ⟨si.re.view,fun v H' sm _=>po S σ H' (si.step sm) (Moves.same sm)⟩
 ·split at hx
  ·rename_i k hk
   split at hx
   ·rename_i hn
    cases hx
    obtain ⟨C,hT⟩:=xc.go.xns k hn
    refine ps_expr (n_err (S:=fun _=>False) (E1:=fun cls _ H'=>∃ k C,T.xc k=some C∧cls=.ref C∧EX k H') xc he hk hT (xs.pss _ fun cls H' z=>z)) rfl pins s σ H D I ⟨si.re.view,fun H' sm=>⟨k,C,hT,rfl,po H' (si.same.trans sm)⟩⟩
   ·cases hx
  ·cases hx
theorem XC.re {X':Cx} (xc:XC CX X c G T lv) (h1:X'.prog=X.prog) (h2:X'.w=X.w) (h3:X'.K=X.K) (h4:X'.mg=X.mg) (h5:X'.base=X.base) (h6:X'.N=X.N) (h7:X'.env=X.env) (h8:X'.fn=X.fn) (h9:X'.calm=X.calm) (h10:X'.A=X.A):XC CX X' c G T lv:=by
 obtain ⟨pr,w,K,mg,base,A,N,s0,H0,env,outer,stack,ex,fn,calm,pn,xe⟩:=X
 obtain ⟨pr',w',K',mg',base',A',N',s0',H0',env',outer',stack',ex',fn',calm',pn',xe'⟩:=X'
 dsimp only at h1 h2 h3 h4 h5 h6 h7 h8 h9 h10
 subst h1 h2 h3 h4 h5 h6 h7 h8 h9 h10
 exact ⟨xc.N,xc.nd,xc.kd,xc.own,xc.dbg,xc.gdb,xc.calm,xc.room,⟨xc.go.fn,xc.go.me,xc.go.cls,xc.go.fld,xc.go.mo,xc.go.cst,xc.go.bi,xc.go.xcl,xc.go.frs,xc.go.cx0,xc.go.cxf,xc.go.xns,xc.go.xk,xc.go.sub,xc.go.wd,xc.go.dk⟩⟩
abbrev pinX (X:Cx) (pins:List (Addr × Obj)) (W:Value→Shared→Prop):Cx:={ X with pn:=X.pn++pins,xe:=W }
theorem invPin {pins:List (Addr × Obj)} {σ:L2.St} {H:Hp} {s:Shared} {W:Value→Shared→Prop} (I:Inv X pins σ H s):Inv (pinX X pins W) [] σ H s:=
 ⟨⟨I.ok.mod,I.ok.kind,I.ok.glob,I.ok.blt,I.ok.above,I.ok.inj,I.ok.has,I.ok.cab,I.ok.hd,I.ok.frames,I.ok.stk,I.ok.exf,I.ok.bs,I.ok.bsz,I.ok.noex,I.ok.exfs,I.ok.funs,I.ok.frf⟩,I.os,I.bare,I.base,I.loc,I.cell,I.free,I.freeC,fun p hp=>I.pin p (by simpa using hp),I.hok,I.len⟩
theorem invUnpin {pins pins':List (Addr × Obj)} {σ:L2.St} {H:Hp} {s:Shared} {W:Value→Shared→Prop} (ok:X.Ok) (I:Inv (pinX X pins W) pins' σ H s):Inv X pins σ H s:=
 ⟨ok,I.os,I.bare,I.base,I.loc,I.cell,I.free,I.freeC,fun p hp=>I.pin p (List.mem_append_left _ hp),I.hok,I.len⟩
theorem evR_ok {ir:IE} {ρ:List Sl} {d:D} (h:evR G ir ρ=some (.ok d)):ev G ir ρ=some d:=by
 cases ir<;>simp only [evR,reduceCtorEq] at h
 ·simp only [ev,Option.bind_eq_bind]
  cases q:argsOf (ev G _ ρ) with
  | none=>rw [q] at h; cases h
  | some as=>rw [q] at h; show okOf (G.fn _ as)=_; rw [show G.fn _ as=_ from h]; rfl
 ·simp only [ev,Option.bind_eq_bind]
  split at h
  ·rename_i c fs hw
   rw [hw]
   split at h
   ·rename_i hn
    show (if _ then _ else _)=_
    rw [if_pos hn]
    cases q:argsOf (ev G _ ρ) with
    | none=>rw [q] at h; cases h
    | some as=>rw [q] at h; show okOf (G.me _ _ _)=_; rw [show G.me _ _ _=_ from h]; rfl
   ·cases h
  ·cases h
theorem cW_some {c:CC} {nm:Option Str} {e:Expr} {f:Str} (h:cW c nm e=some f):∃ p1 y p2 p3,e=.Call (.Name f p1) [.Name y p2] [] p3∧nm=some y∧isGlob c f=true:=by
 obtain ⟨q,h1,h⟩:=b_some h
 obtain ⟨g,h2,h⟩:=b_some h
 obtain ⟨a,h3,h⟩:=b_some h
 obtain ⟨y,h4,h⟩:=b_some h
 obtain ⟨h5,h⟩:=i_some h
 obtain ⟨h5,h7⟩:=and_t h5
 obtain ⟨h5,h6⟩:=and_t h5
 cases h
 exact ⟨g.2,y.1,y.2,q.2.2.2,by rw [callP_some h1,nameP_some h2,one_some h3,nameP_some h4,emp_t h5],beq_iff_eq.mp h6,h7⟩
theorem cH_inv {c:CC} {nm:Option Str} {e:Expr} {r:HR} (h:cH c nm e=some r):(∃ b j q,e=.Constant (.bool b) j q∧r=.lit (.bl b))∨(∃ f p1 y p2 p3,e=.Call (.Name f p1) [.Name y p2] [] p3∧nm=some y∧isGlob c f=true∧r=.word f) ∨
  (∃ f p1 y p2 p3 x j p4 p5,e=.Compare (.Call (.Name f p1) [.Name y p2] [] p3) [.Eq] [.Constant (.str x) j p4] p5∧nm=some y∧isGlob c f=true∧r=.weq f x):=by
 have wd:(cW c nm e).map HR.word=some r→(∃ f p1 y p2 p3,e=.Call (.Name f p1) [.Name y p2] [] p3∧nm=some y∧isGlob c f=true∧r=.word f):=fun h=>by
  obtain ⟨f,h1,rfl⟩:=m_some h
  obtain ⟨p1,y,p2,p3,a,b,d⟩:=cW_some h1
  exact ⟨f,p1,y,p2,p3,a,b,d,rfl⟩
 cases e<;>first|exact .inr (.inl (wd h))|skip
 case Compare e os bs p =>
  obtain ⟨f,h1,h⟩:=b_some h
  obtain ⟨o,h2,h⟩:=b_some h
  obtain ⟨b,h3,h⟩:=b_some h
  obtain ⟨x,h4,h⟩:=b_some h
  obtain ⟨h5,h⟩:=i_some h
  cases h
  obtain ⟨p1,y,p2,p3,rfl,a,d⟩:=cW_some h1
  obtain ⟨j,p4,rfl⟩:=strC_some h4
  have ho:o=.Eq:=by cases o<;>first|rfl|exact nomatch (show false=true from h5)
  subst ho
  exact .inr (.inr ⟨f,p1,y,p2,p3,x,j,p4,p,by rw [one_some h2,one_some h3],a,d,rfl⟩)
 case Constant v k p =>
  cases v<;>first|exact .inr (.inl (wd h))|skip
  cases (show some _=some r from h)
  exact .inl ⟨_,_,_,rfl,rfl⟩
theorem suite_ok (xc:XC CX X c G T lv) {nm:Option Str} {e:Expr} {r:HR} {rp:Pos} {a C:Addr} {k:Str} {d:D} {σ0:L2.St} {H1:Hp} {rt:VK} {S:Addr→Prop} (hr:cH c nm e=some r) (hd:hrD G k r=some d) (hT:T.xc k=some C) (hsl:∀ n,nm=some n→∃ i:Nat,c.N[i]?=some n∧c.sc.names.lookup n=some .local∧(n == ("__debug__":Str))=false∧(n == ("__classdict__":Str))=false∧σ0[i]?=some (some (V.ref a)))
  (hx:H1 a=some (.ext (isExc a C))) (hq:∀ v H',Same H1 H'→Rep X.K T H' S d v→rt v H'):PSs (heldX X a) [.Return (some e) rp] (fun D' σ' H''=>D'=rtOnly rt∧σ'=σ0∧H''=H1):=by
 have word:∀ {f y:Str} {p1 p2 p3:Pos} {x:Str},nm=some y→isGlob c f=true→G.wd f k=some x→PE (heldX X a) (.Call (.Name f p1) [.Name y p2] [] p3) (fun σ' H'' Q=>σ'=σ0∧H''=H1∧∀ H',Same H1 H'→Q (.str x) H'):=fun {f y p1 p2 p3 x} e1 hg hw=>by
  obtain ⟨i,h1,h2,h3,h4,h5⟩:=hsl y e1
  obtain ⟨fa,fd,ps,j,hj,hm,hk,hb,F⟩:=xc.go.wd f k x C hT hw
  have kd:X.env.kindOf y=some .local:=by
   have:=xc.kd y
   rw [h2] at this
   exact this
  have pv:PE (heldX X a) (.Name y p2) (tVar i):=pe_var (X:=heldX X a) (by show X.N[i]?=_; rw [xc.N]; exact h1) (.inl kd) h3 h4
  have rm:RoomM j (heldX X a).A:=⟨((roomM xc.room).mono hj).dp,((roomM xc.room).mono hj).un⟩
  refine PE.mono (pe_callM (X:=heldX X a) F rm (xc.glob hg) hm hk hb (pa_cons pv pa_nil) (xc.gne hg) rfl rfl) fun σ' H'' Q hh=>?_
  obtain ⟨rfl,rfl,q⟩:=hh
  exact ⟨.ref a,h5,a,rfl,hx,q⟩
 refine pss_one ?_
 rcases cH_inv hr with ⟨b,j,q,rfl,rfl⟩|⟨f,p1,y,p2,p3,rfl,h1,h2,rfl⟩|⟨f,p1,y,p2,p3,x,j,p4,p5,rfl,h1,h2,rfl⟩
 ·simp only [hrD,Lit.d,Option.some.injEq] at hd
  subst hd
  intro pins s σ' H'' D' I hh
  obtain ⟨rfl,rfl,rfl⟩:=hh
  exact ps_ret pe_bl pins s _ _ _ I (hq _ _ (Same.refl _) rep_bl)
 ·simp only [hrD,Option.map_eq_some_iff] at hd
  obtain ⟨x,hw,rfl⟩:=hd
  intro pins s σ' H'' D' I hh
  obtain ⟨rfl,rfl,rfl⟩:=hh
  exact ps_ret (word h1 h2 hw) pins s _ _ _ I ⟨rfl,rfl,fun H' sm=>hq _ H' sm (by unfold Rep; rfl)⟩
 ·simp only [hrD,Option.map_eq_some_iff] at hd
  obtain ⟨z,hw,rfl⟩:=hd
  intro pins s σ' H'' D' I hh
  obtain ⟨rfl,rfl,rfl⟩:=hh
  refine ps_ret (pe_cmpR op_eq (word h1 h2 hw) pe_str (nomark _)) pins s _ _ _ I ⟨rfl,rfl,fun H' sm=>⟨rfl,?_⟩⟩
  rw [dec_str]
  exact hq _ H' sm rep_bl
theorem hr_nl {k:Str} {r:HR} {d:D} (h:hrD G k r=some d):∀ ds,d≠.lst ds:=by
 intro ds z
 subst z
 cases r with
 | lit l=>cases l<;>simp only [hrD,Lit.d,Option.some.injEq,reduceCtorEq] at h
 | word f=>simp only [hrD,Option.map_eq_some_iff,reduceCtorEq,and_false,exists_false] at h
 | weq f x=>simp only [hrD,Option.map_eq_some_iff,reduceCtorEq,and_false,exists_false] at h
theorem st_try (xc:XC CX X c G T lv) (xs:XS CX T X c EX) {n:Nat} {f:Expr} {args:List Expr} {kw:List Keyword} {p ep np rp hp:Pos} {ir:IE} {x:Str} {nm:Option Str} {e:Expr} {i:Option Nat} {r:HR} (hg:isGlob c x=true) (hn:cN c nm=some i) (hr:cH c nm e=some r) (he:cE n c (.Call f args kw p)=some ir) :
  PS X (.Try [.Expr (.Call f args kw p) ep] [.ExceptHandler (some (.Name x np)) nm [.Return (some e) rp] hp] [] [] pos) (tSt X.K T S₀ H₀ fr EX G (.tryx ir x i r)):=fun pins s σ H D I ⟨ρ,out,S,hx,si,po⟩=>by
 refine wpAny_Try_except ?_
 simp only [ex] at hx
 split at hx
 ·rename_i d hd
  cases hx
  have hev:ev G ir (view ρ)=some d:=evR_ok hd
  have pn:PSs X.nox [.Expr (.Call f args kw p) ep] (tDrop (tD X.K T (fun _=>False) (view ρ) d)):=pss_one (ps_expr ((ok_all n).1 X.nox c (fun _=>False) (view ρ) _ ir (xc.re rfl rfl rfl rfl rfl rfl rfl rfl rfl rfl) he d hev).1 rfl)
  refine wpAny_mono (pn pins s σ H { nx:=fun σ' H'=>D.nx σ' H',rt:=fun _ _=>False } (I.wish _) ⟨si.re.view,fun v H' sm _=>po S σ H' (si.step sm) (Moves.same sm)⟩) (fun fl s1 h1=>?_) fun _ _ z=>z.elim
  cases fl with
  | next =>
   obtain ⟨σ',H',I',q⟩:=h1
   exact wpAny_execs_nil ⟨σ',H',I'.unwish,q⟩
  | brk=>obtain ⟨_,_,_,z⟩:=h1; exact z.elim
  | cont=>obtain ⟨_,_,_,z⟩:=h1; exact z.elim
  | ret u=>obtain ⟨_,_,_,_,_,z⟩:=h1; exact z.elim
 ·rename_i k hk
  split at hx
  ·rename_i hb
   rw [Bool.and_eq_true,Bool.and_eq_true] at hb
   simp only [Option.map_eq_some_iff] at hx
   obtain ⟨d,hd,rfl⟩:=hx
   obtain ⟨C,hT⟩:=xc.go.xns k hb.1.1
   obtain ⟨L,hL⟩:=xc.go.xns x hb.1.2
   have hsub:=xc.go.sub k x C L hT hL hb.2
   have hsc:∀ ds,d≠.lst ds:=hr_nl hd
   have fin:∀ v H',Same H H'→Rep X.K T H' S₀ d v→D.rt v H':=fun v H' sm rp=>po v H' (si.same.trans sm) rp fun _ ds z=>absurd z (hsc ds)
   have hCx:=xc.go.xk k C hT
   have hLx:=xc.go.xk x L hL
   have hmL:=xc.go.xcl x L hL
   have sm2:∀ {H':Hp} {a:Addr},Same H H'→H' a=none→Same H (upd H' a (.ext (isExc a C))):=fun {H' a} sm ha=>sm.trans (Same.upd ha)
   have hp1:Passes CX (pinX X pins fun v s1=>wpAny (model X.prog X.w) X.A (noteFrame v X.env) (fun _ s₂=>wpAny (model X.prog X.w) X.A (setFlight v none) (fun _ s₃=>wpAny (model X.prog X.w) X.A (handleBy v X.env [.ExceptHandler (some (.Name x np)) nm [.Return (some e) rp] hp]) (SP X pins D) X.xe s₃) X.xe s₂) X.xe s1) (fun cls _ H'=>cls=.ref C∧Same H H'):=by
    intro pins' σ1 H1 s1 v s2 I1 hcx
    obtain ⟨a,cls,a0,B,H',rfl,F,rfl,sm⟩:=xc.go.cxf _ _ _ _ _ _ hcx
    have I2:=invUnpin I.ok I1
    cases nm with
    | none =>
     refine caught (rt:=D.rt) I2 F xs.stk xs.frm hCx hLx hsub (xc.glob hg) (xc.gne hg) hmL rfl (suite_ok (S:=S₀) xc hr hd hT (fun n z=>by cases z) upd_same fun v H2 sm' rp=>fin v H2 ((sm2 sm F.new).trans sm') rp)
    | some nn =>
     simp only [cN] at hn
     split at hn
     ·rename_i hc
      simp only [Bool.and_eq_true,beq_iff_eq,Bool.not_eq_true'] at hc
      simp only [Option.map_eq_some_iff] at hn
      obtain ⟨ii,hii,rfl⟩:=hn
      have hNi:=idx_get hii
      have kd:X.env.kindOf nn=some .local:=by
       have:=xc.kd nn
       rw [hc.1.1] at this
       exact this
      have hlt:ii<σ1.length:=by rw [I2.len,xc.N]; exact (List.getElem?_eq_some_iff.mp hNi).1
      refine caughtAs (rt:=D.rt) (i:=ii) I2 F xs.stk xs.frm hCx hLx hsub (xc.glob hg) (xc.gne hg) hmL rfl (by rw [xc.N]; exact xc.nd) (by rw [xc.N]; exact hNi) kd (suite_ok (S:=S₀) xc hr hd hT (fun n z=>?_) upd_same fun v H2 sm' rp=>fin v H2 ((sm2 sm F.new).trans sm') rp)
      cases z
      exact ⟨ii,hNi,hc.1.1,hc.1.2,hc.2,by rw [List.getElem?_set_self hlt]⟩
     ·cases hn
   have xc1:XC CX (pinX X pins fun v s1=>wpAny (model X.prog X.w) X.A (noteFrame v X.env) (fun _ s₂=>wpAny (model X.prog X.w) X.A (setFlight v none) (fun _ s₃=>wpAny (model X.prog X.w) X.A (handleBy v X.env [.ExceptHandler (some (.Name x np)) nm [.Return (some e) rp] hp]) (SP X pins D) X.xe s₃) X.xe s₂) X.xe s1) c G T lv:=xc.re rfl rfl rfl rfl rfl rfl rfl rfl rfl rfl
   have pn:=pss_one (ps_expr (pos:=ep) (n_err (S:=fun _=>False) xc1 he hk hT hp1) rfl)
   refine wpAny_mono (pn [] s σ H { nx:=fun _ _=>False,rt:=fun _ _=>False } (invPin I) ⟨si.re.view,fun H' sm=>⟨rfl,sm⟩⟩) (fun fl s1 h1=>?_) fun _ _ z=>z
   cases fl with
   | next=>obtain ⟨_,_,_,z⟩:=h1; exact z.elim
   | brk=>obtain ⟨_,_,_,z⟩:=h1; exact z.elim
   | cont=>obtain ⟨_,_,_,z⟩:=h1; exact z.elim
   | ret u=>obtain ⟨_,_,_,_,_,z⟩:=h1; exact z.elim
  ·cases hx
 ·cases hx
end Z
namespace Z
open PySem PySem.Spec PyProof.Rows L2
section
variable {CX:CXT}{X:Cx}{c:CC}{G:GS}{T:Tx}{lv:Nat}{pins:List (Addr × Obj)}{σ:L2.St}{H:Hp}{s:Shared}
theorem funs_but {h h' B B':Heap} {C:Addr} (k:∀ b,b≠C→h'.get? b=h.get? b) (kb:∀ b o,B'.get? b=some o→B.get? b=some o):∀ {l:List Env},C ∉ frs l→h.FunFrames B l→h'.FunFrames B' l
 | [],_,_=>trivial
 | env::l,n,⟨h1,⟨L,o,hf,hn,ho,hd⟩,h3⟩=>by
  have e:frs (env::l)=L::frs l:=by unfold frs; rw [List.filterMap_cons,hf]
  rw [e] at n
  refine ⟨h1,⟨L,o,hf,?_,(k L fun z=>n (by rw [z]; exact List.mem_cons_self)).trans ho,hd⟩,funs_but k kb (fun z=>n (List.mem_cons_of_mem _ z)) h3⟩
  cases q:B'.get? L with
  | none=>rfl
  | some u=>rw [kb L u q] at hn; cases hn
theorem held_set {M:Model} {A:Around} {E:Value→Shared→Prop} {s:Shared} {B:Heap} {e L:Addr} {cls a0:Value} {Q:Unit→Shared→Prop} (ht:s.heap.TracedAtW B e cls a0 (rawInt L)) (h:∀ h',(∀ b,h'.get? b=s.heap.get? b)→Q () { s with heap:=h' }):wpAny M A (setFlight (.ref e) (some L)) Q E s:=by
 obtain ⟨oe,vs,t,ot,ts,he0,hc0,hd0,hf0,hnT,hTe,hT,hdT,h3⟩:=ht
 have hsz:3<ts.size:=(Array.getElem?_eq_some_iff.mp h3).1
 unfold setFlight
 refine wpAny_bind (wpAny_field he0 hd0 hf0 ?_)
 rw [if_pos (show (Value.ref t != Value.none)=true from by simp)]
 refine wpAny_setField hT hdT hsz (h _ fun b=>?_)
 by_cases hb:b=t
 ·subst hb
  rw [Heap.get?_update_self _ hT (Obj.isFreed_of_fields (Obj.data_mapFields hdT _)),hT]
  congr 1
  have ea:ts.setIfInBounds 3 (rawInt L)=ts:=by
   refine Array.ext_getElem? fun i=>?_
   by_cases hi:i=3
   ·subst hi; rw [Array.getElem?_setIfInBounds_self_of_lt hsz,h3]
   ·rw [Array.getElem?_setIfInBounds_ne (Ne.symm hi)]
  obtain ⟨oc,od,odt,osl⟩:=ot
  have hdT:odt=.fields ts:=hdT
  subst hdT
  show Obj.mk oc od (.fields (ts.setIfInBounds 3 (rawInt L))) osl=_
  rw [ea]
 ·exact Heap.get?_update_other _ _ (Ne.symm hb)
theorem comp_pass (h:XC CX X c G T lv) (hf:X.env.frame=some X.env.locals) (hex:X.ex=[]) (hst:X.stack=X.env::X.outer) {sc:Scope} {cl:List (Str × Addr)} {C:Addr} {fp:List Addr} {E1:XK} {EN:Value→Shared→Prop} {R:Value→Shared→Prop} {Q:Value→Shared→Prop} {cenv:Env} (hfr:cenv.frame=X.env.frame)
  (I3:Inv X pins σ H s) (hC:s.heap.objs.size≤C) (fpo:∀ b ∈ fp,FpOk X pins H b) (hEN:EN=notedBy (model X.prog X.w) X.A (compEnvC sc cl C X.env) R)
  (hR:∀ (H':Hp) (B:Heap) (a:Addr) (cls a0:Value) (s':Shared),Hd X H' B a cls a0 s'→E1 cls none H'→X.xe (.ref a) s')
  (RR:∀ (e:Value) (s':Shared),(∃ m,s'.heap.Ns C m∧∀ h',Heap.SameBut C s'.heap h'→wpAny (model X.prog X.w) X.A (PySem.passOn "comprehension.variables-let-go" e cenv) Q X.xe { s' with heap:=h' })→R e s') :
  Passes CX (compX X (ownNames sc) sc cl C s H fp EN) E1:=by
 rintro pins' σ' H8 s8 e s' I8 hcx
 obtain ⟨a,cls,a0,B,H',rfl,F,q⟩:=h.go.cxf _ _ _ _ _ _ hcx
 have F:Fly X.prog X.w X.stack H8 s8 B a cls a0 H' s':=F
 have J:Inv (compX X (ownNames sc) sc cl C s H fp EN) pins' σ' H' s':=Fly.inv (X:=compX X (ownNames sc) sc cl C s H fp EN) I8 F
 have fpo':∀ b ∈ fp,(b ∈ X.ex∨X.s₀.heap.objs.size≤b)∧b≠X.env.locals∧(∀ x c,X.env.cells.lookup x=some c→c≠b)∧∀ p ∈ X.pn++pins,p.1≠b:=fun b hb=>⟨(fpo b hb).2.2.2.1,(fpo b hb).2.1,(fpo b hb).2.2.2.2.1,(fpo b hb).2.2.2.2.2⟩
 have JX:Inv X pins σ H' s':=I3.call' J.os J.base J.hok J.bare fpo'
 have I8X:Inv X pins σ H8 s8:=I3.call' I8.os I8.base I8.hok I8.bare fpo'
 have un0:Un (frs X.outer) [] X.H₀ H' X.s₀.heap s'.heap:=by
  have:=JX.base
  rw [hex] at this
  exact this
 have un8:∀ b o,X.s₀.heap.get? b=some o→∃ o',s8.heap.get? b=some o':=fun b o e=>I8X.base.there b o e (by rw [hex]; simp)
 show EN (.ref a) s'
 rw [hEN]
 show wpAny (model X.prog X.w) X.A (noteFrame (.ref a) X.env) (fun _ s''=>R (.ref a) s'') _ s'
 refine wpAny_looks_onW (env:=X.env) (outer:=X.outer) (L:=X.env.locals) (by rw [← hst]; exact I3.ok.frames) hf (by rw [← hst]; exact F.fly) fun h4 held up=>?_
 rw [← hst] at held
 obtain ⟨m,hn,_⟩:=J.loc
 have hn:s'.heap.Ns C m:=hn
 have n4:=up.ns hn
 refine RR _ _ ⟨m,n4,fun h' hs=>?_⟩
 have hnd:∀ b o vs,h4.get? b=some o→o.data=.fields vs→b≠C:=fun b o vs e d z=>by
  obtain ⟨o',es,ep,ho,hd,_⟩:=n4
  rw [z,ho] at e
  cases e
  rw [hd] at d; cases d
 have cS:X.s₀.heap.get? C=none:=by
  cases e:X.s₀.heap.get? C with
  | none=>rfl
  | some o=>exact absurd (Heap.lt_size e) (Nat.not_lt.mpr (Nat.le_trans I3.sz hC))
 have cF:C ∉ frs X.stack:=fun z=>by
  rcases List.mem_cons.mp (I3.stkSub C z) with z|z
  ·have:=I3.lt
   rw [← z] at this
   exact absurd this (Nat.not_lt.mpr hC)
  ·exact I3.nofs hC z
 have cH:H' C=none:=J.free
 have tr:∀ b u,H' b=some u→b ∉ frs X.stack:=fun b u e z=>by rw [F.frf b z] at e; cases e
 have loc8:∀ b o,X.s₀.heap.get? b=some o→b≠X.env.locals:=fun b o e=>Nat.ne_of_lt (Nat.lt_of_lt_of_le (Heap.lt_size e) I3.ok.above)
 have fsE:frs X.stack=X.env.locals::frs X.outer:=by rw [hst]; unfold frs; rw [List.filterMap_cons,hf]
 have ns:∀ b,b ∉ frs X.outer→b≠X.env.locals→b ∉ frs X.stack:=fun b h1 h2 z=>by
  rw [fsE] at z
  rcases List.mem_cons.mp z with z|z
  ·exact h2 z
  ·exact h1 z
 obtain ⟨oe,vs,t,ot,ts,he,hcls,hd,h1,hnT,hTe,hT,hdT,h3⟩:=held.2.2.2
 have he':h'.get? a=some oe:=(hs.2 a (hnd a oe vs he hd)).trans he
 have hT':h'.get? t=some ot:=(hs.2 t (hnd t ot ts hT hdT)).trans hT
 have kb:∀ b o,(PySem.W.hideAll B [C]).get? b=some o→B.get? b=some o:=fun b o e=>PySem.W.of_hideAll _ e
 have kc:∀ b o,(PySem.W.hideAll B [C]).get? b=some o→b≠C:=fun b o e z=>by
  rw [z,PySem.W.hideAll_none [C] (List.mem_singleton.mpr rfl)] at e; cases e
 have no':∀ b,B.get? b=none→(PySem.W.hideAll B [C]).get? b=none:=fun b e=>by
  cases q:(PySem.W.hideAll B [C]).get? b with
  | none=>rfl
  | some o=>rw [kb b o q] at e; cases e
 have tra:h'.TracedAtW (PySem.W.hideAll B [C]) a cls a0 (rawInt X.env.locals):=⟨oe,vs,t,ot,ts,he',hcls,hd,h1,no' t hnT,hTe,hT',hdT,h3⟩
 unfold PySem.passOn
 refine wpAny_bind (wpAny_field he' hd h1 ?_)
 rw [if_neg (show ¬ ((Value.ref t == Value.none)=true) from by simp),hfr,hf]
 have fin:wpAny (model X.prog X.w) X.A (setFlight (.ref a) (some X.env.locals)) (fun _ s5=>X.xe (.ref a) s5) X.xe { s' with heap:=h' }:=by
  refine held_set (s:={ s' with heap:=h' }) tra fun h5 hg=>hR H' (PySem.W.hideAll B [C]) a cls a0 { s' with heap:=h5 } ?_ q
  have k5:∀ b,b≠C→h5.get? b=h4.get? b:=fun b n=>(hg b).trans (hs.2 b n)
  have cov:∀ b o,s'.heap.get? b=some o→b ∉ frs X.stack→((∃ u,H' b=some u)∨∃ o',X.s₀.heap.get? b=some o')→B.get? b=some o∧b≠C:=fun b o e nb t=>by
   rcases t with ⟨u,e1⟩|⟨o',e1⟩
   ·exact ⟨F.cov b o e nb (.inl ⟨u,e1⟩),fun z=>by rw [z,cH] at e1; cases e1⟩
   ·exact ⟨F.cov b o e nb (.inr (un8 b o' e1)),fun z=>by rw [z,cS] at e1; cases e1⟩
  have keep:∀ b o,s'.heap.get? b=some o→b ∉ frs X.stack→((∃ u,H' b=some u)∨∃ o',X.s₀.heap.get? b=some o')→h5.get? b=some o:=fun b o e nb t=>by
   obtain ⟨c1,c2⟩:=cov b o e nb t
   rw [k5 b c2]
   exact held.1 b o c1
  refine ⟨JX.os,F.bare,un_onto un0 (fun b o e t nb=>?_) (fun b o e hb=>?_),hok_onto F.hok fun b o u e q=>keep b o q (tr b u e) (.inl ⟨u,e⟩),⟨fun b o e=>?_,no' a held.2.1,funs_but (h:=h4) k5 kb cF held.2.2.1,?_⟩,F.new,?_,F.frf,fun b o e nb t=>?_⟩
  ·obtain ⟨o',e'⟩:=t
   exact keep b o e (ns b nb (loc8 b o' e')) (.inr ⟨o',e'⟩)
  ·have hb':b ∈ frs X.stack:=by rw [fsE]; exact List.mem_cons_of_mem _ hb
   obtain ⟨_,o2,e2,nf⟩:=F.fly.2.2.1.mem hb'
   rw [e] at e2; cases e2
   obtain ⟨sl,e4⟩:=up b o e nf
   exact ⟨sl,(k5 b fun z=>cF (by rw [← z]; exact hb')).trans e4⟩
  ·show h5.get? b=some o
   rw [k5 b (kc b o e)]
   exact held.1 b o (kb b o e)
  ·exact ⟨oe,vs,t,ot,ts,(hg a).trans he',hcls,hd,h1,no' t hnT,hTe,(hg t).trans hT',hdT,h3⟩
  ·cases e:X.s₀.heap.get? a with
   | none=>rfl
   | some o =>
    obtain ⟨o',e'⟩:=un8 a o e
    rw [F.old] at e'; cases e'
  ·have e:h5.get? b=some o:=e
   have ex:∃ o1,s'.heap.get? b=some o1:=by
    rcases t with ⟨u,e1⟩|⟨o',e1⟩
    ·exact objOk_get (F.hok b u e1)
    ·exact un0.there b o' e1 (by simp)
   obtain ⟨o1,e1⟩:=ex
   have:=keep b o1 e1 nb t
   rw [e] at this
   cases this
   obtain ⟨c1,c2⟩:=cov b _ e1 nb t
   exact PySem.W.hideAll_get _ c1 (by simpa using c2)
 first
  | exact wpAny_bind (wpAny_pure (wpAny_bind (wpAny_mono fin (fun _ s5 z=>wpAny_throw z) fun _ _ z=>z)))
  | exact wpAny_bind (wpAny_mono fin (fun _ s5 z=>wpAny_throw z) fun _ _ z=>z)
theorem comp_blockE (h:XC CX X c G T lv) {sc:Scope} (cs:CompScope c sc) {tg iter elt:Expr} {pos:Pos} {cl:List (Str × Addr)} {fr:List (Nat × Nat)} {tgs:List Nat} {tp:Bool} {ρ:List Sl} {S:Addr→Prop}
  {J:It} {fp:List Addr} {it:Addr} {tn:Nat→Heap→Prop} {ds:List D} {f:D→Option Rs} {k:Str} {Ck:Addr} {E1:XK} {RR:Value→Env→Result→Shared→Prop} {E:Value→Shared→Prop}
  (hfr:freeOf c sc (sc.names.filter fun x=>x.2 == .free)=some fr) (htn:tgs.all (fun i=>(fr.lookup i).isNone)=true) (htg:targetN { c with N:=ownNames sc,sc:=sc } tg=some (tgs,tp))
  (hcl:∀ x a,cl.lookup x=some a→X.env.cells.lookup x=some a) (hhas:∀ x,(x,NameKind.free) ∈ sc.names→∃ a,cl.lookup x=some a)
  (I:Inv X pins σ H s) (re:RE X.K T H S ρ σ) (TU:Turn X.prog X.w X.K tg J fp it tn) (st:tn 0 s.heap) (hf:∀ b ∈ fp,FpOk X pins H b) (itd:ItD X.K T S H J ds) (hlen:ds.length≤sizeLine)
  (hout:errGo f ds=some k) (hstep:∀ d y,f d=some (.ok y)→∃ ρ1,bindT tgs tp d (frame (ownNames sc).length fr ρ)=some ρ1∧TurnOk CX G T lv { c with N:=ownNames sc,sc:=sc } X.K [] elt ρ1 (some y))
  (herr:∀ d k,f d=some (.er k)→∃ ρ1,bindT tgs tp d (frame (ownNames sc).length fr ρ)=some ρ1∧∀ (X':Cx) (S:Addr→Prop) (E1:XK) (C:Addr),XC CX X' { c with N:=ownNames sc,sc:=sc } G T lv→X'.K=X.K→T.xc k=some C→Passes CX X' E1→PE X' elt (fun σ H Q=>RE X'.K T H S ρ1 σ∧∀ H',Same H H'→E1 (.ref C) none H'))
  (hT:T.xc k=some Ck) (hE1:∀ H',Same H H'→E1 (.ref Ck) none H')
  (hpass:∀ (D C:Addr) (s3:Shared) (H3:Hp),Inv X pins σ H3 s3→s3.heap.objs.size≤C→(∀ b ∈ fp,FpOk X pins H3 b)→Passes CX (compX X (ownNames sc) sc cl C s3 H3 fp (notedBy (model X.prog X.w) X.A (compEnvC sc cl C X.env) fun e s'=>RR (.ref D) (compEnvC sc cl C X.env) (.error e) s')) E1) :
  wpAny (model X.prog X.w) X.A (newList []) (fun acc s₃=>wpAny (model X.prog X.w) X.A (newFunctionEnv sc X.env.globals cl [] X.env.qual none .none (some X.env)) (fun cenv s₄ =>
   codeAny (model X.prog X.w) X.A (.compStart (.ListComp elt [⟨tg,iter,[],0⟩] sc pos) 0 (.ref it) acc { cenv with scope:=relabel sc X.env }) (RR acc { cenv with scope:=relabel sc X.env }) s₄) E s₃) E s:=by
 refine wpAny_newObj_type (wpAny_newFunctionEnv cs.nocell (by intro y hy; simp at hy) (fun h₁ hns₁ hsb₁=>?_) cs.kind)
 dsimp only at hns₁ hsb₁ ⊢
 have I3:=I.lnew (t':=s.toks) (its:=[]) (ys:=[]) .nil (Nat.zero_le _)
 have hfl:∀ b ∈ fp,b<s.heap.objs.size:=fun b hb=>by
  obtain ⟨o,e,_⟩:=TU.obj _ _ st b hb
  exact Heap.lt_size e
 generalize hD:s.heap.objs.size=D at *
 generalize hs3:s.heap.push { cls:=.type "list",dict:=none,data:=.seq ([]:List Value).toArray }=h3 at *
 have hC:h3.objs.size=D+1:=by rw [← hs3,Heap.size_push,hD]
 generalize hCe:h3.objs.size=C at *
 have hDn:H D=none:=by rw [← hD]; exact I.hok.fresh (Nat.le_refl _)
 have hKD:X.K.lookup D=none:=by
  cases q:X.K.lookup D with
  | none=>rfl
  | some o =>
   have e:=I.kIn D o q
   exact absurd (Heap.lt_size e) (by rw [hD]; exact Nat.lt_irrefl _)
 have k3:∀ b o,s.heap.get? b=some o→h3.get? b=some o:=fun b o e=>by rw [← hs3]; exact Heap.get?_push_of_some _ e
 have k4:∀ b o,h3.get? b=some o→h₁.get? b=some o:=fun b o e=>hsb₁.extBut b o (by rw [← hCe]; exact Nat.ne_of_lt (Heap.lt_size e)) (Heap.get?_push_of_some _ e)
 have re3:RE X.K T (upd H D (.lst [])) (fun a=>S a∨a=D) ρ σ:=re.gen (Moves.add hDn hKD) (fun a xs hs e _=>⟨.inl hs,by rw [upd_ne (ne_of_none e hDn)]; exact e⟩) fun a hs=>by
  rcases hs with z|z
  ·obtain ⟨o,e⟩:=re.dom a z
   exact ⟨o,by rw [upd_ne (ne_of_none e hDn)]; exact e⟩
  ·subst z; exact ⟨_,upd_same⟩
 have hf3:∀ b ∈ fp,FpOk X pins (upd H D (.lst [])) b:=fun b hb=>⟨by rw [upd_ne (Nat.ne_of_lt (hfl b hb))]; exact (hf b hb).1,(hf b hb).2⟩
 have hfl3:∀ b ∈ fp,b<h3.objs.size:=fun b hb=>by rw [hCe,hC]; exact Nat.lt_succ_of_lt (hfl b hb)
 have loop:∀ (E':Value→Shared→Prop) (s4:Shared),s4 = { s with heap:=h₁,toks:=s.toks+([]:List (Str × Value)).length } →
   codeAny (model X.prog X.w) X.A (.compLoop (.ListComp elt [⟨tg,iter,[],0⟩] sc pos) 0 (.ref it) (.ref D) (compEnvC sc cl C X.env)) (RR (.ref D) (compEnvC sc cl C X.env)) s4:=by
  rintro E' s4 rfl
  let EN:=notedBy (model X.prog X.w) X.A (compEnvC sc cl C X.env) fun e s'=>RR (.ref D) (compEnvC sc cl C X.env) (.error e) s'
  let Y:=compX X (ownNames sc) sc cl C { s with heap:=h3,toks:=s.toks } (upd H D (.lst [])) fp EN
  have xY:XC CX Y { c with N:=ownNames sc,sc:=sc } G T lv:=compX_xc h cs
  have J0:Inv Y [] (frameV (ownNames sc).length fr σ) (upd H D (.lst [])) { s with heap:=h₁,toks:=s.toks+([]:List (Str × Value)).length }:=
   inv_comp h I3 cs hfr hcl hhas hf3 hfl3 (by show h3.objs.size≤C; rw [hCe]; exact Nat.le_refl _) hns₁ k4 rfl I3.bare
  have stat:∀ {H':Hp},(∀ b ∈ fp,H' b=none)→∀ b ∈ fp,FpOk Y [] H' b:=fun hn b hb =>
   ⟨hn b hb,((compX_ok (E:=EN) (N':=ownNames sc) I3 cs.kind (show h3.objs.size≤C by rw [hCe]; exact Nat.le_refl _) hcl hhas cs.nocell hf3 hfl3).exf b hb).1,
    (compX_ok (E:=EN) (N':=ownNames sc) I3 cs.kind (show h3.objs.size≤C by rw [hCe]; exact Nat.le_refl _) hcl hhas cs.nocell hf3 hfl3).exfs b hb,.inl hb,
    ((compX_ok (E:=EN) (N':=ownNames sc) I3 cs.kind (show h3.objs.size≤C by rw [hCe]; exact Nat.le_refl _) hcl hhas cs.nocell hf3 hfl3).exf b hb).2,fun p hp=>absurd (show p ∈ ([]:List (Addr × Obj)) from hp) (by simp)⟩
  have hn':∀ (σ':L2.St) (H':Hp),Same H H'→(∃ ys,H' D=some (.lst ys))→σ'.length=(ownNames sc).length→(∀ j,j ∉ tgs→σ'[j]?=(frameV (ownNames sc).length fr σ)[j]?) →
    RE X.K T H' (fun a=>S a∨a=D) (frame (ownNames sc).length fr ρ) σ':=fun σ' H' sm hys hl ag=>by
   have r0:=frame_re (n:=(ownNames sc).length) (fr:=fr) re
   have mv:Moves X.K H H' S (fun a=>S a∨a=D):=fun a n hh=>by
    have ne:a≠D:=by
     rintro rfl
     rcases hh with ⟨u,e⟩|⟨u,e⟩
     ·rw [hDn] at e; cases e
     ·rw [hKD] at e; cases e
    exact ⟨fun z=>z.elim n ne,fun o e=>sm a o e⟩
   refine ⟨fun a hs=>?_,by simp [frame,hl],fun j sl e=>?_⟩
   ·rcases hs with z|z
    ·obtain ⟨o,e⟩:=re.dom a z
     exact ⟨o,sm a o e⟩
    ·subst z
     obtain ⟨ys,e⟩:=hys
     exact ⟨_,e⟩
   ·have h0:=r0.at_ j sl e
    by_cases hj:j ∈ tgs
    ·have hu:sl=.un:=by
      unfold frame at e
      rw [List.getElem?_map] at e
      cases hr:(List.range (ownNames sc).length)[j]? with
      | none=>rw [hr] at e; cases e
      | some k =>
       have ek:k=j:=by
        obtain ⟨_,e'⟩:=List.getElem?_eq_some_iff.mp hr
        simpa using e'.symm
       subst ek
       rw [hr] at e
       simp only [Option.map_some,Option.some.injEq] at e
       have:=List.all_eq_true.mp htn k hj
       cases q:fr.lookup k with
       | none =>
        rw [q] at e
        simpa using e.symm
       | some z=>rw [q] at this; simp at this
     subst hu
     trivial
    ·rw [ag j hj]
     cases sl with
     | un=>trivial
     | im d=>obtain ⟨v,e1,r⟩:=h0; exact ⟨v,e1,Rep.gen mv d v r⟩
     | mu ds'=>obtain ⟨p,xs,e1,sp,hp,r⟩:=h0; exact ⟨p,xs,e1,.inl sp,sm _ _ hp,r.gen mv⟩
  have pY:Passes CX Y E1:=hpass D C { s with heap:=h3,toks:=s.toks } (upd H D (.lst [])) I3 (by show h3.objs.size≤C; rw [hCe]; exact Nat.le_refl _) hf3
  refine compLoop_any (fun n s'=>∃ (i:Nat) (σ':L2.St) (H':Hp) (ys:List V) (pre:List Z.D),n=ds.length+1-i∧i≤ds.length∧Inv Y [] σ' H' s'∧tn i s'.heap∧(∀ b ∈ fp,H' b=none) ∧
   Same H H'∧H' D=some (.lst ys)∧RepL X.K T H' (fun a=>S a∨a=D) pre ys∧ys.length≤i∧errGo f (ds.drop i)=some k ∧
   σ'.length=(ownNames sc).length∧(∀ j,j ∉ tgs→σ'[j]?=(frameV (ownNames sc).length fr σ)[j]?)) ?_ (ds.length+1)
   ⟨0,_,_,[],[],rfl,Nat.zero_le _,J0,TU.keep _ _ _ st fun b _ o e=>k4 b o (k3 b o e),fun b hb=>(hf3 b hb).1,Same.upd hDn,upd_same,RepL.nil,Nat.le_refl _,by simpa using hout,by simp [frameV],fun _ _=>rfl⟩
  rintro n s' ⟨i,σ',H',ys,pre,rfl,hi,IY,sti,fri,same,hHD,rp,hyl,hgo,hlσ,hag⟩
  have rei:=hn' σ' H' same ⟨ys,hHD⟩ hlσ hag
  have mv:Moves X.K H H' S (fun a=>S a∨a=D):=fun a n hh=>by
   have ne:a≠D:=by
    rintro rfl
    rcases hh with ⟨u,e⟩|⟨u,e⟩
    ·rw [hDn] at e; cases e
    ·rw [hKD] at e; cases e
   exact ⟨fun z=>z.elim n ne,fun o e=>same a o e⟩
  obtain ⟨it1,it2⟩:=itd H' _ mv rei.dom
  have hlt:i<ds.length:=by
   cases Nat.lt_or_ge i ds.length with
   | inl z=>exact z
   | inr z=>rw [List.drop_eq_nil_of_le z] at hgo; cases hgo
  obtain ⟨d,hd⟩:∃ d,ds[i]?=some d:=⟨ds[i],by simp [hlt]⟩
  have hdr:ds.drop i=d::ds.drop (i+1):=by
   obtain ⟨h1,h2⟩:=List.getElem?_eq_some_iff.mp hd
   rw [← h2]
   exact List.drop_eq_getElem_cons h1
  rw [hdr] at hgo
  obtain ⟨r,hfd,hrest⟩:=b_some hgo
  obtain ⟨go,yl⟩:=it1 i d hd
  refine thn (TU.item Y rfl rfl rfl h.calm i [] s' σ' H' EN IY (stat fri) sti go) fun r' s5 ⟨u,hr,h5⟩=>?_
  subst hr
  refine thn h5 fun _ s6 ⟨x,H6,I6,r6,y6,st6,fr6⟩=>?_
  obtain ⟨sm6,rd6⟩:=yl x H6 y6
  have I6':=I6.pinned (stat fr6) (TU.obj _ _ st6)
  have hD6:H6 D=some (.lst ys):=sm6 _ _ hHD
  cases r with
  | er k' =>
   cases (show some k'=some k from hrest)
   obtain ⟨ρ1,hb,hpe⟩:=herr d k hfd
   refine thn (pg_D xY (S:=fun a=>S a∨a=D) htg hb _ s6 σ' H6 x u (fun σ2 H2=>H2=H6∧RE X.K T H6 (fun a=>S a∨a=D) ρ1 σ2) I6' r6 ⟨rei.same sm6,rd6,fun σ7 re7 ag7=>⟨rfl,re7⟩⟩) fun _ s7 ⟨σ7,H7,I7,e7,re7⟩=>?_
   subst e7
   refine wpAny_tests_nil ?_
   rw [if_pos rfl]
   exact thn (hpe Y (fun a=>S a∨a=D) E1 Ck xY rfl hT pY _ s7 σ7 H7 (fun _ _=>False) I7 ⟨re7,fun H8 sm8=>hE1 H8 (same.trans (sm6.trans sm8))⟩) fun u9 s9 ⟨v,H9,I9,r9,z⟩=>z.elim
  | ok y =>
   have ht:errGo f (ds.drop (i+1))=some k:=hrest
   obtain ⟨ρ1,hb,hok⟩:=hstep d y hfd
   refine thn (pg_D xY (S:=fun a=>S a∨a=D) htg hb _ s6 σ' H6 x u (fun σ2 H2=>H2=H6∧RE X.K T H6 (fun a=>S a∨a=D) ρ1 σ2∧∀ j,j ∉ tgs→σ2[j]?=σ'[j]?) I6' r6
    ⟨rei.same sm6,rd6,fun σ7 re7 ag7=>⟨rfl,re7,ag7⟩⟩) fun _ s7 ⟨σ7,H7,I7,e7,re7,ag7⟩=>?_
   subst e7
   obtain ⟨_,helt⟩:=hok Y (fun a=>S a∨a=D) xY rfl
   refine wpAny_tests_nil ?_
   rw [if_pos rfl]
   have smH8:Same H H7:=same.trans sm6
   refine thn (helt y rfl _ s7 σ7 H7 (fun v H9=>Same H7 H9∧Rep X.K T H9 (fun a=>S a∨a=D) y v) I7 ⟨re7,fun v H9 sm9 rv=>⟨sm9,rv⟩⟩) fun u9 s9 ⟨v,H9,I9,r9,sm9,rv⟩=>?_
   have hD9:H9 D=some (.lst ys):=sm9 _ _ hD6
   refine thn (mt_append (X:=Y) _ s9 σ7 H9 (.ref D) [v] (.ref D) [u9] (fun _ H10=>H10=upd H9 D (.lst (ys++[v]))) I9 rfl (.cons r9 .nil) ⟨D,ys,v,rfl,rfl,hD9,by omega,rfl⟩) fun _ s10 ⟨_,H10,I10,_,e10⟩=>?_
   subst e10
   have smD:Same H (upd H9 D (.lst (ys++[v]))):=fun b ob e=>by
    rw [upd_ne (ne_of_none e hDn)]
    exact sm9 _ _ (smH8 _ _ e)
   have mvD:Moves X.K H9 (upd H9 D (.lst (ys++[v]))) (fun a=>S a∨a=D) (fun a=>S a∨a=D):=fun a n _=>⟨n,fun ob e=>by rw [upd_ne (fun z=>n (.inr z))]; exact e⟩
   refine ⟨ds.length+1-(i+1),by omega,i+1,σ7,_,ys++[v],pre++[y],rfl,hlt,I10.unpinned,?_,fun b hb=>?_,smD,upd_same,RepL.gen mvD _ _ (RepL.app ((rp.same sm6).same sm9) (RepL.cons rv RepL.nil)),by rw [List.length_append]; simp; omega,ht,I10.len,fun j hj=>(ag7 j hj).trans (hag j hj)⟩
   ·exact TU.keep _ _ _ st6 fun b hb o e=>(I10.pin (b,o) (List.mem_append_right _ (List.mem_append_right _ (mem_pinsAt hb e)))).1
   ·obtain ⟨o,e,_⟩:=TU.obj _ _ st6 b hb
    exact (I10.pin (b,o) (List.mem_append_right _ (List.mem_append_right _ (mem_pinsAt hb e)))).2.1
 exact codeAny_compStart_list (loop E _ rfl) (TU.self X.A 0 _ _ _ (TU.keep _ _ _ st fun b _ o e=>k4 b o (k3 b o e)) (loop E _ rfl))
theorem relabel_no {sc:Scope} {env:Env} (h:∀ x ∈ sc.names,x.2≠.free):relabel sc env=sc:=by
 obtain ⟨k,names,g,co,more⟩:=sc
 have h:∀ x ∈ names,x.2≠NameKind.free:=h
 have e:(names.map fun (p:Str × NameKind)=>if (p.2 == .free&&env.scope.kind == .function&&env.kindOf p.1 == some .cell) then (p.1,NameKind.cell) else (p.1,p.2))=names:=by
  refine (List.map_congr_left fun p hp=>?_).trans (List.map_id names)
  have:(p.2 == NameKind.free)=false:=by simpa using h p hp
  rw [this]; rfl
 show Scope.mk k (names.map fun (p:Str × NameKind)=>if (p.2 == .free&&env.scope.kind == .function&&env.kindOf p.1 == some .cell) then (p.1,NameKind.cell) else (p.1,p.2)) g co more=_
 rw [e]
theorem pe_compE (h:XC CX X c G T lv) (hf:X.env.frame=some X.env.locals) (hex:X.ex=[]) (hst:X.stack=X.env::X.outer) {sc:Scope} (chk:compOk c sc=true) (nof:∀ x ∈ sc.names,x.2≠.free) {tg iter elt:Expr} {pos:Pos} {fr:List (Nat × Nat)} {tgs:List Nat} {tp:Bool} {ρ:List Sl} {S:Addr→Prop} {ds:List D} {f:D→Option Rs} {k:Str} {Ck:Addr} {W:Hp→Prop}
  (hfr:freeOf c sc (sc.names.filter fun x=>x.2 == .free)=some fr) (htn:tgs.all (fun i=>(fr.lookup i).isNone)=true) (htg:targetN { c with N:=ownNames sc,sc:=sc } tg=some (tgs,tp))
  (hi:PI X tg iter (tI X.K T S ρ ds)) (hs:∀ x,foldedSetIterable iter X.env x=pure x)
  (hout:errGo f ds=some k) (hstep:∀ d y,f d=some (.ok y)→∃ ρ1,bindT tgs tp d (frame (ownNames sc).length fr ρ)=some ρ1∧TurnOk CX G T lv { c with N:=ownNames sc,sc:=sc } X.K [] elt ρ1 (some y))
  (herr:∀ d k,f d=some (.er k)→∃ ρ1,bindT tgs tp d (frame (ownNames sc).length fr ρ)=some ρ1∧∀ (X':Cx) (S:Addr→Prop) (E1:XK) (C:Addr),XC CX X' { c with N:=ownNames sc,sc:=sc } G T lv→X'.K=X.K→T.xc k=some C→Passes CX X' E1→PE X' elt (fun σ H Q=>RE X'.K T H S ρ1 σ∧∀ H',Same H H'→E1 (.ref C) none H'))
  (hT:T.xc k=some Ck) (hR:∀ (H':Hp) (B:Heap) (a:Addr) (a0:Value) (s':Shared),Hd X H' B a (.ref Ck) a0 s'→W H'→X.xe (.ref a) s') :
  PE X (.ListComp elt [⟨tg,iter,[],0⟩] sc pos) (fun σ H Q=>RE X.K T H S ρ σ∧∀ H',Same H H'→W H'):=by
 intro pins s σ H Q I ⟨re,q⟩
 have cs:=compScope chk
 rw [eval_ListComp]
 refine wpAny_comprehension rfl hs nof cs.kind cs.loc (thn (hi pins s σ H (fun J H2=>Same H H2∧ItD X.K T S H2 J ds∧ds.length≤sizeLine) I ⟨re,fun J H2 a b z=>⟨a,b,z⟩⟩) fun v s1 h1=>thn h1 fun itv s2 h2=>?_)
 obtain ⟨it,fp,tn,J,H2,e,I2,TU,st2,f2,sm,itd,hlen⟩:=h2
 subst e
 have key:=comp_blockE (RR:=fun acc cenv r s'=>∃ m,s'.heap.Ns cenv.locals m∧∀ h',Heap.SameBut cenv.locals s'.heap h'→match r with | .ok _=>EP X pins σ Q acc { s' with heap:=h' } | .error x=>wpAny (model X.prog X.w) X.A (PySem.passOn "comprehension.variables-let-go" x cenv) (EP X pins σ Q) X.xe { s' with heap:=h' }) (E:=X.xe) (pos:=pos) (iter:=iter) (cl:=[])
  (E1:=fun cls _ H'=>cls=.ref Ck∧Same H2 H') h cs hfr htn htg (fun x a z=>by cases z) (fun x hx=>absurd rfl (nof _ hx)) I2 (re.same sm) TU st2 f2 itd hlen hout hstep herr hT (fun H' sm'=>⟨rfl,sm'⟩)
  (fun D C s3 H3 I3 hC fpo=>comp_pass (Q:=EP X pins σ Q) (cenv:=compEnvC sc [] C X.env) h hf hex hst rfl I3 hC fpo rfl (fun H' B a cls a0 s' F ⟨ec,sm'⟩=>by subst ec; exact hR H' B a a0 s' F (q H' (sm.trans sm'))) (fun e s' hh=>hh))
 rw [relabel_no nof] at key
 exact key
end
end Z
namespace Z
open PySem PySem.Spec PyProof.Rows L2
variable {CX:CXT}{G:GS}{T:Tx}{lv:Nat}{X:Cx}{c:CC}{S₀:Addr→Prop}{H₀:Hp}{fr:Bool}{EX:Str→Hp→Prop}{pos:Pos}
theorem evR_ev {e:IE} {ρ:List Sl} {y:D} (h:evR G e ρ=some (.ok y)):ev G e ρ=some y:=by
 cases e<;>first|exact nomatch (show none=some (Rs.ok y) from h)|skip
 case call f es =>
  obtain ⟨ds,h1,h2⟩:=b_some (show (argsOf (ev G es ρ)).bind (G.fn f)=some (.ok y) from h)
  show (argsOf (ev G es ρ)).bind (fun as=>okOf (G.fn f as))=some y
  rw [h1]
  show okOf (G.fn f ds)=some y
  rw [h2]; rfl
 case meth o m es =>
  simp only [evR] at h
  split at h
  ·rename_i cn fs ho
   obtain ⟨h1,h⟩:=i_some h
   obtain ⟨as,h2,h3⟩:=b_some h
   show (ev G o ρ).bind _=some y
   rw [ho]
   show (if (fs.lookup m).isNone then (argsOf (ev G es ρ)).bind fun as=>okOf (G.me cn m (.obj cn fs::as)) else none)=some y
   rw [h1,h2]
   show okOf (G.me cn m (.obj cn fs::as))=some y
   rw [h3]; rfl
  ·cases h
theorem evX_tup {a b e:IE} {ρ:List Sl} {k:Str} (h:evX G (.tup (.cons a (.cons b (.cons e .nil)))) ρ=some k):∃ da db,ev G a ρ=some da∧ev G b ρ=some db∧evR G e ρ=some (.er k):=by
 obtain ⟨da,h1,h⟩:=b_some (show (ev G a ρ).bind _=some k from h)
 obtain ⟨db,h2,h⟩:=b_some h
 obtain ⟨o,h3,h⟩:=b_some h
 cases o with
 | ok y=>exact nomatch (show none=some k from h)
 | er k'=>cases (show some k'=some k from h); exact ⟨da,db,h1,h2,h3⟩
theorem st_retx (xc:XC CX X c G T lv) (xs:XS CX T X c EX) {n:Nat} {e:Expr} {ir:IE} (hx:retxE e=true) (he:cE n c e=some ir) (hfr:fr=true→freshE c e=true):PS X (.Return (some e) pos) (tSt X.K T S₀ H₀ fr EX G (.retx (freshE c e) ir)):=fun pins s σ H D I ⟨ρ,out,S,hex,si,po⟩=>by
 have hex:(match evs G ir ρ with|some d=>some (Out.rt d)|none=>(evX G ir ρ).bind fun k=>if G.xn k then some (.er k) else none)=some out:=hex
 cases hv:evs G ir ρ with
 | some d =>
  rw [hv] at hex
  cases hex
  exact st_ret xc he (fun z=>z) hfr pins s σ H D I ⟨ρ,.rt d,S,by show (evs G ir ρ).map Out.rt=_; rw [hv]; rfl,si,po⟩
 | none =>
  rw [hv] at hex
  obtain ⟨k,hk,hex⟩:=b_some hex
  obtain ⟨hxn,hex⟩:=i_some hex
  cases hex
  obtain ⟨C,hT⟩:=xc.go.xns k hxn
  cases n with
  | zero=>exact nomatch (show none=some ir from he)
  | succ n =>
  cases e<;>first|exact nomatch (show false=true from hx)|skip
  case Tuple es kk p _ =>
   obtain ⟨_,he⟩:=i_some (show (if few es then (cA n c es).map .tup else none)=some ir from he)
   obtain ⟨as,has,rfl⟩:=m_some he
   unfold retxE at hx
   split at hx
   ·rename_i a b fn px args kw cp kk' p' heq
    cases heq
    rcases n with _|_|_|n<;>first|exact nomatch (show none=some as from has)|skip
    ·obtain ⟨xa,ha,has⟩:=b_some has
     obtain ⟨ra,hra,rfl⟩:=m_some has
     exact nomatch (show none=some ra from hra)
    ·obtain ⟨xa,ha,has⟩:=b_some has
     obtain ⟨ra,hra,rfl⟩:=m_some has
     obtain ⟨xb,hb,hra⟩:=b_some hra
     obtain ⟨rb,hrb,rfl⟩:=m_some hra
     obtain ⟨xe,hxe,hrb⟩:=b_some hrb
     obtain ⟨rc,hrc,rfl⟩:=m_some hrb
     have hnil:rc=.nil:=by
      cases n with
      | zero=>exact nomatch (show none=some rc from hrc)
      | succ n=>cases (show some IE.nil=some rc from hrc); rfl
     subst hnil
     obtain ⟨da,db,h1,h2,h3⟩:=evX_tup hk
     have pa:=((ok_all (n+2)).1 X c S ρ a xa xc ha da h1).1
     have pb:=((ok_all (n+1)).1 X c S ρ b xb xc hb db h2).1
     have pc:=n_err (S:=S) (E1:=fun cls _ H'=>cls=.ref C∧EX k H') xc hxe h3 hT (xs.pss _ fun cls H' z=>⟨k,C,hT,z.1,z.2⟩)
     refine ps_ret (pe_tup (pa_cons pa (pa_cons pb (pa_cons pc pa_nil ?_) ?_) ?_)) pins s σ H D I ⟨si.re,fun va H1 s1 _=>⟨si.re.same s1,fun vb H2 s2 _=>⟨(si.re.same s1).same s2,fun H3 s3=>⟨rfl,po H3 (si.same.trans (s1.trans (s2.trans s3)))⟩⟩⟩⟩
     ·rfl
     ·exact (plainE hb).star X.env _
     ·exact (plainE ha).star X.env _
   ·rename_i heq; cases heq
   ·cases hx
  case ListComp elt gs sc p _ =>
   unfold retxE at hx
   split at hx
   ·rename_i heq; cases heq
   ·rename_i fn px args kw cp tg iter ia sc' p' heq
    cases heq
    have nof:∀ x ∈ sc.names,x.2≠.free:=fun x hm=>by
     have:=List.all_eq_true.mp hx x hm
     simpa using this
    obtain ⟨hE,hT',hB,hA,hI⟩:=ok_all (CX:=CX) (G:=G) (T:=T) (lv:=lv) n
    have he:(if ia=0 then rdComp c sc ⟨tg,iter,[],ia⟩ (cI n c iter) (cT n { c with N:=ownNames sc,sc:=sc }) (cE n { c with N:=ownNames sc,sc:=sc } (.Call (.Name fn px) args kw cp)) else none)=some ir:=he
    by_cases ha:ia=0
    ·subst ha
     rw [if_pos rfl] at he
     obtain ⟨⟨tgs,tp⟩,htg,he⟩:=b_some (show rdComp c sc ⟨tg,iter,[],0⟩ (cI n c iter) (cT n { c with N:=ownNames sc,sc:=sc }) (cE n { c with N:=ownNames sc,sc:=sc } (.Call (.Name fn px) args kw cp))=some ir from he)
     obtain ⟨⟨kk,src⟩,hkk,he⟩:=b_some he
     obtain ⟨test,htest,he⟩:=b_some he
     cases (show some (IE.lit (.bl true))=some test from htest)
     obtain ⟨el,hel,he⟩:=b_some he
     obtain ⟨fr',hfr',he⟩:=b_some he
     obtain ⟨hok,he⟩:=i_some he
     have tgk:TgOk kk tg:=trivial
     obtain ⟨ho1,ho2⟩:=and_t hok
     cases he
     obtain ⟨sv,hs,hk⟩:=b_some (show (ev G src ρ).bind (fun s=>(items kk s).bind fun ds=>errGo (fun d=>(bindT tgs tp d (frame (ownNames sc).length fr' ρ)).bind fun ρ1=>evR G el ρ1) ds)=some k from hk)
     obtain ⟨ds,hds,hk⟩:=b_some hk
     obtain ⟨hi,hset⟩:=hI X _ S ρ iter kk src xc hkk sv ds hs hds
     refine ps_ret (pe_compE (W:=fun H'=>EX k H') xc xs.frm xs.exn xs.stk ho1 nof hfr' ho2 htg (hi tg tgk) hset hk (fun d y hy=>?_) (fun d k' hy=>?_) hT (fun H' B a a0 s' F w=>xs.hld H' B a k C a0 s' hT w F)) pins s σ H D I ⟨si.re,fun H' sm=>po H' (si.same.trans sm)⟩
     ·obtain ⟨ρ1,h1,h2⟩:=b_some hy
      exact ⟨ρ1,h1,fun X' S' xc' hK=>⟨.inl ⟨rfl,rfl⟩,fun z e=>by cases e; exact (hE X' _ S' ρ1 _ el xc' hel _ (evR_ev h2)).1⟩⟩
     ·obtain ⟨ρ1,h1,h2⟩:=b_some hy
      exact ⟨ρ1,h1,fun X' S' E1 C' xc' hK hT2 hp=>n_err xc' hel h2 hT2 hp⟩
    ·exact nomatch (show none=some ir from (if_neg ha).symm.trans he)
   ·cases hx
end Z
namespace Z
open PySem PySem.Spec PyProof.Rows L2
variable {CX:CXT}{G:GS}{T:Tx}{lv:Nat}{X:Cx}{c:CC}{S₀:Addr→Prop}{H₀:Hp}{fr:Bool}{EX:Str→Hp→Prop}{pos:Pos}
def OkSt (CX:CXT) (G:GS) (T:Tx) (lv:Nat) (S₀:Addr→Prop) (H₀:Hp) (fr:Bool) (EX:Str→Hp→Prop) (n:Nat):Prop:=∀ (X:Cx) (c:CC) (st:Stmt) (is:IS),XC CX X c G T lv→XS CX T X c EX→cS n c st=some is→(fr=true→frOk is=true)→PS X st (tSt X.K T S₀ H₀ fr EX G is)
def OkSs (CX:CXT) (G:GS) (T:Tx) (lv:Nat) (S₀:Addr→Prop) (H₀:Hp) (fr:Bool) (EX:Str→Hp→Prop) (n:Nat):Prop:=∀ (X:Cx) (c:CC) (st:List Stmt) (is:IS),XC CX X c G T lv→XS CX T X c EX→cSs n c st=some is→(fr=true→frOk is=true)→PSs X st (tSt X.K T S₀ H₀ fr EX G is)
theorem retP_some {s:Stmt} {x:Option Expr × Pos} (h:retP s=some x):s=.Return x.1 x.2:=by
 cases s<;>first|exact nomatch (show none=some x from h)|(cases (show some _=some x from h); rfl)
theorem exP_some {s:Stmt} {x:Expr × Pos} (h:exP s=some x):s=.Expr x.1 x.2:=by
 cases s<;>first|exact nomatch (show none=some x from h)|(cases (show some _=some x from h); rfl)
theorem appP_some {c:CC} {e:Expr} {q:Nat × Expr} (h:appP c e=some q):∃ x p1 p2 p,e=.Call (.Attribute (.Name x p1) "append" p2) [q.2] [] p∧slotOf c x=some q.1∧(p2.endLine == p.line)=true:=by
 obtain ⟨r,h1,h⟩:=b_some h
 obtain ⟨g,h2,h⟩:=b_some h
 obtain ⟨j,h3,h⟩:=b_some h
 obtain ⟨a,h4,h⟩:=b_some h
 obtain ⟨h5,h⟩:=i_some h
 obtain ⟨h5,h7⟩:=and_t h5
 obtain ⟨h5,h6⟩:=and_t h5
 cases h
 obtain ⟨x,p1,e3,hs⟩:=muName_at h3
 refine ⟨x,p1,g.2.2,r.2.2.2,?_,hs,h7⟩
 rw [callP_some h1,attrP_some h2,one_some h4,emp_t h5,e3,beq_iff_eq.mp h6]
theorem st_dropx {n:Nat} (xc:XC CX X c G T lv) (xs:XS CX T X c EX) {e:Expr} {is:IS} (h:rdDrop (cE n c) c e=some is):PS X (.Expr e pos) (tSt X.K T S₀ H₀ fr EX G is):=by
 obtain ⟨r,hr,h⟩:=b_some h
 obtain ⟨u,hu,rfl⟩:=m_some h
 obtain rfl:=callP_some hr
 exact st_drop xc xs hu
theorem st_asg {n:Nat} (xc:XC CX X c G T lv) (xs:XS CX T X c EX) {t e:Expr} {is:IS} (h:rdAsg (cE n c) c e t=some is):PS X (.Assign [t] e pos) (tSt X.K T S₀ H₀ fr EX G is):=by
 cases t<;>first|exact nomatch (show none=some is from h)|skip
 case Name x p =>
  obtain ⟨i,hx,h⟩:=b_some h
  unfold rdAsgN at h
  split at h
  ·split at h
   ·rename_i hz
    cases h
    unfold isDict0 at hz
    split at hz
    ·exact st_setd xc hx
    ·cases hz
   ·obtain ⟨hf,h⟩:=i_some h
    obtain ⟨y,hy,rfl⟩:=m_some h
    exact st_setm xc hx hy hf
  ·obtain ⟨y,hy,rfl⟩:=m_some h
   exact st_set xc hx hy
 case Subscript a i p =>
  obtain ⟨j,hj,h⟩:=b_some h
  obtain ⟨k,hkk,h⟩:=b_some h
  obtain ⟨y,hy,rfl⟩:=m_some h
  obtain ⟨x,p1,rfl,hs⟩:=muName_at hj
  exact st_put xc hs hkk hy
 case Tuple ts k p =>
  have h:rdTupA (cE n c) c ts e=some is:=h
  unfold rdTupA at h
  cases ht:tupP e with
  | some q =>
   rw [ht] at h
   exact nomatch (show none=some is from h)
  | none =>
   rw [ht] at h
   obtain ⟨is',his,h⟩:=b_some h
   obtain ⟨u,hu,rfl⟩:=m_some h
   refine st_sett xc his hu fun vs k p z=>?_
   subst z
   exact nomatch (show some _=none from ht)
theorem st_rdR {n:Nat} (xc:XC CX X c G T lv) (xs:XS CX T X c EX) {e:Expr} {is:IS} (h:rdR (cE n c) c e=some is) (hfr:fr=true→frOk is=true):PS X (.Return (some e) pos) (tSt X.K T S₀ H₀ fr EX G is):=by
 obtain ⟨y,hy,e0⟩:=m_some h
 subst e0
 cases hx:retxE e with
 | true =>
  rw [hx] at hfr
  exact st_retx xc xs hx hy hfr
 | false =>
 rw [hx] at hfr
 exact st_ret xc hy (fun z=>z) fun z=>hfr z
theorem okSt_succ {n:Nat} (hS:OkSs CX G T lv S₀ H₀ fr EX n):OkSt CX G T lv S₀ H₀ fr EX (n+1):=by
 intro X c st is xc xs h hfr
 cases st<;>first|exact nomatch (show none=some is from h)|skip
 case Pass q=>cases (show some IS.nop=some is from h); exact st_pass
 case Return v q =>
  cases v with
  | none=>cases (show some IS.retn=some is from h); exact st_retn
  | some e =>
   have h:(match muName c e with|some i=>some (IS.retm i)|none=>rdR (cE n c) c e)=some is:=h
   cases hm:muName c e with
   | some i =>
    rw [hm] at h
    cases h
    obtain ⟨x,p,rfl,hs⟩:=muName_at hm
    exact st_retm xc hs
   | none =>
    rw [hm] at h
    exact st_rdR xc xs h hfr
 case Assign ts e q =>
  obtain ⟨t,ht,h⟩:=b_some h
  obtain rfl:=one_some ht
  exact st_asg xc xs h
 case If t a b q =>
  obtain ⟨u,hu,h⟩:=b_some h
  obtain ⟨v,hv,h⟩:=b_some h
  obtain ⟨w,hw,rfl⟩:=m_some h
  have hf2:fr=true→frOk v=true∧frOk w=true:=fun z=>and_t (hfr z)
  exact st_if xc hu (hS X _ a v xc xs hv fun z=>(hf2 z).1) (hS X _ b w xc xs hw fun z=>(hf2 z).2)
 case For tg iter body els q =>
  obtain ⟨he,h⟩:=i_some h
  obtain rfl:=emp_t he
  obtain ⟨⟨tgs,tp⟩,htg,h⟩:=b_some h
  obtain ⟨⟨k,src⟩,hk,h⟩:=b_some h
  obtain ⟨hen,h⟩:=i_some h
  have htk:TgOk k tg:=tgok_of htg hen
  obtain ⟨v,hv,rfl⟩:=m_some h
  exact st_for xc xs htg hk htk (hS X _ body v xc xs hv fun z=>hfr z)
 case Expr e q =>
  have h:(match appP c e with|some q=>(cE n c q.2).map fun x=>IS.app q.1 x|none=>rdDrop (cE n c) c e)=some is:=h
  cases ha:appP c e with
  | some r =>
   rw [ha] at h
   obtain ⟨u,hu,rfl⟩:=m_some h
   obtain ⟨x,p1,p2,p,rfl,hs,hp⟩:=appP_some ha
   exact st_app xc hs hp hu
  | none =>
   rw [ha] at h
   exact st_dropx xc xs h
 case Raise e f q =>
  obtain ⟨e',he,h⟩:=b_some h
  obtain ⟨r,h1,h⟩:=b_some h
  obtain ⟨x,h2,h⟩:=b_some h
  obtain ⟨a,h3,h⟩:=b_some h
  obtain ⟨m,h4,h⟩:=b_some h
  obtain ⟨h5,h⟩:=i_some h
  obtain ⟨h5,h8⟩:=and_t h5
  obtain ⟨h5,h7⟩:=and_t h5
  obtain ⟨h5,h6⟩:=and_t h5
  cases h
  obtain ⟨j,p',ea⟩:=strC_some h4
  rw [he,Option.isNone_iff_eq_none.mp h5,callP_some h1,nameP_some h2,one_some h3,emp_t h6,ea]
  exact st_rse xs h7 h8
 case Try b hs els fin q =>
  obtain ⟨h0,h⟩:=i_some h
  obtain ⟨h1,h2⟩:=and_t h0
  obtain rfl:=emp_t h1
  obtain rfl:=emp_t h2
  match hs,h with
  | [.ExceptHandler ty nm body hp],h =>
   obtain ⟨s,a1,h⟩:=b_some h
   obtain ⟨e,a2,h⟩:=b_some h
   obtain ⟨r,a3,h⟩:=b_some h
   obtain ⟨ty',a4,h⟩:=b_some h
   obtain ⟨x,a5,h⟩:=b_some h
   obtain ⟨s',a6,h⟩:=b_some h
   obtain ⟨re,a7,h⟩:=b_some h
   obtain ⟨re',a8,h⟩:=b_some h
   obtain ⟨hg,h⟩:=i_some h
   obtain ⟨i,hi,h⟩:=b_some h
   obtain ⟨rr,hr,h⟩:=b_some h
   obtain ⟨u,hu,rfl⟩:=m_some h
   have e3:=callP_some a3
   rw [e3] at hu
   rw [one_some a1,exP_some a2,a4,nameP_some a5,one_some a6,retP_some a7,a8,e3]
   exact st_try xc xs hg hi hr hu
theorem okSs_succ {n:Nat} (hS:OkSt CX G T lv S₀ H₀ fr EX n) (hR:OkSs CX G T lv S₀ H₀ fr EX n):OkSs CX G T lv S₀ H₀ fr EX (n+1):=by
 intro X c st is xc xs h hfr
 rcases st with _|⟨s,_|⟨s2,r⟩⟩
 ·cases (show some IS.nop=some is from h)
  exact st_nil
 ·exact pss_one (hS X c s is xc xs h hfr)
 ·obtain ⟨u,hu,h⟩:=b_some h
  obtain ⟨v,hv,rfl⟩:=m_some h
  have hf2:fr=true→frOk u=true∧frOk v=true:=fun z=>and_t (hfr z)
  exact st_seq (hS X c s u xc xs hu fun z=>(hf2 z).1) (hR X c (s2::r) v xc xs hv fun z=>(hf2 z).2)
theorem okS_all:∀ n,OkSt CX G T lv S₀ H₀ fr EX n∧OkSs CX G T lv S₀ H₀ fr EX n
 | 0=>⟨fun X c st is xc xs h=>(nomatch (show none=some is from h)),fun X c st is xc xs h=>(nomatch (show none=some is from h))⟩
 | n+1=>⟨okSt_succ (okS_all n).2,okSs_succ (okS_all n).1 (okS_all n).2⟩
end Z
namespace Z
open PySem PySem.Spec PyProof.Rows L2
variable {CX:CXT}{G:GS}{T:Tx}{lv:Nat}
noncomputable def startS (n:Nat) (ds:List D):List Sl:=ds.map .im++List.replicate (n-ds.length) .un
theorem start_re {K:PySem.W.Frag} {H:Hp} {S:Addr→Prop} {N:List Str} {ds:List D} {vs:List V} (dom:∀ a,S a→∃ o,H a=some o) (rl:RepL K T H S ds vs):SInv K T S H S (startS N.length ds) (L2.start N vs) H:=by
 have hl:=rl.len
 have nomu:∀ (i:Nat) xs,(startS N.length ds)[i]?≠some (.mu xs):=fun i xs e=>by
  unfold startS at e
  by_cases h:i<(ds.map Sl.im).length
  ·rw [List.getElem?_append_left h,List.getElem?_map] at e
   cases h2:ds[i]? with
   | none=>rw [h2] at e; cases e
   | some d=>rw [h2] at e; cases e
  ·rw [List.getElem?_append_right (by omega),List.getElem?_replicate] at e
   split at e<;>cases e
 refine ⟨⟨dom,by simp [startS,L2.start,hl],fun i s e=>?_⟩,dom,fun _ z=>z,Same.refl H,fun i j xs ys p h=>absurd h (nomu i xs),fun i xs p h=>absurd h (nomu i xs)⟩
 unfold startS at e
 unfold L2.start
 by_cases h:i<(ds.map Sl.im).length
 ·rw [List.getElem?_append_left h,List.getElem?_map] at e
  cases h2:ds[i]? with
  | none=>rw [h2] at e; cases e
  | some d =>
   rw [h2] at e
   cases e
   obtain ⟨v,h3,r⟩:=rl.get h2
   exact ⟨v,by rw [List.getElem?_append_left (by rw [List.length_map] at h ⊢; omega),List.getElem?_map,h3]; rfl,r⟩
 ·rw [List.getElem?_append_right (by omega),List.getElem?_replicate] at e
  split at e
  ·cases e; trivial
  ·cases e
theorem kindOk_refl (k:Option NameKind):KindOk k k:=by
 cases k with
 | none=>trivial
 | some k=>cases k<;>first|rfl|trivial|exact .inl rfl
noncomputable def defOk (c:CC) (sc:Scope):Bool:=c.N.all (fun x=>!(x == ("__debug__":Str))&&!(x == ("__classdict__":Str)))&&!(isGlob c "__debug__")
theorem xc_def {P:Program} {w:World} {K:PySem.W.Frag} {mg:Str→Option Value} {base:Heap} {N ps:List Str} {qual:Str} {sc:Scope} {f:Addr} {cd:Value} {A:Around} {outer:List Env} {s:Shared} {H:Hp} {E:XK} {c:CC} (hN:c.N=N) (hsc:c.sc=sc) (fs:FnScope N ps sc) (hk:defOk c sc=true)
  (hr:Room lv (A.deeper (envOfC qual sc s.heap.objs.size f cd))) (go:GOK CX (cxOf CX P w K mg base N qual sc f cd A outer s H E).nox c G T lv):XC CX (cxOf CX P w K mg base N qual sc f cd A outer s H E).nox c G T lv:=by
 unfold defOk at hk
 rw [Bool.and_eq_true,List.all_eq_true] at hk
 refine ⟨hN.symm,by rw [hN]; exact fs.nd,fun x=>?_,fun _ _=>rfl,fun x hx=>?_,?_,rfl,hr,go⟩
 ·rw [hsc]; exact kindOk_refl _
 ·have:=hk.1 x hx
  simpa using this
 ·simpa using hk.2
theorem fn_D {P:Program} {w:World} {K:PySem.W.Frag} {mg:Str→Option Value} {base:Heap} {x qual:Str} {st:Stmt} {f:Addr} {fd:FuncData} {N ps:List Str} {c:CC} {n:Nat} {ir:IS} {fr:Bool} (F:Fun K x qual st f fd) (fs:FnScope N ps (defScope st)) (hN:c.N=N) (hsc:c.sc=defScope st) (hk:defOk c (defScope st)=true)
  (hir:cSs n c (defBody st)=some ir) (hfr:fr=true→frOk ir=true)
  (go:∀ (X:Cx),X.prog=P→X.w=w→X.K=K→X.mg=mg→X.base=base→GOK (FlyX P w) X c G T lv):FnOk P w K mg base (FlyX P w) (lv+1) f fd ps (spD K T ps.length (fun ds=>runF G N.length ir ds) fr):=by
 obtain ⟨oc,od,kV,doc,pm,an,cdv,ct,osl,rfl,lk,hcd⟩:=F.ex
 refine fn_of lk hcd fs (fun vs H Q E h=>h.1) fun A outer s H vs Q E hr hsp=>?_
 obtain ⟨hlen,S,ds,dom,rl,hcase⟩:=hsp
 have xc:XC (FlyX P w) (cxOf (FlyX P w) P w K mg base N qual (defScope st) f cdv A outer s H E) c G T lv:=(xc_def (CX:=FlyX P w) (E:=E) (P:=P) (w:=w) (mg:=mg) (base:=base) (outer:=outer) (s:=s) (H:=H) (f:=f) (cd:=cdv) (qual:=qual) hN hsc fs hk hr (go _ rfl rfl rfl rfl rfl)).re rfl rfl rfl rfl rfl rfl rfl rfl rfl rfl
 have xs:XS (FlyX P w) T (cxOf (FlyX P w) P w K mg base N qual (defScope st) f cdv A outer s H E) c (fun k H'=>∃ C,T.xc k=some C∧E (.ref C) none H'):=by
  refine ⟨fs.kind,PassesOwn.leaving,fun y m j p p' q pos hg hc=>?_,fun E1 h1=>pass_on fun cls H' z=>?_,rfl,rfl,rfl,fun H' B a k C a0 s' hT ⟨C',hT',hE⟩ F=>held_on F (by rw [hT] at hT'; cases hT'; exact hE)⟩
  ·rintro pins s1 σ H1 D I ⟨C,hT,hE⟩
   exact ps_raise (W:=fun H'=>E (.ref C) none H') rfl (xc.glob hg) (xc.gne hg) (xc.go.xcl y C hT) (xc.go.xk y C hT) (fun pins σ H s h' e vs I hm hE=>leave_made I hm hE) pins s1 σ H1 D I hE
  ·obtain ⟨k,C,hT,rfl,C',hT',hE⟩:=h1 cls H' z
   rw [hT] at hT'
   cases hT'
   exact hE
 refine ⟨_,(okS_all (S₀:=S) (H₀:=H) (fr:=fr) n).2 _ c _ ir xc xs hir hfr,?_⟩
 have hs:startS N.length ds=ds.map .im++List.replicate (N.length-ds.length) .un:=rfl
 rcases hcase with ⟨d,hd,q⟩|⟨e,C,he,hT,q⟩
 ·dsimp only at hd
  unfold runF at hd
  rw [← hs] at hd
  split at hd
  ·rename_i d' ho
   cases hd
   exact ⟨_,_,S,ho,start_re dom rl,fun v H' sm r fr'=>q v H' sm r fr'⟩
  ·rename_i ρ' ho
   cases hd
   exact ⟨_,_,S,ho,start_re dom rl,fun S' σ' H' si mv=>q .non H' si.same (by unfold Rep; rfl) fun _ ds' z=>by cases z⟩
  ·cases hd
  ·cases hd
 ·dsimp only at he
  unfold runF at he
  rw [← hs] at he
  split at he
  ·cases he
  ·cases he
  ·rename_i k ho
   cases he
   exact ⟨_,_,S,ho,start_re dom rl,fun H' sm=>⟨C,hT,q H' sm⟩⟩
  ·cases he
end Z
namespace Z
open PySem PySem.Spec PyProof.Rows L2
structure Nm where
 fns:List Str
 cls:List Str
 csts:List Str
 fresh:List Str
noncomputable def Nm.cc (m:Nm) (N:List Str) (sc:Scope) (mus:List Str):CC:=⟨N,sc,m.fns,m.cls,m.csts,mus,m.fresh⟩
def MOk (P:Program) (w:World) (K:PySem.W.Frag) (mg:Str→Option Value) (base:Heap) (CX:CXT) (m:Nm) (G:GS) (T:Tx) (lv:Nat):Prop:=
 ∀ (X:Cx) (c:CC),X.prog=P→X.w=w→X.K=K→X.mg=mg→X.base=base→c.fns=m.fns→c.cls=m.cls→c.csts=m.csts→c.fresh=m.fresh→GOK CX X c G T lv
noncomputable def Nm.addF (m:Nm) (x:Str) (fr:Bool):Nm:={ m with fns:=x::m.fns,fresh:=if fr then x::m.fresh else m.fresh }
noncomputable def GS.addF (G:GS) (x:Str) (g:List D→Option Rs) (fr:Bool):GS:={ G with fn:=fun y=>if y=x then g else G.fn y,ff:=fun y=>if y=x then fr else G.ff y,mf:=fun cn y=>if y=x then fr else G.mf cn y }
section
variable {P:Program}{w:World}{K:PySem.W.Frag}{mg:Str→Option Value}{base:Heap}{CX:CXT}{m:Nm}{G:GS}{T:Tx}{lv:Nat}
theorem contains_cons {x y:Str} {l:List Str}:(x::l).contains y=true→y=x∨l.contains y=true:=fun h=>by
 rw [List.contains_cons,Bool.or_eq_true,beq_iff_eq] at h
 exact h
theorem MOk.addF (h:MOk P w K mg base CX m G T lv) {x:Str} {f:Addr} {fd:FuncData} {ps:List Str} {g:List D→Option Rs} {fr:Bool} (hn:m.fns.contains x=false) (hme:∀ cn ds,G.me cn x ds=none) (hnf:m.fresh.contains x=false)
  (hm:mg x=some (.ref f)) (hk:PySem.W.keepIn K (.ref f)=true) (hb:Binds K fd ps []) (hl:∀ ds r,g ds=some r→ds.length=ps.length) (F:FnOk P w K mg base CX (lv+1) f fd ps (spD K T ps.length g fr)) :
  MOk P w K mg base CX (m.addF x fr) (G.addF x g fr) T (lv+1):=by
 intro X c e1 e2 e3 e4 e5 e6 e7 e8 e9
 subst e1 e2 e3 e4 e5
 have o:=h X { c with fns:=m.fns,fresh:=m.fresh } rfl rfl rfl rfl rfl rfl e7 e8 rfl
 refine ⟨fun y hy=>?_,fun cn C mm ds r hT hr=>?_,o.cls,o.fld,fun y hy ds d hd=>?_,fun y d hd hc=>o.cst y d hd hc,fun y hy h1 h2=>?_,o.xcl,fun y hy=>?_,o.cx0,o.cxf,o.xns,o.xk,o.sub,fun f k x C h1 h2=>let ⟨a,b,c,j,d,e⟩:=o.wd f k x C h1 h2; ⟨a,b,c,j,Nat.le_succ_of_le d,e⟩,o.dk⟩
 ·rw [e6] at hy
  by_cases e:y=x
  ·subst e
   refine ⟨f,fd,ps,hm,hk,hb,?_,?_⟩
   ·intro ds r hr
    simp only [GS.addF,if_true] at hr
    exact hl ds r hr
   ·simp only [GS.addF,if_true]
    exact F
  ·rcases contains_cons hy with z|z
   ·exact absurd z e
   ·obtain ⟨f',fd',ps',a1,a2,a3,a4,a5⟩:=o.fn y z
    refine ⟨f',fd',ps',a1,a2,a3,?_,?_⟩
    ·intro ds r hr
     simp only [GS.addF,if_neg e] at hr
     exact a4 ds r hr
    ·simp only [GS.addF,if_neg e]
     exact a5.mono (Nat.le_succ _)
 ·have hne:mm≠x:=by
   rintro rfl
   have:G.me cn mm ds=some r:=hr
   rw [hme] at this; cases this
  obtain ⟨f',fd',ps',a1,a2,a3,a4⟩:=o.me cn C mm ds r hT hr
  refine ⟨f',fd',ps',a1,a2,a3,?_⟩
  simp only [GS.addF,if_neg hne]
  exact a4.mono (Nat.le_succ _)
 ·obtain ⟨C,f',fd',ps',j,a1,a2⟩:=o.mo y hy ds d hd
  exact ⟨C,f',fd',ps',j,Nat.le_succ_of_le a1,a2⟩
 ·refine o.bi y hy ?_ h2
  rw [e6] at h1
  rw [Nm.addF,List.contains_cons,Bool.or_eq_false_iff] at h1
  exact h1.2
 ·rw [e9] at hy
  by_cases e:y=x
  ·subst e
   cases hfr:fr with
   | true=>exact ⟨by simp [GS.addF],fun cn=>by simp [GS.addF]⟩
   | false =>
    exfalso
    rw [hfr] at hy
    have:m.fresh.contains y=true:=hy
    rw [hnf] at this; cases this
  ·have:m.fresh.contains y=true:=by
    unfold Nm.addF at hy
    simp only at hy
    split at hy
    ·rcases contains_cons hy with z|z
     ·exact absurd z e
     ·exact z
    ·exact hy
   obtain ⟨b1,b2⟩:=o.frs y this
   exact ⟨by simp only [GS.addF,if_neg e]; exact b1,fun cn=>by simp only [GS.addF,if_neg e]; exact b2 cn⟩
theorem len_of {n:Nat} {o:Option Rs} {r:Rs} {ds:List D} (h:(if ds.length=n then o else none)=some r):ds.length=n:=by
 by_cases e:ds.length=n
 ·exact e
 ·rw [if_neg e] at h; cases h
theorem MOk.defF (h:MOk P w K mg base (FlyX P w) m G T lv) {x:Str} {st:Stmt} {f:Addr} {fd:FuncData} {N ps mus:List Str} {n:Nat} {ir:IS} {fr:Bool} (hn:m.fns.contains x=false) (hme:∀ cn ds,G.me cn x ds=none) (hnf:m.fresh.contains x=false) (hm:mg x=some (.ref f)) (hb:Binds K fd ps [])
  (F:Fun K x x st f fd) (fs:FnScope N ps (defScope st)) (hk:defOk (m.cc N (defScope st) mus) (defScope st)=true) (hir:cSs n (m.cc N (defScope st) mus) (defBody st)=some ir) (hfr:fr=true→frOk ir=true) :
  MOk P w K mg base (FlyX P w) (m.addF x fr) (G.addF x (fun ds=>if ds.length=ps.length then runF G N.length ir ds else none) fr) T (lv+1):=by
 refine h.addF hn hme hnf hm F.kp hb (fun ds r hr=>len_of hr) ?_
 have G1:=fn_D (P:=P) (w:=w) (mg:=mg) (base:=base) (T:=T) (lv:=lv) F fs (c:=m.cc N (defScope st) mus) rfl rfl hk hir hfr (fun X a1 a2 a3 a4 a5=>h X _ a1 a2 a3 a4 a5 rfl rfl rfl rfl)
 refine ⟨fun vs H Q E h=>h.1,fun A outer s H args us vs Q E hr e0 hbt hv hsp=>G1.run A outer s H args us vs Q E hr e0 hbt hv ?_⟩
 obtain ⟨h1,S,ds,dom,rl,hc⟩:=hsp
 refine ⟨h1,S,ds,dom,rl,?_⟩
 have el:ds.length=ps.length:=by rw [rl.len]; exact h1
 dsimp only at hc
 rw [if_pos el] at hc
 exact hc
end
end Z
namespace Z
open PySem PySem.Spec PyProof.Rows L2
variable {CX:CXT}{G:GS}{T:Tx}{lv:Nat}{X:Cx}{c:CC}
structure IInv (K:PySem.W.Frag) (T:Tx) (S:Addr→Prop) (H₀:Hp) (C p dx:Addr) (ρ:List Sl) (fs:List (Str × D)) (σ:L2.St) (H:Hp):Prop where
 re:RE K T H S ρ σ
 sp:S p
 self:σ[0]?=some (some (.ref p))
 at_:∃ gs,H p=some (.ins C dx gs)∧RepF K T H S fs gs
 keep:∀ b o,b≠p→H₀ b=some o→H b=some o
end Z
namespace Z
open PySem PySem.Spec PyProof.Rows L2
variable {CX:CXT}{G:GS}{T:Tx}{lv:Nat}
def CstOk (K:PySem.W.Frag) (T:Tx) (mg:Str→Option Value) (x:Str) (d:D):Prop:=∃ u v,mg x=some u∧RelV v u∧∀ (H:Hp) (S:Addr→Prop),(∀ a o,K.lookup a=some o→H a=none)→(∀ a,S a→∃ o,H a=some o)→Rep K T H S d v
theorem cst_int {K:PySem.W.Frag} {mg:Str→Option Value} {x:Str} {i:Int} {t:Tok} (h:mg x=some (.int i t)):CstOk K T mg x (.int i):=⟨_,.int i,h,⟨t,rfl⟩,fun H S _ _=>by unfold Rep; rfl⟩
theorem cst_tup {K:PySem.W.Frag} {mg:Str→Option Value} {x:Str} {a:Addr} {ds:List D} {xs:List V} (h:mg x=some (.ref a)) (hs:∀ H,SqT K H a xs) (hk:∃ o,K.lookup a=some o) (hd:∀ H S,RepL K T H S ds xs):CstOk K T mg x (.tup ds):=⟨_,.ref a,h,rfl,fun H S h1 h2=>by
 unfold Rep
 refine ⟨a,xs,rfl,fun z=>?_,hs H,hd H S⟩
 obtain ⟨o,e⟩:=h2 a z
 obtain ⟨u,e2⟩:=hk
 rw [h1 a u e2] at e; cases e⟩
noncomputable def G0 (csts:List (Str × D)) (fl:Str→List Str) (sub:Str→Str→Bool) (xn:Str→Bool) (wd:Str→Str→Option Str) (dks:List (Str × List (Str × D)):=[]):GS:={ fn:=fun _ _=>none,ff:=fun _=>false,me:=fun _ _ _=>none,mf:=fun _ _=>false,mo:=fun _ _=>none,cst:=fun x=>csts.lookup x,sub:=sub,fl:=fl,xn:=xn,wd:=wd,dk:=fun x=>dks.lookup x }
theorem mok0 {P:Program} {w:World} {K:PySem.W.Frag} {mg:Str→Option Value} {base:Heap} {cls:List Str} {csts:List (Str × D)} {fl:Str→List Str} {sub:Str→Str→Bool} {xn:Str→Bool} {wd:Str→Str→Option Str} {dks:List (Str × List (Str × D))} (hc:∀ x d,csts.lookup x=some d→CstOk K T mg x d) (hcl:∀ cn C,T.cl cn=some C→Cls K C) (hfl:∀ cn C f,T.cl cn=some C→(fl cn).contains f=true→NoAttr K C f)
  (hbi:∀ x,biNames.contains x=true→mg x=none) (hx:∀ x C,T.xc x=some C→mg x=some (.ref C)) (hxn:∀ k,xn k=true→∃ C,T.xc k=some C) (hxk:∀ k C,T.xc k=some C→PySem.W.excIn K C bmV "ValueError.__new__" = true)
  (hsub:∀ k k' C C',T.xc k=some C→T.xc k'=some C'→sub k k'=true→mroHas K C (.ref C')=true)
  (hwd:∀ f k x C,T.xc k=some C→wd f k=some x→∃ fa fd ps j,j≤lv∧mg f=some (.ref fa)∧PySem.W.keepIn K (.ref fa)=true∧Binds K fd ps []∧FnM P w K mg base j fa fd ps (spW C x)) (hdk:∀ x kvs,dks.lookup x=some kvs→∃ a,mg x=some (.ref a)∧∀ X:Cx,X.prog=P→X.w=w→X.K=K→DkOk X T a kvs:=by intro x kvs h; cases h):MOk P w K mg base (FlyX P w) ⟨[],cls,csts.map (·.1),[]⟩ (G0 csts fl sub xn wd dks) T lv:=by
 intro X c e1 e2 e3 e4 e5 e6 e7 e8 e9
 subst e1 e2 e3 e4 e5
 refine ⟨fun x hx=>?_,fun cn C m ds r _ hr=>(by cases hr),hcl,hfl,fun x _ ds d hd=>(by cases hd),fun x d hd _=>hc x d hd,fun x hx _ _=>hbi x hx,hx,fun x hx=>?_,flyX0,fun _ _ _ _ _ _ z=>z,hxn,hxk,hsub,hwd,fun x kvs h=>let ⟨a,h1,h2⟩:=hdk x kvs h; ⟨a,h1,h2 X rfl rfl rfl⟩⟩
 ·rw [e6] at hx; simp at hx
 ·rw [e9] at hx; simp at hx
end Z
namespace Z
open PySem PySem.Spec PyProof.Rows L2
def CV (K:PySem.W.Frag) (T:Tx) (d:D) (u:Value):Prop:=∃ v,RelV v u∧∀ (H:Hp) (S:Addr→Prop),(∀ a o,K.lookup a=some o→H a=none)→(∀ a,S a→∃ o,H a=some o)→Rep K T H S d v
noncomputable def enW (w:World) (p:Str × Tok × Value):DictEntry:=⟨hashStr w p.1,.str p.1 p.2.1,p.2.2⟩
noncomputable def dvs (ts:List (Str × Tok × Value)):List (Key × Value):=ts.map fun p=>(Sum.inr p.1,p.2.2)
theorem dvs_keys:∀ {ts:List (Str × Tok × Value)},(ts.map (·.1)).Nodup→((dvs ts).map (·.1)).Nodup:=fun {ts} h=>by
 unfold dvs
 rw [List.map_map]
 have e:ts.map ((fun x=>x.1) ∘ fun p:Str × Tok × Value=>((Sum.inr p.1,p.2.2):Key × Value))=(ts.map (·.1)).map Sum.inr:=by rw [List.map_map]; rfl
 rw [e]
 rw [List.nodup_iff_pairwise_ne,List.pairwise_map]
 exact (List.nodup_iff_pairwise_ne.mp h).imp fun {a b} hab z=>hab (Sum.inr.inj z)
theorem dvs_pairs {P:Program} {w:World}:∀ {ts:List (Str × Tok × Value)},Pairs (mixKind P w) (ts.map (enW w)) (dvs ts)
 | []=>.nil
 | p::ts=>.cons (mixKind_str P w p.1 p.2.1) rfl dvs_pairs
theorem dvs_at:∀ {kvs:List (Str × D)} {ts:List (Str × Tok × Value)},kvs.map (·.1)=ts.map (·.1)→∀ k,(valueAt (dvs ts) (Sum.inr k)).isSome=(kvs.lookup k).isSome
 | [],[],_,k=>rfl
 | (x,d)::kvs,(y,t,u)::ts,h,k=>by
  simp only [List.map_cons,List.cons.injEq] at h
  obtain ⟨rfl,h⟩:=h
  have ih:=dvs_at h k
  show (valueAt ((Sum.inr x,u)::dvs ts) (Sum.inr k)).isSome=_
  unfold valueAt at ih ⊢
  rw [List.find?_cons,List.lookup_cons]
  by_cases e:k=x
  ·subst e; simp
  ·have e1:(k == x)=false:=beq_eq_false_iff_ne.mpr e
   have e2:decide ((Sum.inr x:Key)=Sum.inr k)=false:=decide_eq_false fun z=>e (Sum.inr.inj z).symm
   rw [e1,e2]
   exact ih
theorem dvs_val {K:PySem.W.Frag} {T:Tx}:∀ {kvs:List (Str × D)} {ts:List (Str × Tok × Value)},kvs.map (·.1)=ts.map (·.1)→(∀ (i:Nat) p q,kvs[i]?=some p→ts[i]?=some q→CV K T p.2 q.2.2)→∀ k d u,kvs.lookup k=some d→valueAt (dvs ts) (Sum.inr k)=some u→CV K T d u
 | [],[],_,_,k,d,u,h,_=>by cases h
 | (x,d')::kvs,(y,t,u')::ts,h,hv,k,d,u,h1,h2=>by
  simp only [List.map_cons,List.cons.injEq] at h
  obtain ⟨rfl,h⟩:=h
  have ih:=dvs_val h (fun i p q a b=>hv (i+1) p q a b) k d u
  unfold valueAt at ih h2
  rw [show dvs ((x,t,u')::ts)=(Sum.inr x,u')::dvs ts from rfl,List.find?_cons] at h2
  rw [List.lookup_cons] at h1
  by_cases e:k=x
  ·subst e
   simp at h1 h2
   subst h1 h2
   exact hv 0 _ _ rfl rfl
  ·have e1:(k == x)=false:=beq_eq_false_iff_ne.mpr e
   have e2:decide ((Sum.inr x:Key)=Sum.inr k)=false:=decide_eq_false fun z=>e (Sum.inr.inj z).symm
   rw [e1] at h1
   rw [e2] at h2
   exact ih h1 h2
theorem dk_of {X:Cx} {T:Tx} {a:Addr} {o:Obj} {ep:Nat} {kvs:List (Str × D)} {ts:List (Str × Tok × Value)} (hs:(a == sysModules)=false) (hl:X.K.lookup a=some o) (he:o.ExactDict) (hd:o.data=.dict (ts.map (enW X.w)).toArray ep) (hk:kvs.map (·.1)=ts.map (·.1)) (hn:(ts.map (·.1)).Nodup)
  (hv:∀ (i:Nat) p q,kvs[i]?=some p→ts[i]?=some q→CV X.K T p.2 q.2.2):DkOk X T a kvs:=by
 refine ⟨hs,o,dvs ts,hl,⟨_,ep,he,hd,fun e h=>?_,?_,dvs_keys hn⟩,dvs_at hk,fun k d u h1 h2=>dvs_val hk hv k d u h1 h2⟩
 ·have h:e ∈ ts.map (enW X.w):=by simpa using h
  obtain ⟨p,_,rfl⟩:=List.mem_map.mp h
  exact ⟨Sum.inr p.1,mixKind_str X.prog X.w p.1 p.2.1,rfl⟩
 ·exact dvs_pairs
end Z
namespace Z
open PySem PySem.Spec PyProof.Rows L2
section
variable {X:Cx}
theorem vals_bl:∀ {bs:List Bool} {its:List Value},Vals (bs.map V.bl) its→its=bs.map Value.bool
 | [],its,h=>by cases h; rfl
 | b::bs,its,h=>by
  cases h with
  | cons h1 h2 =>
   obtain rfl:=h1
   rw [vals_bl h2]
   rfl
noncomputable def eqT:Value→Bool
 | .bool a=>a == true
 | _=>false
theorem cntT:∀ bs:List Bool,(bs.map Value.bool).countP eqT=bs.count true
 | []=>rfl
 | b::bs=>by
  rw [List.map_cons,List.countP_cons,List.count_cons,cntT bs]
  cases b<;>rfl
noncomputable def rCnt:V→List V→Hp→VK→Prop:=fun x vs H Q=>∃ (l:Addr) (bs:List Bool),x=.ref l∧vs=[.bl true]∧H l=some (.lst (bs.map V.bl))∧Q (.int (bs.count true)) H
theorem mt_cnt:MtM X "list.count" rCnt:=by
 intro pins s σ H x vs v us Q I rx rv h
 obtain ⟨l,bs,rfl,rfl,hH,q⟩:=h
 cases rx
 obtain ⟨u,rfl,ru⟩:=rv.one
 obtain rfl:u=.bool true:=ru
 obtain ⟨z,its,n,r,hl,e⟩:=I.lstM hH
 have hi:=vals_bl r
 subst hi
 refine call_meets PySem.F.slot_list_count ⟨_,e,rfl⟩ PySem.F.entry_list_count (PySem.F.args_list_count_2 _ _) (SeqAt.list_countAt l (bs.map Value.bool).toArray n none #[] (.bool true) eqT) ⟨e,fun y hy=>?_,?_⟩
 ·have hy':y ∈ bs.map Value.bool:=by simpa using hy
  obtain ⟨b,_,rfl⟩:=List.mem_map.mp hy'
  exact SeqAt.EqAt.bool_bool b true
 ·refine ⟨.int (bs.count true),H,I.tok _,⟨s.toks,?_⟩,q⟩
  rw [← cntT bs]
noncomputable def rIdx:V→List V→Hp→VK→Prop:=fun x vs H Q=>∃ (l:Addr) (bs:List Bool) (j:Nat),x=.ref l∧vs=[.bl true]∧H l=some (.lst (bs.map V.bl))∧bs[j]?=some true∧(∀ m,m<j→bs[m]?=some false)∧j<1000∧Q (.int (j:Nat)) H
theorem mt_idx:MtM X "list.index" rIdx:=by
 intro pins s σ H x vs v us Q I rx rv h
 obtain ⟨l,bs,j,rfl,rfl,hH,hj,hno,hs,q⟩:=h
 cases rx
 obtain ⟨u,rfl,ru⟩:=rv.one
 obtain rfl:u=.bool true:=ru
 obtain ⟨z,its,n,r,hl,e⟩:=I.lstM hH
 have hi:=vals_bl r
 subst hi
 have hjl:=(List.getElem?_eq_some_iff.mp hj).1
 have hsz:(bs.map Value.bool).toArray.size=bs.length:=by simp
 have at_:∀ (m:Nat) (hm:m<(bs.map Value.bool).toArray.size) (b:Bool),bs[m]?=some b→(bs.map Value.bool).toArray[m]=.bool b:=fun m hm b e=>by
  have hm':m<bs.length:=by rw [hsz] at hm; exact hm
  have e':bs[m]=b:=by rw [List.getElem?_eq_getElem hm'] at e; exact Option.some.inj e
  simp [e']
 refine call_meets PySem.F.slot_list_index ⟨_,e,rfl⟩ PySem.F.entry_list_index (PySem.F.args_list_index_2 _ _) (SeqAt.list_indexAt l (bs.map Value.bool).toArray n none #[] (.bool true) eqT j (by rw [hsz]; exact hjl) (by omega) ?_ fun m hm hmj=>?_) ⟨e,fun y hy=>?_,?_⟩
 ·rw [at_ j _ true hj]; rfl
 ·rw [at_ m hm false (hno m hmj)]; rfl
 ·have hy':y ∈ bs.map Value.bool:=by simpa using hy
  obtain ⟨b,_,rfl⟩:=List.mem_map.mp hy'
  exact SeqAt.EqAt.bool_bool b true
 ·exact ⟨.int (j:Nat),H,I.tok _,⟨_,rfl⟩,q⟩
end
noncomputable def isxE (p:Nat→Pos) (k:Nat) (y:Str):Expr:=.Call (.Name "isinstance" (p k)) [.Name "e" (p (k+1)),.Name y (p (k+2))] [] (p (k+3))
noncomputable def wordBody (p:Nat→Pos):List Stmt:=[
 .Assign [.Name "kinds" (p 0)] (.List [isxE p 1 "NoSheet",isxE p 5 "NoFold",isxE p 9 "NoPlace",isxE p 13 "Ajar"] (p 17)) (p 18),
 .Assign [.Name "kinds" (p 19)] (.BinOp (.Name "kinds" (p 20)) .Add (.List [isxE p 21 "Severed",isxE p 25 "Bolted",isxE p 29 "Loose",isxE p 33 "NoWord"] (p 37)) (p 38)) (p 39),
 .If (.BoolOp .Or [.Compare (.Call (.Attribute (.Name "kinds" (p 40)) "count" (p 41)) [.Constant (.bool true) 0 (p 42)] [] (p 43)) [.NotEq] [.Constant (.int 1) 0 (p 44)] (p 45),.UnaryOp .Not (isxE p 46 "ValueError") (p 50)] (p 51)) [.Return (some (.Constant (.str "other") 0 (p 52))) (p 53)] [] (p 54),
 .Return (some (.Subscript (.List [.Constant (.str "sheet") 0 (p 55),.Constant (.str "fold") 0 (p 56),.Constant (.str "place") 0 (p 57),.Constant (.str "ajar") 0 (p 58),.Constant (.str "severed") 0 (p 59),.Constant (.str "bolted") 0 (p 60),.Constant (.str "loose") 0 (p 61),.Constant (.str "word") 0 (p 62)] (p 63)) (.Call (.Attribute (.Name "kinds" (p 64)) "index" (p 65)) [.Constant (.bool true) 0 (p 66)] [] (p 67)) (p 68))) (p 69)]
noncomputable def xNames:List Str:=["NoSheet","NoFold","NoPlace","Ajar","Severed","Bolted","Loose","NoWord"]
noncomputable def xWords:List Str:=["sheet","fold","place","ajar","severed","bolted","loose","word"]
section
variable {X:Cx}{p:Nat→Pos}
def tIsx (K:PySem.W.Frag) (c:Value):TE:=fun σ H Q=>∃ a C b,σ[0]?=some (some (.ref a))∧H a=some (.ext (isExc a C))∧XcK K C∧PySem.W.kitOne K (.ref C) c=some b∧Q (.bl b) H
theorem call_isx {c:Value} {v:V} (rc:∀ u,RelV v u→u=c):CallR X (.builtin "isinstance") (fun xs H Q=>∃ a C b,xs=[.ref a,v]∧H a=some (.ext (isExc a C))∧XcK X.K C∧PySem.W.kitOne X.K (.ref C) c=some b∧Q (.bl b) H):=by
 rintro pins s σ H xs us Q I r ⟨a,C,b,rfl,hx,F,hk,q⟩
 cases r with
 | cons r1 r2 =>
  cases r2 with
  | cons r2 r3 =>
   cases r3
   obtain rfl:=r1
   have ec:=rc _ r2
   subst ec
   obtain ⟨h1,_,_⟩:=I.hok a _ hx
   exact PySem.W.kia_one (kitx_exc F) I.kIn h1 hk (fun z=>by cases z) fun tk=>⟨.bl b,H,I.tok tk,rfl,q⟩
theorem bt_isinst:bootBuiltins "isinstance" = some (.builtin "isinstance"):=by decide +kernel
theorem bt_ve:bootBuiltins "ValueError" = some (.type "ValueError"):=by decide +kernel
structure WX (X:Cx) (cs:Str→Addr):Prop where
 N:X.N=(["e","kinds"]:List Str)
 le:X.env.kindOf "e" = some .local
 lk:X.env.kindOf "kinds" = some .local
 gi:Gl X "isinstance"
 gv:Gl X "ValueError"
 gx:∀ y ∈ xNames,Gl X y
 mi:X.mg "isinstance" = none
 mv:X.mg "ValueError" = none
 mx:∀ y ∈ xNames,X.mg y=some (.ref (cs y))
variable {cs:Str→Addr}
theorem pe_e (W:WX X cs) {q:Pos}:PE X (.Name "e" q) (tVar 0):=pe_var (by rw [W.N]; rfl) (.inl W.le) (by decide +kernel) (by decide +kernel)
theorem pe_k (W:WX X cs) {q:Pos}:PE X (.Name "kinds" q) (tVar 1):=pe_var (by rw [W.N]; rfl) (.inl W.lk) (by decide +kernel) (by decide +kernel)
theorem pe_isx (W:WX X cs) {k:Nat} {y:Str} (hy:y ∈ xNames):PE X (isxE p k y) (tIsx X.K (.ref (cs y))):=by
 have hd:(y == ("__debug__":Str))=false:=by
  have:xNames.all (fun y=>!(y == ("__debug__":Str)))=true:=by decide +kernel
  have:=List.all_eq_true.mp this y hy
  simpa using this
 refine PE.mono (pe_callB (call_isx (v:=.ref (cs y)) fun u h=>h) W.gi W.mi bt_isinst (pa_cons (pe_e W) (pa_cons (pe_glob (v:=.ref (cs y)) (W.gx y hy) (W.mx y hy) rfl hd) pa_nil)) (by decide +kernel) (by decide +kernel) rfl rfl) fun σ H Q hh=>?_
 obtain ⟨a,C,b,h1,h2,h3,h4,q⟩:=hh
 exact ⟨.ref a,h1,a,C,b,rfl,h2,h3,h4,q⟩
theorem pe_isv (W:WX X cs) {k:Nat}:PE X (isxE p k "ValueError") (tIsx X.K (.type "ValueError")):=by
 refine PE.mono (pe_callB (call_isx (v:=.ty "ValueError") fun u h=>h) W.gi W.mi bt_isinst (pa_cons (pe_e W) (pa_cons (pe_bltn (v:=.ty "ValueError") W.gv W.mv bt_ve rfl (by decide +kernel) (by decide +kernel)) pa_nil)) (by decide +kernel) (by decide +kernel) rfl rfl) fun σ H Q hh=>?_
 obtain ⟨a,C,b,h1,h2,h3,h4,q⟩:=hh
 exact ⟨.ref a,h1,a,C,b,rfl,h2,h3,h4,q⟩
def tFour (K:PySem.W.Frag) (c1 c2 c3 c4:Value):TE:=fun σ H Q=>∃ a C b1 b2 b3 b4,σ[0]?=some (some (.ref a))∧H a=some (.ext (isExc a C))∧XcK K C∧PySem.W.kitOne K (.ref C) c1=some b1∧PySem.W.kitOne K (.ref C) c2=some b2∧PySem.W.kitOne K (.ref C) c3=some b3∧PySem.W.kitOne K (.ref C) c4=some b4∧∀ l,H l=none→Q (.ref l) (upd H l (.lst ([b1,b2,b3,b4].map V.bl)))
theorem pe_four (W:WX X cs) {k1 k2 k3 k4:Nat} {q:Pos} {y1 y2 y3 y4:Str} (h1:y1 ∈ xNames) (h2:y2 ∈ xNames) (h3:y3 ∈ xNames) (h4:y4 ∈ xNames):PE X (.List [isxE p k1 y1,isxE p k2 y2,isxE p k3 y3,isxE p k4 y4] q) (tFour X.K (.ref (cs y1)) (.ref (cs y2)) (.ref (cs y3)) (.ref (cs y4))):=
 PE.mono (pe_lst (pa_cons (pe_isx W h1) (pa_cons (pe_isx W h2) (pa_cons (pe_isx W h3) (pa_cons (pe_isx W h4) pa_nil))))) fun σ H Q hh=>by
  obtain ⟨a,C,b1,b2,b3,b4,e1,e2,e3,f1,f2,f3,f4,q⟩:=hh
  exact ⟨a,C,b1,e1,e2,e3,f1,a,C,b2,e1,e2,e3,f2,a,C,b3,e1,e2,e3,f3,a,C,b4,e1,e2,e3,f4,by show 4≤sizeLine; rw [sizeLine_eq]; decide,q⟩
theorem mem_x {i:Nat} {y:Str} (h:xNames[i]?=some y):y ∈ xNames:=List.mem_of_getElem? h
def tWord (K:PySem.W.Frag) (cs:Str→Addr):TS:=fun D σ H=>∃ a C j w,σ[0]?=some (some (.ref a))∧σ.length=2∧H a=some (.ext (isExc a C))∧XcK K C∧j<8∧(∀ i y,xNames[i]?=some y→PySem.W.kitOne K (.ref C) (.ref (cs y))=some (decide (i=j)))∧PySem.W.kitOne K (.ref C) (.type "ValueError")=some true∧xWords[j]?=some w∧∀ H',Same H H'→D.rt (.str w) H'
section
variable (p)
abbrev wS1:Stmt:=.Assign [.Name "kinds" (p 0)] (.List [isxE p 1 "NoSheet",isxE p 5 "NoFold",isxE p 9 "NoPlace",isxE p 13 "Ajar"] (p 17)) (p 18)
abbrev wS2:Stmt:=.Assign [.Name "kinds" (p 19)] (.BinOp (.Name "kinds" (p 20)) .Add (.List [isxE p 21 "Severed",isxE p 25 "Bolted",isxE p 29 "Loose",isxE p 33 "NoWord"] (p 37)) (p 38)) (p 39)
abbrev wC1:Expr:=.Call (.Attribute (.Name "kinds" (p 40)) "count" (p 41)) [.Constant (.bool true) 0 (p 42)] [] (p 43)
abbrev wC2:Expr:=.Call (.Attribute (.Name "kinds" (p 64)) "index" (p 65)) [.Constant (.bool true) 0 (p 66)] [] (p 67)
abbrev wT3:Expr:=.BoolOp .Or [.Compare (wC1 p) [.NotEq] [.Constant (.int 1) 0 (p 44)] (p 45),.UnaryOp .Not (isxE p 46 "ValueError") (p 50)] (p 51)
abbrev wL:Expr:=.List [.Constant (.str "sheet") 0 (p 55),.Constant (.str "fold") 0 (p 56),.Constant (.str "place") 0 (p 57),.Constant (.str "ajar") 0 (p 58),.Constant (.str "severed") 0 (p 59),.Constant (.str "bolted") 0 (p 60),.Constant (.str "loose") 0 (p 61),.Constant (.str "word") 0 (p 62)] (p 63)
end
theorem w1 (W:WX X cs):PS X (wS1 p) (tAsg (tFour X.K (.ref (cs "NoSheet")) (.ref (cs "NoFold")) (.ref (cs "NoPlace")) (.ref (cs "Ajar"))) (gName 1)):=
 ps_set (i:=1) (by rw [W.N]; decide +kernel) (by rw [W.N]; rfl) (.inl W.lk) (pe_four W (mem_x (i:=0) rfl) (mem_x (i:=1) rfl) (mem_x (i:=2) rfl) (mem_x (i:=3) rfl)) rfl (.inr W.lk)
theorem w2 (W:WX X cs):PS X (wS2 p) (tAsg (tOp rCat (tVar 1) (tFour X.K (.ref (cs "Severed")) (.ref (cs "Bolted")) (.ref (cs "Loose")) (.ref (cs "NoWord")))) (gName 1)):=
 ps_set (i:=1) (by rw [W.N]; decide +kernel) (by rw [W.N]; rfl) (.inl W.lk) (pe_op op_cat (pe_k W) (pe_four W (mem_x (i:=4) rfl) (mem_x (i:=5) rfl) (mem_x (i:=6) rfl) (mem_x (i:=7) rfl))) rfl (.inr W.lk)
theorem w3 (W:WX X cs) (hl1:((p 41).endLine == (p 43).line)=true):PT X (wT3 p) (tOr (tTest (tOp rNe (tBM X.K "list" rCnt (tVar 1) (tCons (tC (.bl true)) tNil)) (tC (.int 1)))) (tNot (tB (tIsx X.K (.type "ValueError"))))):=
 PW.pt (pw_or (pt_cmpR op_ne (pe_bm PySem.F.plainAttrs_list PySem.F.slot_list_count PySem.F.type_list_count mt_cnt (pe_k W) (pa_cons pe_bl pa_nil) rfl rfl hl1) pe_int (nomark _)) (pw_or1 (pt_not (pt_val (pe_isv W)))))
def tWd:TE:=tLst (tCons (tC (.str "sheet")) (tCons (tC (.str "fold")) (tCons (tC (.str "place")) (tCons (tC (.str "ajar")) (tCons (tC (.str "severed")) (tCons (tC (.str "bolted")) (tCons (tC (.str "loose")) (tCons (tC (.str "word")) tNil))))))))
theorem w4 (W:WX X cs) (hl2:((p 65).endLine == (p 67).line)=true):PS X (.Return (some (.Subscript (wL p) (wC2 p) (p 68))) (p 69)) (tRet (tOp (rIxL X.K) tWd (tBM X.K "list" rIdx (tVar 1) (tCons (tC (.bl true)) tNil)))):=
 ps_ret (pe_ix ix_list (pe_lst (pa_cons pe_str (pa_cons pe_str (pa_cons pe_str (pa_cons pe_str (pa_cons pe_str (pa_cons pe_str (pa_cons pe_str (pa_cons pe_str pa_nil))))))))) (pe_bm PySem.F.plainAttrs_list PySem.F.slot_list_index PySem.F.type_list_index mt_idx (pe_k W) (pa_cons pe_bl pa_nil) rfl rfl hl2) (fun _ _=>rfl))
end
end Z
namespace Z
open PySem PySem.Spec PyProof.Rows L2
section
variable {X:Cx}{p:Nat→Pos}{cs:Str→Addr}
theorem cnt8:∀ j,j<8→[decide (0=j),decide (1=j),decide (2=j),decide (3=j),decide (4=j),decide (5=j),decide (6=j),decide (7=j)].count true=1:=by decide
theorem at8:∀ j,j<8→[decide (0=j),decide (1=j),decide (2=j),decide (3=j),decide (4=j),decide (5=j),decide (6=j),decide (7=j)][j]?=some true:=by decide
theorem no8:∀ j,j<8→∀ m,m<j→[decide (0=j),decide (1=j),decide (2=j),decide (3=j),decide (4=j),decide (5=j),decide (6=j),decide (7=j)][m]?=some false:=by decide
theorem wd8:∀ j:Nat,j<8→∀ w,xWords[j]?=some w→L2.atI ([.str "sheet",.str "fold",.str "place",.str "ajar",.str "severed",.str "bolted",.str "loose",.str "word"]:List V) (j:Int)=some (.str w):=by
 intro j hj w hw
 refine atI_nat ?_
 have:j=0∨j=1∨j=2∨j=3∨j=4∨j=5∨j=6∨j=7:=by omega
 rcases this with rfl|rfl|rfl|rfl|rfl|rfl|rfl|rfl<;>(have hw':=Option.some.inj hw; subst hw'; rfl)
theorem word_ok (W:WX X cs) (hl1:((p 41).endLine == (p 43).line)=true) (hl2:((p 65).endLine == (p 67).line)=true):PSs X (wordBody p) (tWord X.K cs):=by
 intro pins s σ H D I hw
 refine pss_cons (w1 W) (pss_cons (w2 W) (pss_cons (ps_if (w3 W hl1) (pss_one (ps_ret pe_str)) pss_nil) (pss_one (w4 W hl2)))) pins s σ H D I ?_
 obtain ⟨a,C,j,w,e0,elen,e1,e2,hj,hk,hv,hwj,q⟩:=hw
 refine ⟨a,C,_,_,_,_,e0,e1,e2,hk 0 _ rfl,hk 1 _ rfl,hk 2 _ rfl,hk 3 _ rfl,fun l hl=>?_⟩
 have ne1:a≠l:=fun z=>by rw [z,hl] at e1; cases e1
 refine ⟨.ref l,by rw [List.getElem?_set_self (by omega)],?_⟩
 have a0:(σ.set 1 (some (V.ref l)))[0]?=some (some (.ref a)):=by rw [List.getElem?_set_ne (by decide)]; exact e0
 refine ⟨a,C,_,_,_,_,a0,by rw [upd_ne ne1]; exact e1,e2,hk 4 _ rfl,hk 5 _ rfl,hk 6 _ rfl,hk 7 _ rfl,fun l2 hn2=>?_⟩
 have ne2:l≠l2:=fun z=>by rw [← z,upd_same] at hn2; cases hn2
 have s1:Same H (upd H l (.lst ([decide (0=j),decide (1=j),decide (2=j),decide (3=j)].map V.bl))):=Same.upd hl
 have s2:=s1.trans (Same.upd (o:=.lst ([decide (4=j),decide (5=j),decide (6=j),decide (7=j)].map V.bl)) hn2)
 refine ⟨l,l2,_,_,rfl,rfl,by rw [upd_ne ne2]; exact upd_same,upd_same,?_,fun l3 hl3=>?_⟩
 ·show 4+4≤sizeLine; rw [sizeLine_eq]; decide
 have n2:(((σ.set 1 (some (V.ref l))).set 1 (some (V.ref l3))))[1]?=some (some (.ref l3)):=by rw [List.getElem?_set_self (by rw [List.length_set]; omega)]
 have n0:(((σ.set 1 (some (V.ref l))).set 1 (some (V.ref l3))))[0]?=some (some (.ref a)):=by rw [List.getElem?_set_ne (by decide)]; exact a0
 have s3:=s2.trans (Same.upd (o:=.lst ([decide (0=j),decide (1=j),decide (2=j),decide (3=j),decide (4=j),decide (5=j),decide (6=j),decide (7=j)].map V.bl)) hl3)
 have ha3:=s3 _ _ e1
 refine ⟨.ref l3,n2,.inl ⟨rfl,_,SqL.of upd_same⟩,l3,[decide (0=j),decide (1=j),decide (2=j),decide (3=j),decide (4=j),decide (5=j),decide (6=j),decide (7=j)],rfl,rfl,upd_same,rfl,⟨_,rfl,?_⟩⟩
 refine iteNS (by rw [cnt8 j hj]; rfl) ?_
 refine ⟨a,C,true,n0,ha3,e2,hv,true,rfl,?_⟩
 show if false=true then _ else _
 refine iteF ?_
 refine ⟨by show 8≤sizeLine; rw [sizeLine_eq]; decide,fun l4 hl4=>?_⟩
 have ne4:l3≠l4:=fun z=>by
  rw [← z] at hl4
  have:(some (HO.lst ([decide (0=j),decide (1=j),decide (2=j),decide (3=j),decide (4=j),decide (5=j),decide (6=j),decide (7=j)].map V.bl)))=none:=upd_same.symm.trans hl4
  cases this
 refine ⟨.ref l3,n2,.inl ⟨rfl,_,SqL.of (by rw [upd_ne ne4]; exact upd_same)⟩,l3,[decide (0=j),decide (1=j),decide (2=j),decide (3=j),decide (4=j),decide (5=j),decide (6=j),decide (7=j)],j,rfl,rfl,by rw [upd_ne ne4]; exact upd_same,at8 j hj,no8 j hj,by omega,l4,_,_,_,rfl,rfl,SqL.of upd_same,wd8 j hj w hwj,q _ (s3.trans (Same.upd hl4))⟩
end
end Z
namespace Z
open PySem PySem.Spec PyProof.Rows L2
theorem fn_word {P:Program} {w:World} {K:PySem.W.Frag} {mg:Str→Option Value} {base:Heap} {x qual:Str} {st:Stmt} {f C:Addr} {fd:FuncData} {p:Nat→Pos} {cs:Str→Addr} {j k:Nat} {wd:Str} (F:Fun K x qual st f fd) (fs:FnScope ["e","kinds"] ["e"] (defScope st)) (hb:defBody st=wordBody p)
  (hl1:((p 41).endLine == (p 43).line)=true) (hl2:((p 65).endLine == (p 67).line)=true) (h1:(defScope st).names.lookup ("e":Str)=some .local) (h2:(defScope st).names.lookup ("kinds":Str)=some .local)
  (h3:∀ y ∈ ("isinstance":Str) :: "ValueError" :: xNames,(defScope st).names.lookup y=some .globalImplicit) (mi:mg "isinstance" = none) (mv:mg "ValueError" = none) (mx:∀ y ∈ xNames,mg y=some (.ref (cs y)))
  (X:XcK K C) (hj:j<8) (hk:∀ (i:Nat) (y:Str),xNames[i]?=some y→PySem.W.kitOne K (.ref C) (.ref (cs y))=some (decide (i=j))) (hv:PySem.W.kitOne K (.ref C) (.type "ValueError")=some true) (hw:xWords[j]?=some wd):FnM P w K mg base (k+1) f fd ["e"] (spW C wd):=by
 refine fnM_of F fs (fun vs H Q hsp=>?_) fun cd A outer s H vs Q hr hsp=>⟨_,by rw [hb]; exact word_ok (cs:=cs) ⟨rfl,h1,h2,h3 _ (by simp),h3 _ (by simp),fun y hy=>h3 y (by simp [hy]),mi,mv,mx⟩ hl1 hl2,?_⟩
 ·obtain ⟨a,rfl,_⟩:=hsp
  rfl
 ·obtain ⟨a,rfl,hx,q⟩:=hsp
  exact ⟨a,C,j,wd,rfl,rfl,hx,X,hj,hk,hv,hw,q⟩
end Z
namespace Toy
open PySem PySem.Spec PyProof.Rows L2 Z
noncomputable def flds:Str→List Str:=fun _=>[]
noncomputable def csts:List (Str × D):=[("UPRIGHT_SIDES",.tup [.str "west",.str "east"]),("LEVEL_SIDES",.tup [.str "north",.str "south"]),("FIGURES",.str "0123456789"),("MOST_FIGURES",.int 9)]
noncomputable def dks:List (Str × List (Str × D)):=[("WAYS",[("over",.bl true),("under",.bl false)])]
noncomputable def xcs:List Str:=(["LeafError","NoWord"]:List Str)
noncomputable def subX:Str→Str→Bool:=fun k k'=>xcs.contains k&&(k' == "LeafError" || k == k')
noncomputable def wdX:Str→Str→Option Str:=fun f k=>if f = "_law_word_of"∧xcs.contains k=true then (xNames.idxOf? k).bind (xWords[·]?) else none
noncomputable def m0:Nm:=⟨[],(["LeafError","NoSheet","NoFold","NoPlace","Ajar","Severed","Bolted","Loose","NoWord"]:List Str),csts.map (·.1),[]⟩
noncomputable def g0:GS:=G0 csts flds subX (fun k=>xcs.contains k) wdX dks
abbrev Rd (U:List Str) (m:Nm) (N:List Str) (st:Stmt) (i:IS):Prop:=cSs 60 (m.cc N (defScope st) U) (defBody st)=some i
abbrev Ok (U:List Str) (m:Nm) (N:List Str) (st:Stmt):Prop:=defOk (m.cc N (defScope st) U) (defScope st)=true
theorem sK {N P:List Str} {sc:Scope} (a:sc.kind=.function:=by rfl) (b:sc.isCoroutine=false:=by rfl) (c:sc.isGenerator=false:=by rfl) (d:N.Nodup:=by decide +kernel) (e:N.take P.length=P:=by rfl) (f:∀ x ∈ P,sc.names.lookup x=some .local∨sc.names.lookup x=some .cell:=by decide +kernel) (h:∀ y ∈ sc.names,y.2≠.free:=by decide +kernel):FnScope N P sc:=⟨a,b,c,d,e,f,h⟩
noncomputable def fD (k:Nat) (g:GS) (n:Nat) (i:IS) (ds:List D):Option Rs:=if ds.length=k then runF g n i ds else none
theorem fD_v {k:Nat} {g:GS} {n:Nat} {i:IS} {ds:List D} (h:ds.length=k):fD k g n i ds=runF g n i ds:=if_pos h
noncomputable def g1:GS:=g0
noncomputable def m1:Nm:=m0
noncomputable def N_5z:List Str:=(["text"]:List Str)
abbrev P_5z:List Str:=N_5z
theorem r_5z:Rd ([]:List Str) m1 N_5z (top 18) K15.i_read_crease:=by kernel_rfl
theorem s_5z:FnScope N_5z P_5z (defScope (top 18)):=sK
theorem o_5z:Ok ([]:List Str) m1 N_5z (top 18):=by decide +kernel
noncomputable def f_5z:=fD 1 g1 1 K15.i_read_crease
theorem v_5z {ds:List D}:ds.length=1→f_5z ds=runF g1 1 K15.i_read_crease ds:=fD_v
noncomputable def g2:GS:=g1.addF "read_crease" f_5z false
noncomputable def m2:Nm:=m1.addF "read_crease" false
noncomputable def N_9z:List Str:=(["text","words"]:List Str)
noncomputable def P_9z:List Str:=(["text"]:List Str)
theorem r_9z:Rd ([]:List Str) m2 N_9z (top 17) K14.i_read_fold:=by kernel_rfl
theorem s_9z:FnScope N_9z P_9z (defScope (top 17)):=sK
theorem o_9z:Ok ([]:List Str) m2 N_9z (top 17):=by decide +kernel
noncomputable def f_9z:=fD 1 g2 2 K14.i_read_fold
theorem v_9z {ds:List D}:ds.length=1→f_9z ds=runF g2 2 K14.i_read_fold ds:=fD_v
noncomputable def g3:GS:=g2.addF "read_fold" f_9z false
noncomputable def m3:Nm:=m2.addF "read_fold" false
noncomputable def N_13z:List Str:=(["text"]:List Str)
abbrev P_13z:List Str:=N_13z
theorem r_13z:Rd ([]:List Str) m3 N_13z (top 16) K14.i_read:=by kernel_rfl
theorem s_13z:FnScope N_13z P_13z (defScope (top 16)):=sK
theorem o_13z:Ok ([]:List Str) m3 N_13z (top 16):=by decide +kernel
noncomputable def f_13z:=fD 1 g3 1 K14.i_read
theorem v_13z {ds:List D}:ds.length=1→f_13z ds=runF g3 1 K14.i_read ds:=fD_v
noncomputable def g4:GS:=g3.addF "read" f_13z false
noncomputable def m4:Nm:=m3.addF "read" false
noncomputable def N_2z:List Str:=(["script","k"]:List Str)
abbrev P_2z:List Str:=N_2z
theorem r_2z:Rd ([]:List Str) m4 N_2z (top 20) Pg.i_cell_at:=by kernel_rfl
theorem s_2z:FnScope N_2z P_2z (defScope (top 20)):=sK
theorem o_2z:Ok ([]:List Str) m4 N_2z (top 20):=by decide +kernel
noncomputable def f_2z:=fD 2 g4 2 Pg.i_cell_at
theorem v_2z {ds:List D}:ds.length=2→f_2z ds=runF g4 2 Pg.i_cell_at ds:=fD_v
noncomputable def g5:GS:=g4.addF "_law_cell_at" f_2z false
noncomputable def m5:Nm:=m4.addF "_law_cell_at" false
noncomputable def N_8z:List Str:=(["found"]:List Str)
abbrev P_8z:List Str:=N_8z
theorem r_8z:Rd ([]:List Str) m5 N_8z (top 21) Pg.i_whole:=by kernel_rfl
theorem s_8z:FnScope N_8z P_8z (defScope (top 21)):=sK
theorem o_8z:Ok ([]:List Str) m5 N_8z (top 21):=by decide +kernel
noncomputable def f_8z:=fD 1 g5 1 Pg.i_whole
theorem v_8z {ds:List D}:ds.length=1→f_8z ds=runF g5 1 Pg.i_whole ds:=fD_v
noncomputable def g6:GS:=g5.addF "_law_whole" f_8z false
noncomputable def m6:Nm:=m5.addF "_law_whole" false
noncomputable def N_0z:List Str:=(["found","due","k","one"]:List Str)
noncomputable def P_0z:List Str:=(["found","due"]:List Str)
theorem r_0z:Rd ([]:List Str) m6 N_0z (top 22) Pg.i_same_folds:=by kernel_rfl
theorem s_0z:FnScope N_0z P_0z (defScope (top 22)):=sK
theorem o_0z:Ok ([]:List Str) m6 N_0z (top 22):=by decide +kernel
noncomputable def f_0z:=fD 2 g6 4 Pg.i_same_folds
theorem v_0z {ds:List D}:ds.length=2→f_0z ds=runF g6 4 Pg.i_same_folds ds:=fD_v
noncomputable def g7:GS:=g6.addF "_law_same_folds" f_0z false
noncomputable def m7:Nm:=m6.addF "_law_same_folds" false
noncomputable def N_6z:List Str:=(["script","first","most","out","cell","crease"]:List Str)
noncomputable def P_6z:List Str:=(["script","first","most"]:List Str)
theorem r_6z:Rd (["out"]:List Str) m7 N_6z (top 23) K15.i_row_by:=by kernel_rfl
theorem s_6z:FnScope N_6z P_6z (defScope (top 23)):=sK
theorem o_6z:Ok (["out"]:List Str) m7 N_6z (top 23):=by decide +kernel
noncomputable def f_6z:=fD 3 g7 6 K15.i_row_by
theorem v_6z {ds:List D}:ds.length=3→f_6z ds=runF g7 6 K15.i_row_by ds:=fD_v
noncomputable def g8:GS:=g7.addF "_law_row_by" f_6z false
noncomputable def m8:Nm:=m7.addF "_law_row_by" false
noncomputable def N_4z:List Str:=(["fold","way"]:List Str)
noncomputable def P_4z:List Str:=(["fold"]:List Str)
theorem r_4z:Rd ([]:List Str) m8 N_4z (top 24) K15.i_written:=by kernel_rfl
theorem s_4z:FnScope N_4z P_4z (defScope (top 24)):=sK
theorem o_4z:Ok ([]:List Str) m8 N_4z (top 24):=by decide +kernel
noncomputable def f_4z:=fD 1 g8 2 K15.i_written
theorem v_4z {ds:List D}:ds.length=1→f_4z ds=runF g8 2 K15.i_written ds:=fD_v
noncomputable def g9:GS:=g8.addF "_law_written" f_4z false
noncomputable def m9:Nm:=m8.addF "_law_written" false
noncomputable def N_7z:List Str:=(["fold","way","side","word","figures","some"]:List Str)
noncomputable def P_7z:List Str:=(["fold","way"]:List Str)
theorem r_7z:Rd ([]:List Str) m9 N_7z (top 25) K14.i_spoilt:=by kernel_rfl
theorem s_7z:FnScope N_7z P_7z (defScope (top 25)):=sK
theorem o_7z:Ok ([]:List Str) m9 N_7z (top 25):=by decide +kernel
noncomputable def f_7z:=fD 2 g9 6 K14.i_spoilt
theorem v_7z {ds:List D}:ds.length=2→f_7z ds=runF g9 6 K14.i_spoilt ds:=fD_v
noncomputable def g10:GS:=g9.addF "_law_spoilt" f_7z false
noncomputable def m10:Nm:=m9.addF "_law_spoilt" false
noncomputable def N_1z:List Str:=(["text","e"]:List Str)
noncomputable def P_1z:List Str:=(["text"]:List Str)
theorem r_1z:Rd ([]:List Str) m10 N_1z (top 27) K14.i_refused:=by kernel_rfl
theorem s_1z:FnScope N_1z P_1z (defScope (top 27)):=sK
theorem o_1z:Ok ([]:List Str) m10 N_1z (top 27):=by decide +kernel
noncomputable def f_1z:=fD 1 g10 2 K14.i_refused
theorem v_1z {ds:List D}:ds.length=1→f_1z ds=runF g10 2 K14.i_refused ds:=fD_v
noncomputable def g11:GS:=g10.addF "_law_refused" f_1z false
noncomputable def m11:Nm:=m10.addF "_law_refused" false
noncomputable def N_14z:List Str:=(["script","due","parts","way","at","text"]:List Str)
noncomputable def P_14z:List Str:=(["script"]:List Str)
theorem r_14z:Rd (["parts"]:List Str) m11 N_14z (top 28) K14.i_law:=by kernel_rfl
theorem s_14z:FnScope N_14z P_14z (defScope (top 28)):=sK
theorem o_14z:Ok (["parts"]:List Str) m11 N_14z (top 28):=by decide +kernel
noncomputable def f_14z:=fD 1 g11 6 K14.i_law
theorem v_14z {ds:List D}:ds.length=1→f_14z ds=runF g11 6 K14.i_law ds:=fD_v
noncomputable def tx (C:Addr) (cs:Str→Addr):Tx:=⟨fun _=>none,fun x=>if xcs.contains x=true then some (cs x) else none⟩
theorem tx_cl {C:Addr} {cs:Str→Addr} {cn:Str} {C1:Addr} (h:(tx C cs).cl cn=some C1):False:=nomatch (show (none:Option Addr)=some C1 from h)
theorem tx_xc {C:Addr} {cs:Str→Addr} {k:Str} {C':Addr} (h:(tx C cs).xc k=some C'):xcs.contains k=true∧C'=cs k:=by
 unfold tx at h
 dsimp only at h
 split at h
 ·rename_i e; cases h; exact ⟨e,rfl⟩
 ·cases h
structure Df (K:PySem.W.Frag) (mg:Str→Option Value) (x:Str) (st:Stmt) (ps:List Str) (f:Addr) (fd:FuncData):Prop where
 fn:Fun K x x st f fd
 at_:mg x=some (.ref f)
 bd:Binds K fd ps []
structure Mt (K:PySem.W.Frag) (C:Addr) (x qual:Str) (st:Stmt) (ps:List Str) (f:Addr) (fd:FuncData):Prop where
 fn:Fun K x qual st f fd
 at_:Meth K C x f
 bd:Binds K fd ps []
section
variable {P:Program}{w:World}{K:PySem.W.Frag}{mg:Str→Option Value}{base:Heap}{C:Addr}{cs:Str→Addr}
abbrev MO (P:Program) (w:World) (K:PySem.W.Frag) (mg:Str→Option Value) (base:Heap) (C:Addr) (cs:Str→Addr) (m:Nm) (g:GS) (k:Nat):Prop:=MOk P w K mg base (FlyX P w) m g (tx C cs) k
noncomputable def wPos:Nat→Pos:=fun i=>([⟨84,4,84,9⟩,⟨84,13,84,23⟩,⟨84,24,84,25⟩,⟨84,27,84,34⟩,⟨84,13,84,35⟩,⟨84,37,84,47⟩,⟨84,48,84,49⟩,⟨84,51,84,57⟩,⟨84,37,84,58⟩,⟨84,60,84,70⟩,⟨84,71,84,72⟩,⟨84,74,84,81⟩,⟨84,60,84,82⟩,⟨84,84,84,94⟩,⟨84,95,84,96⟩,⟨84,98,84,102⟩,⟨84,84,84,103⟩,⟨84,12,84,104⟩,⟨84,4,84,104⟩,⟨85,4,85,9⟩,⟨85,12,85,17⟩,⟨85,21,85,31⟩,⟨85,32,85,33⟩,⟨85,35,85,42⟩,⟨85,21,85,43⟩,⟨85,45,85,55⟩,⟨85,56,85,57⟩,⟨85,59,85,65⟩,⟨85,45,85,66⟩,⟨85,68,85,78⟩,⟨85,79,85,80⟩,⟨85,82,85,87⟩,⟨85,68,85,88⟩,⟨85,90,85,100⟩,⟨85,101,85,102⟩,⟨85,104,85,110⟩,⟨85,90,85,111⟩,⟨85,20,85,112⟩,⟨85,12,85,112⟩,⟨85,4,85,112⟩,⟨86,7,86,12⟩,⟨86,7,86,18⟩,⟨86,19,86,23⟩,⟨86,7,86,24⟩,⟨86,28,86,29⟩,⟨86,7,86,29⟩,⟨86,37,86,47⟩,⟨86,48,86,49⟩,⟨86,51,86,61⟩,⟨86,37,86,62⟩,⟨86,33,86,62⟩,⟨86,7,86,62⟩,⟨87,15,87,22⟩,⟨87,8,87,22⟩,⟨86,4,87,22⟩,⟨88,12,88,19⟩,⟨88,21,88,27⟩,⟨88,29,88,36⟩,⟨88,38,88,44⟩,⟨88,46,88,55⟩,⟨88,57,88,65⟩,⟨88,67,88,74⟩,⟨88,76,88,82⟩,⟨88,11,88,83⟩,⟨88,84,88,89⟩,⟨88,84,88,95⟩,⟨88,96,88,100⟩,⟨88,84,88,101⟩,⟨88,11,88,102⟩,⟨88,4,88,102⟩]:List Pos).getD i ⟨0,0,0,0⟩
theorem w_body:defBody (top 26)=wordBody wPos:=by rfl
theorem w_scope:FnScope ["e","kinds"] ["e"] (defScope (top 26)):=sK
theorem w_glob:∀ y ∈ ("isinstance":Str) :: "ValueError" :: xNames,(defScope (top 26)).names.lookup y=some .globalImplicit:=by
 have:(("isinstance":Str) :: "ValueError" :: xNames).all (fun y=>(defScope (top 26)).names.lookup y == some .globalImplicit)=true:=by decide +kernel
 intro y hy
 exact beq_iff_eq.mp (List.all_eq_true.mp this y hy)
theorem w_fn {f:Addr} {fd:FuncData} (F:Df K mg "_law_word_of" (top 26) ["e"] f fd) (mi:mg "isinstance" = none) (mv:mg "ValueError" = none) (mx:∀ y ∈ xNames,mg y=some (.ref (cs y))) (hX:∀ k,xcs.contains k=true→∀ (j:Nat),xNames.idxOf? k=some j→XcK K (cs k))
  (hk:∀ k,xcs.contains k=true→∀ (j:Nat),xNames.idxOf? k=some j→∀ (i:Nat) (y:Str),xNames[i]?=some y→PySem.W.kitOne K (.ref (cs k)) (.ref (cs y))=some (decide (i=j))) (hv:∀ k,xcs.contains k=true→∀ (j:Nat),xNames.idxOf? k=some j→PySem.W.kitOne K (.ref (cs k)) (.type "ValueError")=some true) :
  ∀ g k x C',(tx C cs).xc k=some C'→wdX g k=some x→∃ fa fd ps j,j≤1∧mg g=some (.ref fa)∧PySem.W.keepIn K (.ref fa)=true∧Binds K fd ps []∧FnM P w K mg base j fa fd ps (spW C' x):=by
 intro g k x C' h1 h2
 obtain ⟨hk1,rfl⟩:=tx_xc h1
 unfold wdX at h2
 split at h2
 ·rename_i hc
  obtain ⟨rfl,_⟩:=hc
  obtain ⟨j,hj,hw⟩:=Option.bind_eq_some_iff.mp h2
  refine ⟨f,fd,["e"],1,Nat.le_refl 1,F.at_,F.fn.kp,F.bd,fn_word (cs:=cs) (j:=j) F.fn w_scope w_body (by decide) (by decide) (by decide +kernel) (by decide +kernel) w_glob mi mv mx (hX k hk1 j hj) ?_ (hk k hk1 j hj) (hv k hk1 j hj) hw⟩
  have:=(List.getElem?_eq_some_iff.mp hw).1
  exact this
 ·cases h2
theorem mk0 (hc:∀ x d,csts.lookup x=some d→CstOk K (tx C cs) mg x d) (hbi:∀ x,biNames.contains x=true→mg x=none) (hx:∀ k,xcs.contains k=true→mg k=some (.ref (cs k))) (hxk:∀ k,xcs.contains k=true→PySem.W.excIn K (cs k) bmV "ValueError.__new__" = true)
  (hsub:∀ k k',xcs.contains k=true→xcs.contains k'=true→subX k k'=true→mroHas K (cs k) (.ref (cs k'))=true) (hwd:∀ g k x C',(tx C cs).xc k=some C'→wdX g k=some x→∃ fa fd ps j,j≤1∧mg g=some (.ref fa)∧PySem.W.keepIn K (.ref fa)=true∧Binds K fd ps []∧FnM P w K mg base j fa fd ps (spW C' x)) (hdk:∀ x kvs,dks.lookup x=some kvs→∃ a,mg x=some (.ref a)∧∀ X:Cx,X.prog=P→X.w=w→X.K=K→DkOk X (tx C cs) a kvs):MO P w K mg base C cs m0 g0 1:=
 mok0 hc (fun cn C' h=>(tx_cl h).elim) (fun cn C' f h hf=>(tx_cl h).elim) hbi (fun k C' h=>by obtain ⟨h1,rfl⟩:=tx_xc h; exact hx k h1) (fun k h=>⟨cs k,if_pos h⟩) (fun k C' h=>by obtain ⟨h1,rfl⟩:=tx_xc h; exact hxk k h1)
  (fun k k' C1 C2 a b h=>by obtain ⟨h1,rfl⟩:=tx_xc a; obtain ⟨h2,rfl⟩:=tx_xc b; exact hsub k k' h1 h2 h) hwd hdk
theorem mkF {m:Nm} {g:GS} {k:Nat} {x:Str} {st:Stmt} {N ps U:List Str} {i:IS} {f:Addr} {fd:FuncData} (s:FnScope N ps (defScope st)) (o:Ok U m N st) (r:Rd U m N st i) (h:MO P w K mg base C cs m g k) (M:Df K mg x st ps f fd) (a1:m.fns.contains x=false:=by decide +kernel) (a2:∀ cn ds,g.me cn x ds=none:=by exact (fun _ _=>rfl)) (a3:m.fresh.contains x=false:=by decide +kernel) (a4:false=true→frOk i=true:=by first|(intro z; cases z; done)|decide +kernel):MO P w K mg base C cs (m.addF x false) (g.addF x (fD ps.length g N.length i) false) (k+1):=h.defF a1 a2 a3 M.at_ M.bd M.fn s o r a4
theorem mk_law {f:Addr} {fd:FuncData} (h:MO P w K mg base C cs m11 g11 11) (M:Df K mg "law" (top 28) P_14z f fd):FnOk P w K mg base (FlyX P w) 12 f fd P_14z (spD K (tx C cs) 1 f_14z false):=
 ((fn_D (fr:=false) (n:=60) (c:=m11.cc N_14z (defScope (top 28)) (["parts"]:List Str)) M.fn s_14z rfl rfl o_14z r_14z (fun z=>by cases z) (fun X a1 a2 a3 a4 a5=>h X _ a1 a2 a3 a4 a5 rfl rfl rfl rfl)).imp fun vs H Q E ⟨h1,S,ds,dom,rl,hc⟩=>⟨h1,S,ds,dom,rl,by rw [v_14z (by rw [rl.len]; exact h1)] at hc; exact hc⟩)
end
theorem q2_5z:g2.fn "read_crease" = f_5z:=by kernel_rfl
theorem q3_9z:g3.fn "read_fold" = f_9z:=by kernel_rfl
theorem q6_8z:g6.fn "_law_whole" = f_8z:=by kernel_rfl
theorem q10_13z:g10.fn "read" = f_13z:=by kernel_rfl
theorem q11_2z:g11.fn "_law_cell_at" = f_2z:=by kernel_rfl
theorem q11_1z:g11.fn "_law_refused" = f_1z:=by kernel_rfl
theorem q11_6z:g11.fn "_law_row_by" = f_6z:=by kernel_rfl
theorem q11_0z:g11.fn "_law_same_folds" = f_0z:=by kernel_rfl
theorem q11_7z:g11.fn "_law_spoilt" = f_7z:=by kernel_rfl
theorem q11_4z:g11.fn "_law_written" = f_4z:=by kernel_rfl
theorem q11_13z:g11.fn "read" = f_13z:=by kernel_rfl
end Toy
namespace Toy
open PySem Z Z.Pg
theorem x_cell_at (ns:List Int) (k:Nat):f_2z [.frz (ns.map .int),.int k]=some (.ok (.int (at0 ns k))):=(v_2z rfl).trans cell_at_ok
theorem x_whole (i:Int):f_8z [.int i]=some (.ok (.bl true)):=(v_8z rfl).trans whole_ok
theorem x_same_folds (F:List Fold) (hl:F.length≤1000):f_0z [.lst (F.map Fold.d),.lst (F.map Fold.d)]=some (.ok (.bl true)):=(v_0z rfl).trans (same_folds_ok (fun i=>by rw [q6_8z]; exact x_whole i) hl)
theorem wN:wdX "_law_word_of" "NoWord" = some ("word":Str):=by decide +kernel
theorem x_5z (k:Nat) (h1:1≤k) (h2:k≤999999999):f_5z [.str (K15.numS k)]=some (.ok (.int k)):=(v_5z rfl).trans (K15.crease_ok rfl rfl h1 h2)
theorem x_crease_er (x:Str) (ha:K15.Asc x) (hl:x.length≤1000) (b:K14.CrB x.cps.toList):f_5z [.str x]=some (.er "NoWord"):=(v_5z rfl).trans (K14.crease_er rfl rfl rfl ha hl b)
theorem x_9z (f:Fold) (h:K15.Ok9 f):f_9z [.str (K15.wr f)]=some (.ok f.d):=(v_9z rfl).trans (K14.fold_ok rfl rfl rfl (fun k h1 h2=>by rw [q2_5z]; exact x_5z k h1 h2) h)
theorem x_fold_er (p:Str) (h:K14.Frm p):f_9z [.str p]=some (.er "NoWord"):=(v_9z rfl).trans (K14.fold_er rfl rfl rfl rfl (fun x a b c=>by rw [q2_5z]; exact x_crease_er x a b c) h.2.1 h.2.2 h.1)
theorem x_13z (F:List Fold) (h:∀ f ∈ F,K15.Ok9 f) (hl:F.length≤30):f_13z [.str (K15.txt F)]=some (.ok (.lst (F.map Fold.d))):=(v_13z rfl).trans (K14.read_ok (fun f h=>by rw [q3_9z]; exact x_9z f h) h hl)
theorem x_read_er (x:Str) (A:List Fold) (p:Str) (B:List Str) (R:K14.RE x A p B):f_13z [.str x]=some (.er "NoWord"):=(v_13z rfl).trans (K14.read_er rfl (fun f h=>by rw [q3_9z]; exact x_9z f h) (fun p h=>by rw [q3_9z]; exact x_fold_er p h) R)
theorem x_refused (x:Str) (A:List Fold) (p:Str) (B:List Str) (R:K14.RE x A p B):f_1z [.str x]=some (.ok (.bl true)):=(v_1z rfl).trans (K14.refused_ok rfl rfl rfl wN (by rw [q10_13z]; exact x_read_er x A p B R))
theorem x_written (f:Fold) (h:K15.Ok9 f):f_4z [f.d]=some (.ok (.str (K15.wr f))):=(v_4z rfl).trans (K15.written_ok h)
theorem x_spoilt (f:Fold) (v:Nat) (p:Str) (h:K15.Ok9 f) (hp:(K14.tx f)[v]?=some p):f_7z [f.d,.int v]=some (.ok (.str p)):=(v_7z rfl).trans (K14.spoilt_ok h hp)
theorem x_row (ns:List Int):∃ F:List Fold,(∀ f ∈ F,K15.Ok9 f)∧F.length≤30∧f_6z [.frz (ns.map .int),.int 3,.int 30]=some (.ok (.lst (F.map Fold.d))):=by
 obtain ⟨F,h1,h2,h3⟩:=K14.row_ok (G:=g7) (ns:=ns)
 exact ⟨F,h1,h2,(v_6z rfl).trans h3⟩
theorem law_true (ns:List Int) (_:ns.length≤63):f_14z [.frz (ns.map .int)]=some (.ok (.bl true)):=by
 rw [v_14z rfl]
 exact K14.law_ok (fun k=>by rw [q11_2z]; exact x_cell_at ns k) (by rw [q11_6z]; exact x_row ns) (fun f a=>by rw [q11_4z]; exact x_written f a) (fun F a b=>by rw [q11_13z]; exact x_13z F a b) (fun F a=>by rw [q11_0z]; exact x_same_folds F a) (fun f v p a b=>by rw [q11_7z]; exact x_spoilt f v p a b) (fun x A p B R=>by rw [q11_1z]; exact x_refused x A p B R)
end Toy
namespace Toy
open PySem L2 Z
theorem bn1 {K:PySem.W.Frag} {x q:Str} {st:Stmt} {f:Addr} {fd:FuncData} {ps:List Str} (F:Fun K x q st f fd) (l:ps.length=1) (h:∀ (kV doc pm:Value) (an:Option Addr) (cdv ct a:Value),bindArgs (PySem.W.fnOf x q (defArgs st) (defBody st) (defScope st) .none kV doc pm an cdv ct) ⟨[a],[]⟩=pure (ps.zip [a])):Binds K fd ps []:=F.binds fun _ _ _ _ _ _ us hl=>by
 match us,hl.trans l with
 | [a],_=>exact h _ _ _ _ _ _ a
theorem bn2 {K:PySem.W.Frag} {x q:Str} {st:Stmt} {f:Addr} {fd:FuncData} {ps:List Str} (F:Fun K x q st f fd) (l:ps.length=2) (h:∀ (kV doc pm:Value) (an:Option Addr) (cdv ct a b:Value),bindArgs (PySem.W.fnOf x q (defArgs st) (defBody st) (defScope st) .none kV doc pm an cdv ct) ⟨[a,b],[]⟩=pure (ps.zip [a,b])):Binds K fd ps []:=F.binds fun _ _ _ _ _ _ us hl=>by
 match us,hl.trans l with
 | [a,b],_=>exact h _ _ _ _ _ _ a b
theorem bn3 {K:PySem.W.Frag} {x q:Str} {st:Stmt} {f:Addr} {fd:FuncData} {ps:List Str} (F:Fun K x q st f fd) (l:ps.length=3) (h:∀ (kV doc pm:Value) (an:Option Addr) (cdv ct a b c:Value),bindArgs (PySem.W.fnOf x q (defArgs st) (defBody st) (defScope st) .none kV doc pm an cdv ct) ⟨[a,b,c],[]⟩=pure (ps.zip [a,b,c])):Binds K fd ps []:=F.binds fun _ _ _ _ _ _ us hl=>by
 match us,hl.trans l with
 | [a,b,c],_=>exact h _ _ _ _ _ _ a b c
theorem mF {K:PySem.W.Frag} {n q:Str} {st:Stmt} {a:Addr} {fd:FuncData} {m:Str} {t c:Nat} (e:fd=dF n q st m t c) (h:K.lookup a=some (oF fd)) (h2:PySem.W.codeIn K (.ref c) q=true) (h3:PySem.W.keepIn K (.ref a)=true):Fun K n q st a fd:=⟨⟨_,_,_,_,_,_,_,_,_,e,h,h2⟩,h3⟩
section
variable (P:Params)
theorem F_13z:Fun (KK P) "read" "read" (top 16) 131 fd_13z:=mF rfl (by kernel_rfl) (by kernel_rfl) (by kernel_rfl)
theorem b_13z:Binds (KK P) fd_13z P_13z []:=bn1 (F_13z P) rfl fun _ _ _ _ _ _ _=>rfl
theorem F_9z:Fun (KK P) "read_fold" "read_fold" (top 17) 138 fd_9z:=mF rfl (by kernel_rfl) (by kernel_rfl) (by kernel_rfl)
theorem b_9z:Binds (KK P) fd_9z P_9z []:=bn1 (F_9z P) rfl fun _ _ _ _ _ _ _=>rfl
theorem F_5z:Fun (KK P) "read_crease" "read_crease" (top 18) 143 fd_5z:=mF rfl (by kernel_rfl) (by kernel_rfl) (by kernel_rfl)
theorem b_5z:Binds (KK P) fd_5z P_5z []:=bn1 (F_5z P) rfl fun _ _ _ _ _ _ _=>rfl
theorem F_2z:Fun (KK P) "_law_cell_at" "_law_cell_at" (top 20) 150 fd_2z:=mF rfl (by kernel_rfl) (by kernel_rfl) (by kernel_rfl)
theorem b_2z:Binds (KK P) fd_2z P_2z []:=bn2 (F_2z P) rfl fun _ _ _ _ _ _ _ _=>rfl
theorem F_8z:Fun (KK P) "_law_whole" "_law_whole" (top 21) 157 fd_8z:=mF rfl (by kernel_rfl) (by kernel_rfl) (by kernel_rfl)
theorem b_8z:Binds (KK P) fd_8z P_8z []:=bn1 (F_8z P) rfl fun _ _ _ _ _ _ _=>rfl
theorem F_0z:Fun (KK P) "_law_same_folds" "_law_same_folds" (top 22) 164 fd_0z:=mF rfl (by kernel_rfl) (by kernel_rfl) (by kernel_rfl)
theorem b_0z:Binds (KK P) fd_0z P_0z []:=bn2 (F_0z P) rfl fun _ _ _ _ _ _ _ _=>rfl
theorem F_6z:Fun (KK P) "_law_row_by" "_law_row_by" (top 23) 171 fd_6z:=mF rfl (by kernel_rfl) (by kernel_rfl) (by kernel_rfl)
theorem b_6z:Binds (KK P) fd_6z P_6z []:=bn3 (F_6z P) rfl fun _ _ _ _ _ _ _ _ _=>rfl
theorem F_4z:Fun (KK P) "_law_written" "_law_written" (top 24) 178 fd_4z:=mF rfl (by kernel_rfl) (by kernel_rfl) (by kernel_rfl)
theorem b_4z:Binds (KK P) fd_4z P_4z []:=bn1 (F_4z P) rfl fun _ _ _ _ _ _ _=>rfl
theorem F_7z:Fun (KK P) "_law_spoilt" "_law_spoilt" (top 25) 185 fd_7z:=mF rfl (by kernel_rfl) (by kernel_rfl) (by kernel_rfl)
theorem b_7z:Binds (KK P) fd_7z P_7z []:=bn2 (F_7z P) rfl fun _ _ _ _ _ _ _ _=>rfl
theorem F_3z:Fun (KK P) "_law_word_of" "_law_word_of" (top 26) 192 fd_3z:=mF rfl (by kernel_rfl) (by kernel_rfl) (by kernel_rfl)
theorem b_3z:Binds (KK P) fd_3z (["e"]:List Str) []:=bn1 (F_3z P) rfl fun _ _ _ _ _ _ _=>rfl
theorem F_1z:Fun (KK P) "_law_refused" "_law_refused" (top 27) 199 fd_1z:=mF rfl (by kernel_rfl) (by kernel_rfl) (by kernel_rfl)
theorem b_1z:Binds (KK P) fd_1z P_1z []:=bn1 (F_1z P) rfl fun _ _ _ _ _ _ _=>rfl
theorem F_14z:Fun (KK P) "law" "law" (top 28) 204 fd_14z:=mF rfl (by kernel_rfl) (by kernel_rfl) (by kernel_rfl)
theorem b_14z:Binds (KK P) fd_14z P_14z []:=bn1 (F_14z P) rfl fun _ _ _ _ _ _ _=>rfl
variable {P}{h:Heap}{mg:Str→Option Value}(X:(KK P).In h)(G:h.Ns mainGlobals mg)
include X G
theorem D_13z:Df (KK P) mg "read" (top 16) P_13z 131 fd_13z:=⟨F_13z P,PySem.W.mg_of X G (by kernel_rfl),b_13z P⟩
theorem D_9z:Df (KK P) mg "read_fold" (top 17) P_9z 138 fd_9z:=⟨F_9z P,PySem.W.mg_of X G (by kernel_rfl),b_9z P⟩
theorem D_5z:Df (KK P) mg "read_crease" (top 18) P_5z 143 fd_5z:=⟨F_5z P,PySem.W.mg_of X G (by kernel_rfl),b_5z P⟩
theorem D_2z:Df (KK P) mg "_law_cell_at" (top 20) P_2z 150 fd_2z:=⟨F_2z P,PySem.W.mg_of X G (by kernel_rfl),b_2z P⟩
theorem D_8z:Df (KK P) mg "_law_whole" (top 21) P_8z 157 fd_8z:=⟨F_8z P,PySem.W.mg_of X G (by kernel_rfl),b_8z P⟩
theorem D_0z:Df (KK P) mg "_law_same_folds" (top 22) P_0z 164 fd_0z:=⟨F_0z P,PySem.W.mg_of X G (by kernel_rfl),b_0z P⟩
theorem D_6z:Df (KK P) mg "_law_row_by" (top 23) P_6z 171 fd_6z:=⟨F_6z P,PySem.W.mg_of X G (by kernel_rfl),b_6z P⟩
theorem D_4z:Df (KK P) mg "_law_written" (top 24) P_4z 178 fd_4z:=⟨F_4z P,PySem.W.mg_of X G (by kernel_rfl),b_4z P⟩
theorem D_7z:Df (KK P) mg "_law_spoilt" (top 25) P_7z 185 fd_7z:=⟨F_7z P,PySem.W.mg_of X G (by kernel_rfl),b_7z P⟩
theorem D_3z:Df (KK P) mg "_law_word_of" (top 26) (["e"]:List Str) 192 fd_3z:=⟨F_3z P,PySem.W.mg_of X G (by kernel_rfl),b_3z P⟩
theorem D_1z:Df (KK P) mg "_law_refused" (top 27) P_1z 199 fd_1z:=⟨F_1z P,PySem.W.mg_of X G (by kernel_rfl),b_1z P⟩
theorem D_14z:Df (KK P) mg "law" (top 28) P_14z 204 fd_14z:=⟨F_14z P,PySem.W.mg_of X G (by kernel_rfl),b_14z P⟩
theorem h_bi:∀ x,biNames.contains x=true→mg x=none:=by
 intro x hx
 have hx':x ∈ biNames:=by simpa using hx
 simp only [biNames,List.mem_cons,List.not_mem_nil,or_false] at hx'
 rcases hx' with rfl|rfl|rfl|rfl|rfl|rfl|rfl|rfl|rfl|rfl|rfl|rfl|rfl|rfl|rfl|rfl
 ·exact PySem.W.mg_none_of X G (by kernel_rfl)
 ·exact PySem.W.mg_none_of X G (by kernel_rfl)
 ·exact PySem.W.mg_none_of X G (by kernel_rfl)
 ·exact PySem.W.mg_none_of X G (by kernel_rfl)
 ·exact PySem.W.mg_none_of X G (by kernel_rfl)
 ·exact PySem.W.mg_none_of X G (by kernel_rfl)
 ·exact PySem.W.mg_none_of X G (by kernel_rfl)
 ·exact PySem.W.mg_none_of X G (by kernel_rfl)
 ·exact PySem.W.mg_none_of X G (by kernel_rfl)
 ·exact PySem.W.mg_none_of X G (by kernel_rfl)
 ·exact PySem.W.mg_none_of X G (by kernel_rfl)
 ·exact PySem.W.mg_none_of X G (by kernel_rfl)
 ·exact PySem.W.mg_none_of X G (by kernel_rfl)
 ·exact PySem.W.mg_none_of X G (by kernel_rfl)
 ·exact PySem.W.mg_none_of X G (by kernel_rfl)
 ·exact PySem.W.mg_none_of X G (by kernel_rfl)
theorem h_cst {T:Tx}:∀ x d,csts.lookup x=some d→CstOk (KK P) T mg x d:=by
 intro x d hx
 have hx':(x,d) ∈ csts:=PySem.mem_of_lookup hx
 simp only [csts,List.mem_cons,List.not_mem_nil,or_false,Prod.mk.injEq] at hx'
 rcases hx' with ⟨rfl,rfl⟩|⟨rfl,rfl⟩|⟨rfl,rfl⟩|⟨rfl,rfl⟩
 ·have u:(KK P).lookup 124=some ⟨(.type "tuple"),none,(.seq #[(.str "west" 335),(.str "east" 336)] 0),#[]⟩:=by kernel_rfl
  exact cst_tup (xs:=[.str "west",.str "east"]) (PySem.W.mg_of X G (by kernel_rfl:PySem.W.nsIn (KK P) mainGlobals "UPRIGHT_SIDES" = some (some (.ref 124)))) (fun H=>.inr ⟨_,_,_,u,rfl,rfl,by show 2≤sizeLine; rw [sizeLine_eq]; decide,.cons ⟨_,rfl⟩ (.cons ⟨_,rfl⟩ .nil)⟩) ⟨_,u⟩ fun H S=>RepL.cons (by exact rfl) (RepL.cons (by exact rfl) RepL.nil)
 ·have u:(KK P).lookup 125=some ⟨(.type "tuple"),none,(.seq #[(.str "north" 338),(.str "south" 339)] 0),#[]⟩:=by kernel_rfl
  exact cst_tup (xs:=[.str "north",.str "south"]) (PySem.W.mg_of X G (by kernel_rfl:PySem.W.nsIn (KK P) mainGlobals "LEVEL_SIDES" = some (some (.ref 125)))) (fun H=>.inr ⟨_,_,_,u,rfl,rfl,by show 2≤sizeLine; rw [sizeLine_eq]; decide,.cons ⟨_,rfl⟩ (.cons ⟨_,rfl⟩ .nil)⟩) ⟨_,u⟩ fun H S=>RepL.cons (by exact rfl) (RepL.cons (by exact rfl) RepL.nil)
 ·exact ⟨_,.str "0123456789",PySem.W.mg_of X G (by kernel_rfl:PySem.W.nsIn (KK P) mainGlobals "FIGURES" = some (some (.str "0123456789" 348))),⟨_,rfl⟩,fun H S _ _=>by unfold Rep; rfl⟩
 ·exact cst_int (PySem.W.mg_of X G (by kernel_rfl:PySem.W.nsIn (KK P) mainGlobals "MOST_FIGURES" = some (some (.int 9 350))))
end
theorem h_dk {w:World} {h:Heap} {mg:Str→Option Value} (X:(KK w.params).In h) (G:h.Ns mainGlobals mg) {T:Tx} {Pr:Program}:∀ x kvs,dks.lookup x=some kvs→∃ a,mg x=some (.ref a)∧∀ Y:Cx,Y.prog=Pr→Y.w=w→Y.K=KK w.params→DkOk Y T a kvs:=by
 intro x kvs hx
 have hx':(x,kvs) ∈ dks:=PySem.mem_of_lookup hx
 simp only [dks,List.mem_cons,List.not_mem_nil,or_false,Prod.mk.injEq] at hx'
 obtain ⟨rfl,rfl⟩:=hx'
 refine ⟨126,PySem.W.mg_of X G (by kernel_rfl:PySem.W.nsIn (KK w.params) mainGlobals "WAYS" = some (some (.ref 126))),fun Y _ e2 e3=>?_⟩
 refine dk_of (ts:=[("over",343,.bool true),("under",344,.bool false)]) (o:=⟨(.type "dict"),none,(.dict #[en Y.w.params "over" 343 (.bool true),en Y.w.params "under" 344 (.bool false)] 2),#[]⟩) (by decide +kernel) (by rw [e3,← e2]; kernel_rfl) ⟨rfl,rfl,rfl⟩ rfl (by decide +kernel) (by decide +kernel) ?_
 rw [e3]
 have utrue:CV (KK w.params) T (.bl true) (.bool true):=⟨.bl true,rfl,fun H S _ _=>by unfold Rep; rfl⟩
 have ufalse:CV (KK w.params) T (.bl false) (.bool false):=⟨.bl false,rfl,fun H S _ _=>by unfold Rep; rfl⟩
 intro i p q h1 h2
 match i with
 | 0=>cases h1; cases h2; exact utrue
 | 1=>cases h1; cases h2; exact ufalse
 | i+2=>cases h1
def spLaw (K:PySem.W.Frag):Sp:=fun vs H Q _=>∃ (a:Addr) (ns:List Int),vs=[.ref a]∧SqL K H a (ns.map V.int)∧ns.length≤63∧∀ H',Q (.bl true) H'
theorem repL_ints {K:PySem.W.Frag} {T:Tx} {H:Hp} {S:Addr→Prop}:∀ ns:List Int,RepL K T H S (ns.map D.int) (ns.map V.int)
 | []=>RepL.nil
 | n::ns=>RepL.cons (by exact rfl) (repL_ints ns)
theorem law_fn {P:Program} {w:World} {K:PySem.W.Frag} {mg:Str→Option Value} {base:Heap} {T:Tx} {k:Nat} {f:Addr} {fd:FuncData} {fr:Bool} (F:FnOk P w K mg base (FlyX P w) k f fd P_14z (spD K T 1 f_14z fr)) (hk:k≤60):FnOk P w K mg base CX0 60 f fd ["script"] (spLaw K):=by
 have key:∀ vs H Q E,spLaw K vs H Q E→spD K T 1 f_14z fr vs H Q E0:=by
  rintro vs H Q E ⟨a,ns,rfl,hS,hl,q⟩
  refine ⟨rfl,fun _=>False,[.frz (ns.map D.int)],fun _ z=>z.elim,RepL.cons (show Exists _ from ⟨a,ns.map V.int,rfl,fun z=>z,hS,repL_ints ns⟩) RepL.nil,.inl ⟨.bl true,law_true ns hl,fun v H' sm r _=>?_⟩⟩
  obtain rfl:=r
  exact q H'
 refine ⟨fun vs H Q E hs=>F.len _ _ _ _ (key vs H Q E hs),fun A outer s H args us vs Q E hr e0 hb hv hs=>?_⟩
 refine codeAny_mono (F.run A outer s H args us vs Q E0 (hr.mono hk) e0 hb hv (key vs H Q E hs)) fun r s' hq=>?_
 cases r with
 | error e=>exact (flyX0 _ _ _ _ _ hq).elim
 | ok fl=>cases fl<;>exact hq
noncomputable def cs (y:Str):Addr:=if y = "LeafError" then 24 else if y = "NoSheet" then 37 else if y = "NoFold" then 49 else if y = "NoPlace" then 61 else if y = "Ajar" then 73 else if y = "Severed" then 85 else if y = "Bolted" then 97 else if y = "Loose" then 109 else if y = "NoWord" then 121 else 0
section
variable {P:Params}
theorem cs_LeafError:cs "LeafError" = 24:=by kernel_rfl
theorem cs_NoSheet:cs "NoSheet" = 37:=by kernel_rfl
theorem cs_NoFold:cs "NoFold" = 49:=by kernel_rfl
theorem cs_NoPlace:cs "NoPlace" = 61:=by kernel_rfl
theorem cs_Ajar:cs "Ajar" = 73:=by kernel_rfl
theorem cs_Severed:cs "Severed" = 85:=by kernel_rfl
theorem cs_Bolted:cs "Bolted" = 97:=by kernel_rfl
theorem cs_Loose:cs "Loose" = 109:=by kernel_rfl
theorem cs_NoWord:cs "NoWord" = 121:=by kernel_rfl
theorem hxs:∀ k,xcs.contains k=true→k = "LeafError"∨k = "NoWord":=by
 intro k hk
 have hk':k ∈ xcs:=by simpa using hk
 simpa only [xcs,List.mem_cons,List.not_mem_nil,or_false] using hk'
theorem hxk:∀ k,xcs.contains k=true→PySem.W.excIn (KK P) (cs k) bmV "ValueError.__new__" = true:=by
 intro k hk
 rcases hxs k hk with rfl|rfl
 ·exact (by kernel_rfl:PySem.W.excIn (KK P) (cs "LeafError") bmV "ValueError.__new__" = true)
 ·exact (by kernel_rfl:PySem.W.excIn (KK P) (cs "NoWord") bmV "ValueError.__new__" = true)
theorem hsub:∀ k k',xcs.contains k=true→xcs.contains k'=true→subX k k'=true→mroHas (KK P) (cs k) (.ref (cs k'))=true:=by
 intro k k' hk hk' hs
 rcases hxs k hk with rfl|rfl
 ·rcases hxs k' hk' with rfl|rfl
  ·exact (by kernel_rfl:mroHas (KK P) (cs "LeafError") (.ref (cs "LeafError"))=true)
  ·exact nomatch (show false=true from hs)
 ·rcases hxs k' hk' with rfl|rfl
  ·exact (by kernel_rfl:mroHas (KK P) (cs "NoWord") (.ref (cs "LeafError"))=true)
  ·exact (by kernel_rfl:mroHas (KK P) (cs "NoWord") (.ref (cs "NoWord"))=true)
theorem hidx:∀ k,xcs.contains k=true→∀ j,xNames.idxOf? k=some j→(k = "NoWord"∧j=7):=by
 intro k hk j hj
 rcases hxs k hk with rfl|rfl
 ·rw [show xNames.idxOf? ("LeafError":Str)=none from by decide +kernel] at hj; cases hj
 ·exact ⟨rfl,Option.some.inj (hj.symm.trans (by decide +kernel))⟩
theorem hX:∀ k,xcs.contains k=true→∀ (j:Nat),xNames.idxOf? k=some j→XcK (KK P) (cs k):=by
 intro k hk j hj
 rcases hidx k hk j hj with ⟨rfl,rfl⟩
 ·rw [cs_NoWord]; exact ⟨by kernel_rfl,by kernel_rfl,by kernel_rfl,by kernel_rfl,by kernel_rfl,by kernel_rfl,by kernel_rfl⟩
theorem hv:∀ k,xcs.contains k=true→∀ (j:Nat),xNames.idxOf? k=some j→PySem.W.kitOne (KK P) (.ref (cs k)) (.type "ValueError")=some true:=by
 intro k hk j hj
 rcases hidx k hk j hj with ⟨rfl,rfl⟩
 ·exact (by kernel_rfl:PySem.W.kitOne (KK P) (.ref (cs "NoWord")) (.type "ValueError")=some true)
theorem hkt:∀ k,xcs.contains k=true→∀ (j:Nat),xNames.idxOf? k=some j→∀ (i:Nat) (y:Str),xNames[i]?=some y→PySem.W.kitOne (KK P) (.ref (cs k)) (.ref (cs y))=some (decide (i=j)):=by
 intro k hk j hj i y hy
 have hi:i<8:=(List.getElem?_eq_some_iff.mp hy).1
 have hi8:i=0∨i=1∨i=2∨i=3∨i=4∨i=5∨i=6∨i=7:=by omega
 rcases hidx k hk j hj with ⟨rfl,rfl⟩
 ·rcases hi8 with rfl|rfl|rfl|rfl|rfl|rfl|rfl|rfl
  ·cases hy; exact (by kernel_rfl:PySem.W.kitOne (KK P) (.ref (cs "NoWord")) (.ref (cs "NoSheet"))=some (decide (0=7)))
  ·cases hy; exact (by kernel_rfl:PySem.W.kitOne (KK P) (.ref (cs "NoWord")) (.ref (cs "NoFold"))=some (decide (1=7)))
  ·cases hy; exact (by kernel_rfl:PySem.W.kitOne (KK P) (.ref (cs "NoWord")) (.ref (cs "NoPlace"))=some (decide (2=7)))
  ·cases hy; exact (by kernel_rfl:PySem.W.kitOne (KK P) (.ref (cs "NoWord")) (.ref (cs "Ajar"))=some (decide (3=7)))
  ·cases hy; exact (by kernel_rfl:PySem.W.kitOne (KK P) (.ref (cs "NoWord")) (.ref (cs "Severed"))=some (decide (4=7)))
  ·cases hy; exact (by kernel_rfl:PySem.W.kitOne (KK P) (.ref (cs "NoWord")) (.ref (cs "Bolted"))=some (decide (5=7)))
  ·cases hy; exact (by kernel_rfl:PySem.W.kitOne (KK P) (.ref (cs "NoWord")) (.ref (cs "Loose"))=some (decide (6=7)))
  ·cases hy; exact (by kernel_rfl:PySem.W.kitOne (KK P) (.ref (cs "NoWord")) (.ref (cs "NoWord"))=some (decide (7=7)))
variable {h:Heap}{mg:Str→Option Value}(X:(KK P).In h)(G:h.Ns mainGlobals mg)
include X G
theorem mx:∀ y,(["LeafError","NoSheet","NoFold","NoPlace","Ajar","Severed","Bolted","Loose","NoWord"]:List Str).contains y=true→mg y=some (.ref (cs y)):=by
 intro y hy
 have hy':y ∈ (["LeafError","NoSheet","NoFold","NoPlace","Ajar","Severed","Bolted","Loose","NoWord"]:List Str):=by simpa using hy
 simp only [List.mem_cons,List.not_mem_nil,or_false] at hy'
 rcases hy' with rfl|rfl|rfl|rfl|rfl|rfl|rfl|rfl|rfl
 ·rw [cs_LeafError]; exact PySem.W.mg_of X G (by kernel_rfl)
 ·rw [cs_NoSheet]; exact PySem.W.mg_of X G (by kernel_rfl)
 ·rw [cs_NoFold]; exact PySem.W.mg_of X G (by kernel_rfl)
 ·rw [cs_NoPlace]; exact PySem.W.mg_of X G (by kernel_rfl)
 ·rw [cs_Ajar]; exact PySem.W.mg_of X G (by kernel_rfl)
 ·rw [cs_Severed]; exact PySem.W.mg_of X G (by kernel_rfl)
 ·rw [cs_Bolted]; exact PySem.W.mg_of X G (by kernel_rfl)
 ·rw [cs_Loose]; exact PySem.W.mg_of X G (by kernel_rfl)
 ·rw [cs_NoWord]; exact PySem.W.mg_of X G (by kernel_rfl)
theorem hxg:∀ k,xcs.contains k=true→mg k=some (.ref (cs k)):=fun k hk=>mx X G k (by
 rcases hxs k hk with rfl|rfl<;>decide +kernel)
theorem hmx:∀ y ∈ xNames,mg y=some (.ref (cs y)):=fun y hy=>mx X G y (by
 have:xNames.all (fun y=>(["LeafError","NoSheet","NoFold","NoPlace","Ajar","Severed","Bolted","Loose","NoWord"]:List Str).contains y)=true:=by decide +kernel
 exact List.all_eq_true.mp this y hy)
end
set_option maxHeartbeats 0 in
theorem all_mk {l:PySem.W.OpenLaw} {w:World} {h:Heap} {mg:Str→Option Value} {fa:Addr} (X:(KK w.params).In h) (G:h.Ns mainGlobals mg) (hfa:mg "law" = some (.ref fa)) :
  ∃ fd:FuncData,(∀ (s:Shared) (v:Value),BindsTo s fd ⟨[v],[]⟩ [("script",v)])∧∀ base:Heap,(KK w.params).In base→base.Ns mainGlobals mg→FnOk l.prog w (KK w.params) mg base CX0 60 fa fd ["script"] (spLaw (KK w.params)):=by
 have e:=hfa.symm.trans (D_14z X G).at_
 cases e
 refine ⟨fd_14z,fun s v=>.of_eq rfl,fun base _ _=>?_⟩
 have m:=mk0 (P:=l.prog) (w:=w) (base:=base) (C:=0) (cs:=cs) (h_cst X G) (h_bi X G) (hxg X G) hxk hsub (w_fn (D_3z X G) (h_bi X G _ (by decide +kernel)) (h_bi X G _ (by decide +kernel)) (hmx X G) hX hkt hv) (h_dk X G)
 replace m:MO _ _ _ _ _ _ _ m2 g2 2:=mkF s_5z o_5z r_5z m (D_5z X G)
 replace m:MO _ _ _ _ _ _ _ m3 g3 3:=mkF s_9z o_9z r_9z m (D_9z X G)
 replace m:MO _ _ _ _ _ _ _ m4 g4 4:=mkF s_13z o_13z r_13z m (D_13z X G)
 replace m:MO _ _ _ _ _ _ _ m5 g5 5:=mkF s_2z o_2z r_2z m (D_2z X G)
 replace m:MO _ _ _ _ _ _ _ m6 g6 6:=mkF s_8z o_8z r_8z m (D_8z X G)
 replace m:MO _ _ _ _ _ _ _ m7 g7 7:=mkF s_0z o_0z r_0z m (D_0z X G)
 replace m:MO _ _ _ _ _ _ _ m8 g8 8:=mkF s_6z o_6z r_6z m (D_6z X G)
 replace m:MO _ _ _ _ _ _ _ m9 g9 9:=mkF s_4z o_4z r_4z m (D_4z X G)
 replace m:MO _ _ _ _ _ _ _ m10 g10 10:=mkF s_7z o_7z r_7z m (D_7z X G)
 replace m:MO _ _ _ _ _ _ _ m11 g11 11:=mkF s_1z o_1z r_1z m (D_1z X G)
 exact law_fn (mk_law m (D_14z X G)) (by decide)
theorem walk {l:PySem.W.OpenLaw} {q:Program} {loose:List Str} {XP:(Str→Option Value)→Heap→Prop} {YP:World→Heap→Prop} {d:DefRec} {K:Params→PySem.W.Frag} (hn:l.most=some 63) (hdf:d.params.defaults=[])
  (hY:∀ (w:World) (h:Heap),YP w h→(K w.params).In h)
  (F:∀ (w:World) (mg:Str→Option Value) (fa:Addr) (h:Heap),(K w.params).In h→h.Ns mainGlobals mg→mg d.name=some (.ref fa) →
   ∃ fd:FuncData,(∀ (s:Shared) (u:Value),BindsTo s fd ⟨[u],[]⟩ [("script",u)])∧∀ base:Heap,(K w.params).In base→base.Ns mainGlobals mg→FnOk l.prog w (K w.params) mg base CX0 60 fa fd ["script"] (spLaw (K w.params))) :
  PySem.W.WalkO q loose XP YP l.row.toRowW d [] (fun f vs=>PySem.call f vs):=
 L2.walk_of (n:=63) (k:=60) (x:="script") (CX:=fun _=>CX0) (sp:=fun w=>spLaw (K w.params)) hn (by decide) hdf ⟨rfl,by decide,by decide⟩ hY F (fun _ _ a ns hl _ hS=>⟨a,ns,rfl,hS,hl,fun _=>rfl⟩) fun _ _ _ _ _ z=>z
end Toy
open PySem PySem.W PyProof.Rows
set_option maxRecDepth 100000 in
set_option maxHeartbeats 0 in
theorem PySem.Challenge.cw_leaffold_k14_read_holds : PySem.Challenge.rw_leaffold_k14_read.Holds := by
 w_on; o_law
 refine holds_open (q:=Toy.vw) (loose:=(["WAYS"]:List Str)) (Xt:=Toy.Xt) (XP:=XL Toy.vw []) (Yf:=Hook.obs Toy.HH) (Ya:=Hook.val Toy.HH) (YP:=Hook.says Toy.HH) (N:=4834) Toy.left (Hook.of Toy.HH) (Hook.keeps Toy.HH) (fun s e=>xl_of s (Bool.and_eq_true_iff.mp e).1) XL.keeps (by rfl) (by rfl) (by rfl) (fun s e=>recFacts_of (Bool.and_eq_true_iff.mp e).2) (by rfl) (by first|assumption|decide +kernel) (by decide +kernel) ⟨rfl,rfl,rfl,rfl,rfl,by decide +kernel⟩ ?hw ?hc
 case hw=>w_witness2
 case hc=>exact Toy.walk (l:=Toy.lw) (K:=Toy.KK) rfl rfl (fun w h Y=>PySem.W.kIn_of Y) fun w mg fa h KX G hmg=>Toy.all_mk KX G hmg
