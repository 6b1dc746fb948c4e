import PyProof.Rows.All
import Wide.All
import OpenK.AllK
import Wide.FinOn
import Lean
import PyProof.EqAt
import PyProof.EqKinds
import PyProof.TupleCall
import PySem.Syntax
import PySem.Eval
import PyProof.P3In
import KE.KIsAll
import PyProof.CollectIter
import PyProof.ListRange
import KE.KSortTup
import PySem.Challenge.RW_leaffold_k10_pages
noncomputable section
set_option linter.all false
set_option maxRecDepth 100000
set_option maxHeartbeats 4000000
set_option Elab.async false
set_option genSizeOf false
set_option bootstrap.genMatcherCode false
set_option compiler.extract_closed false
open Array (append_empty getD_eq_getD_getElem? length_toList)
open Bool (or_eq_true)
open List (all_cons all_eq_true any_cons drop_zero find?_cons getElem?_drop getElem?_replicate getElem_of_mem lookup_cons map_nil mem_filterMap mem_of_mem_drop mem_of_mem_take mem_reverse nil_append nodup_cons of_mem_zip pairwise_map pairwise_singleton perm_append_comm range' reverse_cons take_append_drop take_zero)
open Nat (add_comm le_succ_of_le min_eq_left min_le_right not_lt)
open Option (getD_some)
open PySem.F (args_tuple_add_2 entry_tuple_add plainAttrs_list slot_tuple_add)
open PySem.Heap (size_push)
open PySem.W (callWith_K callWith_K0 cellsFrom_some codeIn emptyDict excIn findIn handedIn hasDictIn hideAll instObj isFn keepIn kia_one kitOne kitx_dict kitx_list lookIn makesIn methodObj mg_none_of mg_of mroIn nsIn plainGet plainGet_of plainOver specialIn tail_of_in takerIn takesIn)
abbrev q8:=@List.getElem?_eq_some_iff
abbrev q9:=@List.getD_eq_getElem?_getD
abbrev qg:=@Option.some.injEq
abbrev qh:=@List.mem_of_getElem?
abbrev qi:=@Option.bind_eq_some_iff
abbrev qj:=@List.getElem?_eq_getElem
abbrev qk:=@List.getElem?_map
abbrev ql:=@List.length_map
abbrev qm:=@Nat.le_refl
abbrev qo:=@Option.bind_eq_bind
abbrev qp:=@decide_eq_false
abbrev qq:=@PySem.Heap.get?_push_of_some
abbrev qr:=@Bool.false_eq_true
abbrev qt:=@List.mem_cons_of_mem
abbrev qu:=@List.size_toArray
abbrev qv:=@Bool.and_eq_true
abbrev qw:=@Option.some.inj
abbrev qx:=@Option.map_eq_some_iff
abbrev qy:=@List.append_assoc
abbrev qz:=@Nat.lt_of_lt_of_le
abbrev r8:=@Bool.false_ne_true
abbrev rg:=@decide_eq_true_eq
abbrev rh:=@List.length_range
abbrev rj:=@List.getElem?_set_self
abbrev rn:=@List.getElem?_set_ne
abbrev rq:=@PySem.Heap.lt_size
abbrev se:=@Nat.le_trans
abbrev sf:=@List.mem_singleton
abbrev sg:=@List.mem_cons
abbrev sh:=@PyProof.Rows.callWith_type1
abbrev sj:=@Nat.zero_add
abbrev sk:=@List.length_append
abbrev so:=@Bool.not_true
abbrev sq:=@List.append_nil
abbrev sr:=@List.length_eq_zero_iff
abbrev su:=@List.map_cons
abbrev sv:=@decide_eq_true
abbrev t7:=@beq_iff_eq
abbrev t8:=@List.mem_map
abbrev t9:=@PySem.mem_of_lookup
abbrev tf:=@beq_eq_false_iff_ne
abbrev tj:=@Nat.ne_of_lt
abbrev tm:=@List.length_take
abbrev tu:=@List.mem_append_right
abbrev tw:=@List.mem_append_left
abbrev u0:=@Nat.lt_irrefl
abbrev u7:=@PySem.wpAny_bind
abbrev ua:=@PySem.wpAny_pure
abbrev ub:=@PySem.wpAny_mono
abbrev uc:=@PySem.Heap.get?_push_size
abbrev ud:=@Option.map_some
abbrev ue:=@Option.bind_some
abbrev uf:=@Nat.le_succ
abbrev ug:=@List.mem_cons_self
abbrev uh:=@Nat.lt_succ_self
abbrev ui:=@List.getElem?_range
abbrev uj:=@List.length_cons
abbrev uk:=@List.map_append
abbrev um:=@List.take_add_one
abbrev uo:=@List.not_mem_nil
abbrev uq:=@List.map_map
abbrev ur:=@List.getElem?_append_left
abbrev uu:=@List.getElem?_append_right
abbrev uv:=@List.mem_range
abbrev uw:=@Nat.zero_le
abbrev ux:=@List.length_reverse
abbrev uy:=@List.take_length
abbrev uz:=@List.drop_length
abbrev v3:=@List.length_drop
abbrev v5:=@List.getElem_mem
abbrev v7:=@List.pairwise_cons
abbrev v8:=@List.pairwise_append
abbrev v9:=@List.mem_append
abbrev va:=PySem.W.Frag
abbrev vb:=PySem.FuncData
abbrev vc:=PySem.Program
abbrev vd:=PySem.Value→PySem.Shared→Prop
abbrev ve:=List (PySem.Addr×PySem.Obj)
abbrev vf:=PySem.Str→Option PySem.Value
namespace L2
open PySem PySem.Spec PyProof.Rows
abbrev Key:=Sum Int Str
noncomputable def qA:Key→Value→Bool
 |.inl k,v=>Value.isInt k v
 |.inr x,v=>Value.isStrOf x v
noncomputable def aHL(w:World):Key→Int
 |.inl k=>hashInt k
 |.inr x=>hashStr w x
theorem bW:∀{k:Key} {v:Value},qA k v=true→(∃i t,k=Sum.inl i∧v=Value.int i t)∨(∃x t,k=Sum.inr x∧v=Value.str x t)
 |.inl i,v,h=>by
  obtain⟨t,e⟩:=Value.isInt_shape (k:=i) (v:=v) h;exact .inl ⟨i,t,rfl,e⟩
 |.inr x,v,h=>by
  obtain⟨t,e⟩:=Value.isStrOf_shape (x:=x) (v:=v) h;exact .inr ⟨x,t,rfl,e⟩
theorem EU(i:Int)(t:Tok):qA (.inl i) (.int i t)=true:=by simp[qA,Value.isInt]
theorem ET(x:Str)(t:Tok):qA (.inr x) (.str x t)=true:=by simp[qA,Value.isStrOf]
theorem ZZ(a b:Int):decide ((Sum.inl a:Key)=Sum.inl b)=(a == b):=by
 by_cases e:a=b
 ·subst e;simp
 ·have h:¬(Sum.inl a:Key)=Sum.inl b:=fun q=>e (Sum.inl.inj q)
  rw[qp h];exact(tf.mpr e).symm
theorem ZW(a b:Str):decide ((Sum.inr a:Key)=Sum.inr b)=decide (a=b):=by
 by_cases e:a=b
 ·subst e;simp
 ·have h:¬(Sum.inr a:Key)=Sum.inr b:=fun q=>e (Sum.inr.inj q)
  rw[qp h,qp e]
theorem ZY(a:Int)(b:Str):decide ((Sum.inl a:Key)=Sum.inr b)=false:=qp (fun q=>nomatch q)
theorem ZX(a:Str)(b:Int):decide ((Sum.inr a:Key)=Sum.inl b)=false:=qp (fun q=>nomatch q)
noncomputable def bQ(prog:vc)(w:World):PySem.KeyKind prog w Key where
 is:=qA
 hash:=aHL w
 inj:=fun v a b ha hb=>by
  rcases bW ha with ⟨i,t,rfl,rfl⟩|⟨x,t,rfl,rfl⟩
  ·rcases bW hb with ⟨j,u,rfl,e⟩|⟨y,u,rfl,e⟩
   ·injection e with e1 _;rw[e1]
   ·exact nomatch e
  ·rcases bW hb with ⟨j,u,rfl,e⟩|⟨y,u,rfl,e⟩
   ·exact nomatch e
   ·injection e with e1 _;rw[e1]
 byValue:=fun k v h=>by
  rcases bW h with ⟨i,t,rfl,rfl⟩|⟨x,t,rfl,rfl⟩<;>rfl
 pyHash:=fun hv h=>by
  rcases bW hv with ⟨i,t,rfl,rfl⟩|⟨x,t,rfl,rfl⟩
  ·exact wpAny_pyHash_int h
  ·exact wpAny_pyHash_str h
 eqBool:=fun hu hv h=>by
  rcases bW hu with ⟨i,t,rfl,rfl⟩|⟨x,t,rfl,rfl⟩
  ·rcases bW hv with ⟨j,u,rfl,rfl⟩|⟨y,u,rfl,rfl⟩
   ·rw[ZZ]at h;exact wpAny_eqBool_int h
   ·rw[ZY]at h;exact SeqAt.EqAt.int_str i t y u _ _ _ _ h
  ·rcases bW hv with ⟨j,u,rfl,rfl⟩|⟨y,u,rfl,rfl⟩
   ·rw[ZX]at h;exact SeqAt.EqAt.str_int x t j u _ _ _ _ h
   ·rw[ZW]at h;exact wpAny_eqBool_str h
 «strs»:=fun k x t v h=>by
  rcases bW h with ⟨i,u,rfl,e⟩|⟨y,u,rfl,e⟩
  ·exact nomatch e
  ·injection e with e1 _
   subst e1;cases v<;>rfl
theorem vL(prog:vc)(w:World)(i:Int)(t:Tok):(bQ prog w).is (.inl i) (.int i t)=true:=EU i t
theorem eU(prog:vc)(w:World)(x:Str)(t:Tok):(bQ prog w).is (.inr x) (.str x t)=true:=ET x t
inductive V where
 |non|bl (b:Bool)|int (i:Int)|str (x:Str)|byt (b:Array UInt8)|flt (b:UInt64)|ref (a:Addr)|ty (n:String)
 deriving DecidableEq
noncomputable def RelV:V→Value→Prop
 |.non,u=>u=Value.none
 |.bl b,u=>u=Value.bool b
 |.int i,u=>∃t,u=Value.int i t
 |.str x,u=>∃t,u=Value.str x t
 |.byt b,u=>∃t,u=Value.bytes b t
 |.flt b,u=>∃t,u=Value.float b t
 |.ref a,u=>u=Value.ref a
 |.ty n,u=>u=Value.type n
abbrev aS:List V→List Value→Prop:=Paired RelV
theorem aS.length{xs:List V}{us:List Value}(r:aS xs us):xs.length=us.length:=Paired.length r
theorem aS.get:∀{xs:List V} {us:List Value} {i:Nat} {x:V},aS xs us→xs[i]?=some x→∃u,us[i]?=some u∧RelV x u
 |_,_,_,_,.nil,e=>by simp at e
 |_,_,0,_,.cons r _,e=>by simp at e;subst e;exact⟨_,rfl,r⟩
 |_,_,i+1,x,.cons _ t,e=>by
  obtain⟨u,h1,h2⟩:=aS.get (i:=i) (x:=x) t (by simpa using e)
  exact⟨u,by simpa using h1,h2⟩
theorem aS.set{x:V}{u:Value}(r:RelV x u):∀{xs:List V} {us:List Value} (i:Nat),aS xs us→aS (xs.set i x) (us.set i u)
 |_,_,_,.nil=>.nil
 |_,_,0,.cons _ t=>.cons r t
 |_,_,i+1,.cons q t=>.cons q (aS.set r i t)
theorem aS.append:∀{xs ys:List V} {us ws:List Value},aS xs us→aS ys ws→aS (xs++ys) (us++ws)
 |_,_,_,_,.nil,s=>s
 |_,_,_,_,.cons r t,s=>.cons r (aS.append t s)
theorem aS.take:∀{xs:List V} {us:List Value} (n:Nat),aS xs us→aS (xs.take n) (us.take n)
 |_,_,0,_=>.nil
 |_,_,_+1,.nil=>.nil
 |_,_,n+1,.cons r t=>.cons r (aS.take n t)
theorem aS.drop:∀{xs:List V} {us:List Value} (n:Nat),aS xs us→aS (xs.drop n) (us.drop n)
 |_,_,0,r=>r
 |_,_,_+1,.nil=>.nil
 |_,_,n+1,.cons _ t=>aS.drop n t
noncomputable def jO:Option V→Option Value→Prop
 |some v,some u=>RelV v u
 |none,none=>True
 |_,_=>False
noncomputable def KV{κ:Type}:List (κ×V)→List (κ×Value)→Prop:=Paired fun (p:κ×V) (q:κ×Value)=>p.1=q.1∧RelV p.2 q.2
noncomputable def kV:Key→V
 |.inl i=>.int i
 |.inr x=>.str x
inductive HO where
 |lst (xs:List V)
 |tup (xs:List V)
 |dK (kvs:List (Key×V))|dT (kvs:List (List Key×V))
 |set (S:Int→Bool) (n:Nat)
 |ins (C dx:Addr) (fs:List (Str×V))
 |own (x:Addr)
 |xd (fs:List (Str×V))
 |met (f x:Addr)
 |rng (lo hi:Int)
 |frz (o:Obj) (u:HO)
 |tbl (ps:Array Value)
 |ext (φ:Heap→Prop)
abbrev Hp:=Addr→Option HO
noncomputable def upd(H:Hp)(a:Addr)(o:HO):Hp:=fun b=>if b=a then some o else H b
theorem aM{H:Hp}{a:Addr}{o:HO}:upd H a o a=some o:=by unfold upd;rw[if_pos rfl]
theorem aN{H:Hp}{a b:Addr}{o:HO}(h:b≠a):upd H a o b=H b:=by unfold upd;rw[if_neg h]
theorem aEh{H:Hp}{a b:Addr}{o u:HO}(h:H a=some o)(h':H b=some u)(d:o≠u):a≠b:=by
 intro e;subst e;rw[h]at h';exact d (qw h')
theorem bE{H:Hp}{a b:Addr}{o:HO}(h:H a=some o)(h':H b=none):a≠b:=by
 intro e;subst e;rw[h]at h';cases h'
section
variable (P:vc)(w:World)
noncomputable def bZ(H:Hp)(h:Heap)(a:Addr):HO→Prop
 |.lst xs=>xs.length≤sizeLine∧∃(its:List Value) (n:Nat),aS xs its∧h.get? a=some { cls:=.type "list",data:=.seq its.toArray n }
 |.tup xs=>xs.length≤sizeLine∧∃its:List Value,aS xs its∧IsTup h a its.toArray
 |.dK kvs=>kvs.length≤sizeLine∧(a == sysModules)=false∧∃vs,KV kvs vs∧h.DictOf (bQ P w) a vs
 |.dT kvs=>kvs.length≤sizeLine∧(a == sysModules)=false∧∃xs:List (List Key×Addr×Value),
   Paired (fun (p:List Key×V) (q:List Key×Addr×Value)=>p.1=q.1∧H q.2.1=some (.tup (p.1.map kV))∧RelV p.2 q.2.2) kvs xs ∧
   ∃o es ep,h.get? a=some o∧o.ExactDict∧o.data=.dict es ep∧es.toList=xs.map (entryOfKey (tupleKind (bQ P w)))∧(xs.map (·.1)).Nodup
 |.set S n=>h.SetOf (intKind P w) a S n
 |.ins C dx fs=>H dx=some (.own a)∧fs.length≤1000∧dx≠a∧h.get? a=some (instObj C dx) ∧
   ∃mA,h.Ns1 dx mA∧(∀f,jO (fs.lookup f) (mA f))∧PySem.Within mA (fs.map (·.1))
 |.own _=>∃o,h.get? a=some o
 |.xd fs=>∃mA,h.Ns1 a mA∧∀f,jO (fs.lookup f) (mA f)
 |.rng lo hi=>∃t u v,h.get? a=some { cls:=.type "range",data:=.fields #[.int lo t,.int hi u,.int 1 v] }
 |.frz o u=>h.get? a=some o∧bZ H h a u
 |.tbl ps=>h.get? a=some { cls:=.none,data:=.fields ps }
 |.met f x=>h.get? a=some (methodObj (.ref f) (.ref x))
 |.ext φ=>φ h∧(∃o,h.get? a=some o)∧∀h1 h2:Heap,φ h1→(∀o,h1.get? a=some o→h2.get? a=some o)→φ h2
def HOk(H:Hp)(h:Heap):Prop:=∀a o,H a=some o→bZ P w H h a o
end
section
variable {P:vc}{w:World}{H H':Hp}{h h':Heap}{a:Addr}{o:HO}
theorem bZ.lt(x:bZ P w H h a o):a<h.objs.size:=by
 cases o with
 |lst xs=>obtain⟨_,_,_,_,e⟩:=x;exact rq e
 |tup xs=>obtain⟨_,_,_,p⟩:=x;exact p.lt
 |dK kvs=>obtain⟨_,_,_,_,o,_,_,e,_⟩:=x;exact rq e
 |dT kvs=>obtain⟨_,_,_,_,o,_,_,e,_⟩:=x;exact rq e
 |set S n=>obtain⟨o,_,_,_,e,_⟩:=x;exact rq e
 |ins C dx fs=>obtain⟨_,_,_,e,_⟩:=x;exact rq e
 |own y=>obtain⟨_,e⟩:=x;exact rq e
 |xd fs=>obtain⟨_,⟨_,_,_,e,_⟩,_⟩:=x;exact rq e
 |rng lo hi=>obtain⟨_,_,_,e⟩:=x;exact rq e
 |frz ob u=>obtain⟨e,_⟩:=x;exact rq e
 |tbl ps=>exact rq (show h.get? a=some _ from x)
 |met f y=>exact rq (show h.get? a=some _ from x)
 |ext φ=>obtain⟨_,⟨_,e⟩,_⟩:=x;exact rq e
theorem Paired.mapP{α β:Type}{F G:α→β→Prop}:∀{l₁:List α} {l₂:List β},Paired F l₁ l₂→(∀a b,F a b→G a b)→Paired G l₁ l₂
 |_,_,.nil,_=>.nil
 |_,_,.cons r t,f=>.cons (f _ _ r) (Paired.mapP t f)
theorem bZ.stay(x:bZ P w H h a o)(k:∀b u,(b=a∨H b=some (.own a))→h.get? b=some u→h'.get? b=some u)
  (ho:∀b,H b=some (.own a)→H' b=some (.own a)) (ht:∀b xs,H b=some (.tup xs)→H' b=some (.tup xs)):bZ P w H' h' a o:=by
 induction o with
 |lst xs=>obtain⟨z,its,n,r,e⟩:=x;exact⟨z,its,n,r,k _ _ (.inl rfl) e⟩
 |tup xs=>obtain⟨z,its,r,ob,e,c⟩:=x;exact⟨z,its,r,ob,k _ _ (.inl rfl) e,c⟩
 |dK kvs=>obtain⟨z,y,vs,r,ob,es,ep,e,c⟩:=x;exact⟨z,y,vs,r,ob,es,ep,k _ _ (.inl rfl) e,c⟩
 |dT kvs =>
  obtain⟨z,y,xs,r,ob,es,ep,e,c⟩:=x;exact⟨z,y,xs,Paired.mapP r fun p q z=>⟨z.1,ht _ _ z.2.1,z.2.2⟩,ob,es,ep,k _ _ (.inl rfl) e,c⟩
 |set S n=>obtain⟨ob,es,ep,t,e,c⟩:=x;exact⟨ob,es,ep,t,k _ _ (.inl rfl) e,c⟩
 |ins C dx fs =>
  obtain⟨d,z,ne,e,mA,⟨od,es,ep,e2,c⟩,r⟩:=x;exact⟨ho _ d,z,ne,k _ _ (.inl rfl) e,mA,⟨od,es,ep,k _ _ (.inr d) e2,c⟩,r⟩
 |own y=>obtain⟨ob,e⟩:=x;exact⟨ob,k _ _ (.inl rfl) e⟩
 |xd fs=>obtain⟨mA,⟨od,es,ep,e,c⟩,r⟩:=x;exact⟨mA,⟨od,es,ep,k _ _ (.inl rfl) e,c⟩,r⟩
 |rng lo hi=>obtain⟨t,u,v,e⟩:=x;exact⟨t,u,v,k _ _ (.inl rfl) e⟩
 |frz ob u ih=>obtain⟨e,q⟩:=x;exact⟨k _ _ (.inl rfl) e,ih q⟩
 |tbl ps =>
  have e:h.get? a=some { cls:=.none,data:=.fields ps }:=x
  show h'.get? a=some { cls:=.none,data:=.fields ps }
  exact k a _ (.inl rfl) e
 |met f y =>
  have e:h.get? a=some (methodObj (.ref f) (.ref y)):=x
  show h'.get? a=some (methodObj (.ref f) (.ref y))
  exact k a _ (.inl rfl) e
 |ext φ=>obtain⟨p,⟨o,e⟩,st⟩:=x;exact⟨st _ _ p fun o q=>k _ _ (.inl rfl) q,⟨o,k _ _ (.inl rfl) e⟩,st⟩
theorem HOk.lt(x:HOk P w H h)(e:H a=some o):a<h.objs.size:=(x a o e).lt
theorem HOk.fresh(x:HOk P w H h)(e:h.objs.size≤a):H a=none:=by
 cases q:H a with
 |none=>rfl
 |some u=>exact absurd (qz (x.lt q) e) (u0 _)
theorem HOk.kept(x:HOk P w H h)(k:∀b u,h.get? b=some u→h'.get? b=some u):HOk P w H h':=fun a o e =>
 (x a o e).stay (fun b u _ q=>k b u q) (fun _ q=>q) fun _ _ q=>q
theorem HOk.laid(x:HOk P w H h)(k:∀b u,h.get? b=some u→h'.get? b=some u)(hp:h.objs.size≤a)(new:bZ P w (upd H a o) h' a o):HOk P w (upd H a o) h':=fun b u e=>by
 have hn:=x.fresh hp
 by_cases hb:b=a
 ·subst hb;rw[aM]at e;cases e;exact new
 ·rw[aN hb]at e;exact(x b u e).stay (fun c v _ q=>k c v q) (fun c q=>by rw[aN (bE q hn)];exact q) fun c xs q=>by rw[aN (bE q hn)];exact q
end
def Rd(H:Hp)(a:Addr)(u:HO):Prop:=H a=some u∨∃o,H a=some (.frz o u)
theorem Rd.ok{P:vc}{w:World}{H:Hp}{h:Heap}{a:Addr}{u:HO}(r:Rd H a u)(x:HOk P w H h):bZ P w H h a u:=by
 rcases r with r|⟨o,r⟩
 ·exact x a u r
 ·obtain⟨_,q⟩:=x a _ r;exact q
noncomputable def qa:Option HO→Prop
 |some (.lst _)=>True
 |some (.dK _)=>True
 |some (.dT _)=>True
 |some (.set _ _)=>True
 |some (.ins _ _ _)=>True
 |some (.ext _)=>True
 |_=>False
section
variable {P:vc}{w:World}{H:Hp}{h h':Heap}{x e:Addr}{o':HO}
theorem HOk.write(ok:HOk P w H h)(mu:qa (H x))(he:e=x∨H e=some (.own x))(k:∀b u,b≠e→h.get? b=some u→h'.get? b=some u)(l0:∃u,h'.get? e=some u)
  (new:bZ P w (upd H x o') h' x o'):HOk P w (upd H x o') h':=fun b u q=>by
 have nown:∀c y,H c=some (.own y)→c≠x:=fun c y r z=>by subst z;rw[r]at mu;exact mu
 have ntup:∀c xs,H c=some (.tup xs)→c≠x:=fun c xs r z=>by subst z;rw[r]at mu;exact mu
 by_cases hb:b=x
 ·subst hb;rw[aM]at q;cases q;exact new
 ·rw[aN hb]at q
  by_cases kh:b=e
  ·have q':H b=some (.own x):=by
    rcases he with z|z
    ·exact absurd (kh.trans z) hb
    ·rw[kh];exact z
   rw[q]at q';cases q';obtain⟨v,hv⟩:=l0;exact⟨v,by rw[kh];exact hv⟩
  ·refine(ok b u q).stay (fun c v hc r=>k c v ?_ r) (fun c r=>by rw[aN (nown c b r)];exact r) fun c xs r=>by rw[aN (ntup c xs r)];exact r
   rcases hc with rfl|hc
   ·exact kh
   ·rintro rfl
    rcases he with z|z
    ·exact nown c b hc z
    ·rw[hc]at z;cases z;exact hb rfl
end
structure Un (fs ex:List Addr) (H H':Hp) (h h':Heap):Prop where
 keep:∀b o,h.get? b=some o→H b=none→b∉fs→b∉ex→h'.get? b=some o
 slot:∀b o,h.get? b=some o→H b=none→b∈fs→b∉ex→∃sl,h'.get? b=some { o with slots:=sl }
 free:∀b o,h.get? b=some o→H b=none→b∉ex→H' b=none
 there:∀b o,h.get? b=some o→b∉ex→∃o',h'.get? b=some o'
 tups:∀b xs,H b=some (.tup xs)→H' b=some (.tup xs)
 frzs:∀b o u,H b=some (.frz o u)→H' b=some (.frz o u)
 tbls:∀b ps,H b=some (.tbl ps)→∃more,H' b=some (.tbl (ps++more))
section
variable {fs fs' ex ex':List Addr}{H H1 H2:Hp}{h h1 h2 h':Heap}{a x e:Addr}{o:HO}
theorem Un.any(u:Un fs ex H H1 h h1){b:Addr}{ob:Obj}(q:h.get? b=some ob)(n:H b=none)(hx:b∉ex):∃sl,h1.get? b=some { ob with slots:=sl }:=by
 by_cases hb:b∈fs
 ·exact u.slot b ob q n hb hx
 ·exact⟨ob.slots,u.keep b ob q n hb hx⟩
theorem Un.kept(k:∀b u,h.get? b=some u→h'.get? b=some u):Un fs ex H H h h':=
 ⟨fun b ob q _ _ _=>k b ob q,fun b ob q _ _ _=>⟨ob.slots,k b ob q⟩,fun _ _ _ n _=>n,fun b ob q _=>⟨ob,k b ob q⟩,fun _ _ q=>q,fun _ _ _ q=>q,fun _ ps q=>⟨#[],by rw[q];simp⟩⟩
theorem Un.refl:Un fs ex H H h h:=Un.kept fun _ _ q=>q
theorem Un.laid(k:∀b u,h.get? b=some u→h'.get? b=some u)(hp:h.objs.size≤a)(hn:H a=none):Un fs ex H (upd H a o) h h' where
 keep:=fun b u q _ _ _=>k b u q
 slot:=fun b u q _ _ _=>⟨u.slots,k b u q⟩
 free:=fun b u q n _=>by rw[aN (tj (qz (rq q) hp))];exact n
 there:=fun b u q _=>⟨u,k b u q⟩
 tups:=fun b xs q=>by rw[aN (bE q hn)];exact q
 frzs:=fun b u xs q=>by rw[aN (bE q hn)];exact q
 tbls:=fun b ps q=>⟨#[],by rw[aN (bE q hn),q];simp⟩
theorem Un.write(mu:qa (H x))(he:e=x∨H e=some (.own x))(k:∀b u,b≠e→h.get? b=some u→h'.get? b=some u)(l0:∃u,h'.get? e=some u):Un fs ex H (upd H x o) h h':=by
 have hx:∀b,H b=none→b≠x:=fun b n z=>by subst z;rw[n]at mu;exact mu
 have hb:∀b,H b=none→b≠e:=fun b n z=>by
  subst z
  rcases he with r|r
  ·exact hx b n r
  ·rw[n]at r;cases r
 have hm:∀b u,H b=some u→¬qa (some u)→b≠x:=fun b u q nm z=>by subst z;rw[q]at mu;exact nm mu
 refine⟨fun b u q n _ _=>k b u (hb b n) q,fun b u q n _ _=>⟨u.slots,k b u (hb b n) q⟩,fun b u q n _=>by rw[aN (hx b n)];exact n,fun b u q _=>?_,
  fun b xs q=>by rw[aN (hm b _ q fun z=>z)];exact q,fun b u xs q=>by rw[aN (hm b _ q fun z=>z)];exact q,fun b ps q=>⟨#[],by rw[aN (hm b _ q fun z=>z),q];simp⟩⟩
 by_cases kh:b=e
 ·subst kh;exact l0
 ·exact⟨u,k b u kh q⟩
end
noncomputable def trk(h:Heap)(H:Hp):List Addr:=(List.range h.objs.size).filter fun a=>(H a).isSome
noncomputable def sG(h:Heap)(H:Hp):Heap:=hideAll h (trk h H)
theorem EZ(h:Heap)(H:Hp):(sG h H).objs.size=h.objs.size:=PySem.W.hideAll_size _ _
theorem JY{h:Heap}{H:Hp}{b:Addr}{o:Obj}(e:h.get? b=some o)(n:H b=none):(sG h H).get? b=some o:=
 PySem.W.hideAll_get _ e fun hm=>by
  have q:(H b).isSome=true:=(List.mem_filter.mp hm).2
  rw[n]at q;simp at q
theorem RB{h:Heap}{H:Hp}{b:Addr}{o:Obj}(e:(sG h H).get? b=some o):h.get? b=some o∧H b=none:=by
 have e':h.get? b=some o:=PySem.W.of_hideAll (trk h H) e
 refine⟨e',?_⟩;cases q:H b with
 |none=>rfl
 |some x =>
  have hm:b∈trk h H:=List.mem_filter.mpr ⟨uv.mpr (rq e'),by simp[q]⟩
  have z:(sG h H).get? b=none:=PySem.W.hideAll_none (trk h H) hm
  rw[z]at e;cases e
noncomputable def TN(g h:Heap)(L:Addr):List (Addr×Obj):=(List.range h.objs.size).filterMap fun a=>if a=L∨(g.get? a).isSome=true then none else(h.get? a).map fun o=>(a,o)
noncomputable def rest(g h:Heap)(L d:Addr):List (Addr×Obj):=(TN g h L).filter fun p=>decide (p.1≠d)
structure Mod (K:va) (mg:vf) (base:Heap):Prop where
 kin:K.In base
 glob:base.Ns mainGlobals mg
 blt:∃mb,base.Ns builtinsNs mb∧∀x:Str,x≠"__name__"→mb x=bootBuiltins x
 nolimit:base.NoLimit
structure Cx where
 prog:vc
 w:World
 K:va
 mg:Str→Option Value
 base:Heap
 A:Around
 N:List Str
 s₀:Shared
 H₀:Hp
 env:Env
 outer:List Env
 stack:List Env
 ex:List Addr
 fn:Str→Bool
 calm:Bool
 pn:List (Addr×Obj)
 xe:Value→Shared→Prop
noncomputable def frs(l:List Env):List Addr:=l.filterMap (·.frame)
abbrev Cx.fs(X:Cx):List Addr:=frs X.outer
def Vis(sc:Scope)(x:Str):Prop:=sc.names.lookup x=some .local∨sc.names.lookup x=some .cell∨sc.names.lookup x=some .free
def Loc(sc:Scope)(x:Str):Prop:=sc.names.lookup x=some .local∨sc.names.lookup x=some .cell
def Look(env:Env)(h:Heap)(m:vf)(x:Str)(u:Value):Prop:=
 (env.kindOf x=some .local∧m x=some u)∨((env.kindOf x=some .cell∨env.kindOf x=some .free)∧∃c,env.cells.lookup x=some c∧h.IsCell c (some u))
structure Cx.Ok (X:Cx):Prop where
 mod:Mod X.K X.mg X.base
 kind:X.env.scope.kind=.function
 glob:X.env.globals=mainGlobals
 blt:X.env.builtins=builtinsNs
 above:X.s₀.heap.objs.size≤X.env.locals
 inj:∀x y c,X.env.cells.lookup x=some c→X.env.cells.lookup y=some c→x=y
 has:∀x,(X.env.kindOf x=some .cell∨X.env.kindOf x=some .free)→∃c,X.env.cells.lookup x=some c
 cab:∀x c,X.fn x=true→X.env.cells.lookup x=some c→X.s₀.heap.objs.size≤c
 hd:X.calm=true→X.A.handled=none
 frames:X.A.frames=some X.stack
 stk:X.stack=X.outer∨(X.stack=X.env::X.outer∧X.env.frame=some X.env.locals)
 exf:∀b∈X.ex,b≠X.env.locals∧∀x c,X.env.cells.lookup x=some c→c≠b
 bs:∀b o,X.base.get? b=some o→X.s₀.heap.get? b=some o∧X.H₀ b=none
 bsz:X.base.objs.size≤X.s₀.heap.objs.size
 noex:∀b o,X.base.get? b=some o→b∉X.ex
 exfs:∀b∈X.ex,b∉X.fs
 funs:X.s₀.heap.FunFrames X.base X.outer
 frf:∀b∈X.fs,X.H₀ b=none
structure Inv (X:Cx) (pins:ve) (σ:List (Option V)) (H:Hp) (s:Shared):Prop where
 ok:X.Ok
 os:s.os=X.s₀.os
 bare:AllBare s.gens
 base:Un X.fs X.ex X.H₀ H X.s₀.heap s.heap
 loc:∃m,s.heap.Ns X.env.locals m∧∀(i:Nat) (x:Str) (v:V),X.N[i]?=some x→σ[i]?=some (some v)→Vis X.env.scope x→∃u,RelV v u∧Look X.env s.heap m x u
 cell:∀x c,X.env.cells.lookup x=some c→∃v,s.heap.IsCell c v
 free:H X.env.locals=none
 freeC:∀x c,X.env.cells.lookup x=some c→H c=none
 pin:∀p∈X.pn++pins,s.heap.get? p.1=some p.2∧H p.1=none∧p.1≠X.env.locals∧p.1∉X.fs∧∀v,p.2.data≠.cell v
 hok:HOk X.prog X.w H s.heap
 len:σ.length=X.N.length
section
variable {X:Cx}{pins:ve}{σ:List (Option V)}{H H':Hp}{s:Shared}{h':Heap}
theorem Cx.Ok.nofr(ok:X.Ok){b:Addr}{o:Obj}(e:X.base.get? b=some o):b∉X.fs:=fun hb=>by
 have:=(ok.funs.mem hb).1
 rw[e]at this;cases this
theorem Inv.bs(I:Inv X pins σ H s):∀b o,X.base.get? b=some o→s.heap.get? b=some o∧H b=none:=fun b o e =>
 ⟨I.base.keep b o (I.ok.bs b o e).1 (I.ok.bs b o e).2 (I.ok.nofr e) (I.ok.noex b o e),I.base.free b o (I.ok.bs b o e).1 (I.ok.bs b o e).2 (I.ok.noex b o e)⟩
theorem Inv.bk(I:Inv X pins σ H s):∀b o,X.base.get? b=some o→s.heap.get? b=some o:=fun b o e=>(I.bs b o e).1
theorem Inv.mod(I:Inv X pins σ H s):Mod X.K X.mg X.base:=I.ok.mod
theorem Inv.kIn(I:Inv X pins σ H s):X.K.In s.heap:=I.ok.mod.kin.keeps I.bk
theorem Inv.lt(I:Inv X pins σ H s):X.env.locals<s.heap.objs.size:=let ⟨_,hn,_⟩:=I.loc;hn.lt
theorem Inv.sz(I:Inv X pins σ H s):X.s₀.heap.objs.size≤s.heap.objs.size:=se I.ok.above (Nat.le_of_lt I.lt)
theorem Inv.nofs(I:Inv X pins σ H s){a:Addr}(h:s.heap.objs.size≤a):a∉X.fs:=fun hb=>by
 obtain⟨_,o,ho,_⟩:=I.ok.funs.mem hb;exact absurd (qz (rq ho) (se I.sz h)) (u0 _)
theorem Inv.cne(I:Inv X pins σ H s):∀x c,X.env.cells.lookup x=some c→c≠X.env.locals:=fun x c e z=>by
 obtain⟨v,o,ho,hd⟩:=I.cell x c e;obtain⟨m,⟨o',es,ep,ic,hd',_⟩,_⟩:=I.loc;rw[z,ic]at ho;cases ho;rw[hd']at hd;cases hd
theorem Inv.funs(I:Inv X pins σ H s):s.heap.FunFrames X.base X.outer:=by
 have all:∀(l:List Env),(∀b∈frs l,b∈X.fs)→X.s₀.heap.FunFrames X.base l→s.heap.FunFrames X.base l:=by
  intro l
  induction l with
  |nil=>intro _ _;trivial
  |cons env r ih =>
   intro hs hl;obtain⟨hk,⟨L,o,hf,hn,ho,hd⟩,hr⟩:=hl;have hL:L∈X.fs:=hs L (by unfold frs;rw[List.filterMap_cons,hf];exact ug)
   obtain⟨sl,e⟩:=I.base.slot L o ho (I.ok.frf L hL) hL fun z=>I.ok.exfs L z hL
   exact⟨hk,⟨L,_,hf,hn,e,hd⟩,ih (fun b hb=>hs b (by unfold frs;rw[List.filterMap_cons,hf];exact qt _ hb)) hr⟩
 exact all X.outer (fun _ hb=>hb) I.ok.funs
theorem Inv.stack(I:Inv X pins σ H s):s.heap.FunFrames X.base X.stack:=by
 rcases I.ok.stk with e|⟨e,hf⟩
 ·rw[e];exact I.funs
 ·rw[e];obtain⟨m,hn,_⟩:=I.loc;refine .cons (by rw[I.ok.kind];decide) hf hn ?_ I.funs
  exact Heap.get?_none_of_le (se I.ok.bsz I.ok.above)
theorem Inv.stkSub(I:Inv X pins σ H s):∀b∈frs X.stack,b∈X.env.locals::X.fs:=fun b hb=>by
 rcases I.ok.stk with e|⟨e,hf⟩
 ·rw[e]at hb;exact qt _ hb
 ·rw[e]at hb;unfold frs at hb;rw[List.filterMap_cons,hf]at hb;exact hb
theorem Inv.stkFree(I:Inv X pins σ H s):∀b∈frs X.stack,H b=none:=fun b hb=>by
 rcases sg.mp (I.stkSub b hb) with e|hb
 ·rw[e];exact I.free
 ·obtain⟨_,o,ho,_⟩:=I.ok.funs.mem hb;exact I.base.free b o ho (I.ok.frf b hb) fun z=>I.ok.exfs b z hb
theorem Inv.step{g':Array GenState}{t':Nat}{d':Drawn}{ch:List Addr}(I:Inv X pins σ H s)
  (i4:∀b∈ch,(b∈X.ex∨X.s₀.heap.objs.size≤b)∧b≠X.env.locals∧(∀x c,X.env.cells.lookup x=some c→c≠b)∧∀p∈X.pn++pins,p.1≠b)
  (keep:∀b o,b≠X.env.locals→b∉X.fs→b∉ch→s.heap.get? b=some o→H b=none→h'.get? b=some o)
  (slot:∀b o,b≠X.env.locals→b∈X.fs→b∉ch→s.heap.get? b=some o→H b=none→∃sl,h'.get? b=some { o with slots:=sl }) (free:∀b o,b∉ch→s.heap.get? b=some o→H b=none→H' b=none)
  (there:∀b o,b∉ch→s.heap.get? b=some o→∃o',h'.get? b=some o')
  (tups:∀b xs,H b=some (.tup xs)→H' b=some (.tup xs)) (frzs:∀b o u,H b=some (.frz o u)→H' b=some (.frz o u)) (tbls:∀b ps,H b=some (.tbl ps)→∃more,H' b=some (.tbl (ps++more)))
  (ns:∀m,s.heap.Ns X.env.locals m→h'.Ns X.env.locals m) (hok:HOk X.prog X.w H' h') (hg:AllBare g') :
  Inv X pins σ H' { s with heap:=h',gens:=g',drawn:=d',toks:=t' }:=by
 have neL:∀b o,X.s₀.heap.get? b=some o→b≠X.env.locals:=fun b o e=>tj (qz (rq e) I.ok.above)
 have neC:∀b o,X.s₀.heap.get? b=some o→b∉X.ex→b∉ch:=fun b o e hx hb=>by
  rcases (i4 b hb).1 with z|z
  ·exact hx z
  ·exact absurd (qz (rq e) z) (u0 _)
 have cellK:∀x c,X.env.cells.lookup x=some c→∀v,s.heap.IsCell c v→h'.IsCell c v:=fun x c e v ⟨o,ho,hd⟩=>by
  have ny:c∉ch:=fun z=>(i4 c z).2.2.1 x c e rfl
  by_cases hc:c∈X.fs
  ·obtain⟨sl,q⟩:=slot c o (I.cne x c e) hc ny ho (I.freeC x c e);exact⟨_,q,hd⟩
  ·exact⟨o,keep c o (I.cne x c e) hc ny ho (I.freeC x c e),hd⟩
 refine⟨I.ok,I.os,hg,⟨fun b o e n hb hx=>?_,fun b o e n hb hx=>?_,fun b o e n hx=>?_,fun b o e hx=>?_,fun b xs e=>tups b xs (I.base.tups b xs e),fun b o xs e=>frzs b o xs (I.base.frzs b o xs e),fun b ps e=>?_⟩,?_,fun x c e=>?_,?_,fun x c e=>?_,fun p hp=>?_,hok,I.len⟩
 ·exact keep b o (neL b o e) hb (neC b o e hx) (I.base.keep b o e n hb hx) (I.base.free b o e n hx)
 ·obtain⟨sl,e1⟩:=I.base.slot b o e n hb hx;obtain⟨sl',e2⟩:=slot b _ (neL b o e) hb (neC b o e hx) e1 (I.base.free b o e n hx);exact⟨sl',e2⟩
 ·obtain⟨o',e1⟩:=I.base.there b o e hx;exact free b o' (neC b o e hx) e1 (I.base.free b o e n hx)
 ·obtain⟨o',e1⟩:=I.base.there b o e hx;exact there b o' (neC b o e hx) e1
 ·obtain⟨m1,e1⟩:=I.base.tbls b ps e;obtain⟨m2,e2⟩:=tbls b _ e1;exact⟨m1++m2,by rw[e2,Array.append_assoc]⟩
 ·obtain⟨m,hn,hl⟩:=I.loc;refine⟨m,ns m hn,fun i x v e1 e2 e3=>?_⟩
  obtain⟨u,r,l⟩:=hl i x v e1 e2 e3;refine⟨u,r,?_⟩
  rcases l with l|⟨k,c,e,z⟩
  ·exact .inl l
  ·exact .inr ⟨k,c,e,cellK x c e _ z⟩
 ·obtain⟨v,z⟩:=I.cell x c e;exact⟨v,cellK x c e v z⟩
 ·obtain⟨m,⟨o,_,_,ho,_⟩,_⟩:=I.loc;exact free _ o (fun z=>(i4 _ z).2.1 rfl) ho I.free
 ·obtain⟨v,o,ho,hd⟩:=I.cell x c e;exact free c o (fun z=>(i4 c z).2.2.1 x c e rfl) ho (I.freeC x c e)
 ·obtain⟨e,n,ne,nf,d⟩:=I.pin p hp;have ny:p.1∉ch:=fun z=>(i4 p.1 z).2.2.2 p hp rfl
  exact⟨keep p.1 p.2 ne nf ny e n,free p.1 p.2 ny e n,ne,nf,d⟩
theorem Inv.un{t':Nat}(I:Inv X pins σ H s)(u:Un X.fs [] H H' s.heap h')(hok:HOk X.prog X.w H' h'):Inv X pins σ H' { s with heap:=h',toks:=t' }:=by
 obtain⟨m,⟨o,es,ep,ho,r⟩,_⟩:=id I.loc;obtain⟨sl,hL⟩:=u.any ho I.free (by simp)
 exact I.step (g':=s.gens) (d':=s.drawn) (ch:=[]) (fun _ z=>nomatch z) (fun b o _ hb _ e n=>u.keep b o e n hb (by simp)) (fun b o _ hb _ e n=>u.slot b o e n hb (by simp)) (fun b o _ e n=>u.free b o e n (by simp)) (fun b o _ e=>u.there b o e (by simp)) u.tups u.frzs u.tbls (fun m' hm=>by
  obtain⟨o',fv,ep',ic,r'⟩:=hm;rw[ho]at ic;cases ic;exact⟨_,fv,ep',hL,r'⟩) hok I.bare
theorem Inv.call{g':Array GenState}{t':Nat}{d':Drawn}{ch:List Addr}(I:Inv X pins σ H s)(u:Un (frs X.stack) ch H H' s.heap h')(hok:HOk X.prog X.w H' h')(hg:AllBare g')
  (i4:∀b∈ch,(b∈X.ex∨X.s₀.heap.objs.size≤b)∧b≠X.env.locals∧(∀x c,X.env.cells.lookup x=some c→c≠b)∧∀p∈X.pn++pins,p.1≠b) :
  Inv X pins σ H' { s with heap:=h',gens:=g',drawn:=d',toks:=t' }:=by
 obtain⟨m,⟨o,es,ep,ho,r⟩,_⟩:=id I.loc;obtain⟨sl,hL⟩:=u.any ho I.free fun z=>(i4 _ z).2.1 rfl
 exact I.step (ch:=ch) i4 (fun b o hL hb hc e n=>u.keep b o e n (fun z=>(sg.mp (I.stkSub b z)).elim hL hb) hc) (fun b o _ _ hc e n=>u.any e n hc) (fun b o hc e n=>u.free b o e n hc) (fun b o hc e=>u.there b o e hc) u.tups u.frzs u.tbls (fun m' hm=>by
  obtain⟨o',fv,ep',ic,r'⟩:=hm;rw[ho]at ic;cases ic;exact⟨_,fv,ep',hL,r'⟩) hok hg
theorem Inv.turned{t':Nat}{it:Addr}(I:Inv X pins σ H s)(k:∀b o,b≠it→s.heap.get? b=some o→h'.get? b=some o)(hn:H it=none)(hL:it≠X.env.locals)
  (h1:it∈X.ex∨X.s₀.heap.objs.size≤it) (h2:∀x c,X.env.cells.lookup x=some c→c≠it) (h3:∀p∈X.pn++pins,p.1≠it):Inv X pins σ H { s with heap:=h',toks:=t' }:=by
 have nit:∀b u,H b=some u→b≠it:=fun b u e z=>by rw[z,hn]at e;cases e
 refine I.step (g':=s.gens) (d':=s.drawn) (ch:=[it]) (fun b hb=>?_) (fun b o _ _ hc e _=>k b o (fun z=>hc (by simp[z])) e) (fun b o _ _ hc e _=>⟨o.slots,k b o (fun z=>hc (by simp[z])) e⟩) (fun _ _ _ _ n=>n)
  (fun b o hc e=>⟨o,k b o (fun z=>hc (by simp[z])) e⟩) (fun _ _ e=>e) (fun _ _ _ e=>e) (fun b ps e=>⟨#[],by rw[e];simp⟩) (fun m hm=>?_) (fun b u e=>?_) I.bare
 ·have e:b=it:=by simpa using hb
  subst e;exact⟨h1,hL,h2,h3⟩
 ·obtain⟨o,es,ep,ho,r⟩:=hm;exact⟨o,es,ep,k _ o (Ne.symm hL) ho,r⟩
 ·refine(I.hok b u e).stay (fun c v hc q=>k c v ?_ q) (fun _ q=>q) fun _ _ q=>q
  rcases hc with z|z
  ·rw[z];exact nit b u e
  ·exact nit c _ z
theorem Inv.tok(I:Inv X pins σ H s)(t:Nat):Inv X pins σ H { s with toks:=t }:=I.un (h':=s.heap) (t':=t) Un.refl I.hok
theorem Inv.kept{t':Nat}(I:Inv X pins σ H s)(k:∀b u,s.heap.get? b=some u→h'.get? b=some u):Inv X pins σ H { s with heap:=h',toks:=t' }:=I.un (Un.kept k) (I.hok.kept k)
theorem Inv.laid{a:Addr}{o:HO}{t':Nat}(I:Inv X pins σ H s)(k:∀b u,s.heap.get? b=some u→h'.get? b=some u)(hp:s.heap.objs.size≤a)(new:bZ X.prog X.w (upd H a o) h' a o) :
  Inv X pins σ (upd H a o) { s with heap:=h',toks:=t' }:=I.un (Un.laid k hp (I.hok.fresh hp)) (I.hok.laid k hp new)
theorem Inv.write{x e:Addr}{o:HO}{t':Nat}(I:Inv X pins σ H s)(mu:qa (H x))(he:e=x∨H e=some (.own x))(k:∀b u,b≠e→s.heap.get? b=some u→h'.get? b=some u)(l0:∃u,h'.get? e=some u)
  (new:bZ X.prog X.w (upd H x o) h' x o):Inv X pins σ (upd H x o) { s with heap:=h',toks:=t' }:=I.un (Un.write mu he k l0) (I.hok.write mu he k l0 new)
theorem Inv.pins_of{dj:ve}(I:Inv X pins σ H s)(h:∀p∈dj,s.heap.get? p.1=some p.2∧H p.1=none∧p.1≠X.env.locals∧p.1∉X.fs∧∀v,p.2.data≠.cell v):Inv X dj σ H s:=
 ⟨I.ok,I.os,I.bare,I.base,I.loc,I.cell,I.free,I.freeC,fun p hp=>(v9.mp hp).elim (fun z=>I.pin p (tw _ z)) (h p),I.hok,I.len⟩
theorem vH{N:List Str}(hN:N.Nodup){i j:Nat}{x:Str}(a:N[i]?=some x)(b:N[j]?=some x):i=j:=by
 obtain⟨h1,e1⟩:=q8.mp a;obtain⟨h2,e2⟩:=q8.mp b;exact(List.getElem_inj hN).mp (e1.trans e2.symm)
theorem pO{M:Model}{A:Around}{E:vd}{i:Nat}{x:Str}{v:V}{u:Value}{Q:Unit→Shared→Prop}(I:Inv X pins σ H s)(hN:X.N.Nodup)(hi:X.N[i]?=some x)(hx:Loc X.env.scope x)(r:RelV v u)
  (h:∀s',Inv X pins (σ.set i (some v)) H s'→(∃a,Heap.SameBut a s.heap s'.heap∧(a=X.env.locals∨X.env.cells.lookup x=some a))→Q () s') (hf:X.fn x=true∨X.env.scope.names.lookup x=some .local:=by first|exact .inl rfl|exact .inr rfl|assumption):wpAny M A (storeName X.env x u) Q E s:=by
 obtain⟨m,hn,hl⟩:=id I.loc;have ip:(X.env.scope.kind == .class || (X.env.scope.kind == .module&&X.env.locals != X.env.globals))=false:=by rw[I.ok.kind];rfl
 have hiσ:i<σ.length:=by rw[I.len];exact(q8.mp hi).1
 have cne:=I.cne
 have tracked:∀{a:Addr} {h':Heap},(∃o,s.heap.get? a=some o∧H a=none)→Heap.SameBut a s.heap h'→HOk X.prog X.w H h':=fun {a h'} ha hs b ob e=>by
  obtain⟨_,_,hfree⟩:=ha;refine(I.hok b ob e).stay (fun c w' hc q=>(hs.2 c ?_).trans q) (fun _ q=>q) fun _ _ q=>q
  rintro rfl
  rcases hc with rfl|hc
  ·rw[hfree]at e;cases e
  ·rw[hfree]at hc;cases hc
 rcases hx with hk|hk
 ·refine wpAny_storeName_local hk hn (fun h' jl hs=>?_) ip
  obtain⟨oL,_,_,hoL,_⟩:=id hn;refine h _ ⟨I.ok,I.os,I.bare,⟨fun b o e n hb hx=>?_,fun b o e n hb hx=>?_,I.base.free,fun b o e hx=>?_,I.base.tups,I.base.frzs,I.base.tbls⟩,⟨_,jl,fun j y v' e1 e2 e3=>?_⟩,fun y c e=>?_,I.free,I.freeC,fun p hp=>?_,tracked ⟨oL,hoL,I.free⟩ hs,by simpa using I.len⟩ ⟨_,hs,.inl rfl⟩
  ·exact(hs.2 b (tj (qz (rq e) I.ok.above))).trans (I.base.keep b o e n hb hx)
  ·obtain⟨sl,e1⟩:=I.base.slot b o e n hb hx;exact⟨sl,(hs.2 b (tj (qz (rq e) I.ok.above))).trans e1⟩
  ·obtain⟨o',e1⟩:=I.base.there b o e hx;exact⟨o',(hs.2 b (tj (qz (rq e) I.ok.above))).trans e1⟩
  ·by_cases hj:j=i
   ·subst hj;rw[hi]at e1;cases e1;rw[rj hiσ]at e2;cases e2;exact⟨u,r,.inl ⟨hk,by simp⟩⟩
   ·rw[rn (Ne.symm hj)]at e2;obtain⟨u',r',q⟩:=hl j y v' e1 e2 e3;refine⟨u',r',?_⟩
    rcases q with ⟨k,e⟩|⟨k,c,e,z⟩
    ·refine .inl ⟨k,?_⟩;have:y≠x:=fun e=>hj (vH hN e1 (e ▸ hi))
     simp[this,e]
    ·exact .inr ⟨k,c,e,z.sameBut hs (cne y c e)⟩
  ·obtain⟨w',z⟩:=I.cell y c e;exact⟨w',z.sameBut hs (cne y c e)⟩
  ·obtain⟨e,n,ne,nf,d⟩:=I.pin p hp;exact⟨(hs.2 p.1 ne).trans e,n,ne,nf,d⟩
 ·have fz:X.fn x=true:=by
   rcases hf with z|z
   ·exact z
   ·rw[z]at hk;cases hk
  obtain⟨c,hc⟩:=I.ok.has x (.inl hk);obtain⟨w',z⟩:=I.cell x c hc;refine wpAny_storeName_cell I.ok.kind hk hc z (fun h' l5 hs=>?_)
  obtain⟨oc,lq,hocd⟩:=id z;refine h { s with heap:=h' } ⟨I.ok,I.os,I.bare,⟨fun b o e n hb hx=>?_,fun b o e n hb hx=>?_,I.base.free,fun b o e hx=>?_,I.base.tups,I.base.frzs,I.base.tbls⟩,⟨m,hn.sameBut hs (Ne.symm (cne x c hc)),fun j y v' e1 e2 e3=>?_⟩,fun y c' e=>?_,I.free,I.freeC,fun p hp=>?_,tracked ⟨oc,lq,I.freeC x c hc⟩ hs,by simpa using I.len⟩ ⟨c,hs,.inr hc⟩
  ·exact(hs.2 b (tj (qz (rq e) (I.ok.cab x c fz hc)))).trans (I.base.keep b o e n hb hx)
  ·obtain⟨sl,e1⟩:=I.base.slot b o e n hb hx;exact⟨sl,(hs.2 b (tj (qz (rq e) (I.ok.cab x c fz hc)))).trans e1⟩
  ·obtain⟨o',e1⟩:=I.base.there b o e hx;exact⟨o',(hs.2 b (tj (qz (rq e) (I.ok.cab x c fz hc)))).trans e1⟩
  ·by_cases hj:j=i
   ·subst hj;rw[hi]at e1;cases e1;rw[rj hiσ]at e2;cases e2;exact⟨u,r,.inr ⟨.inl hk,c,hc,l5⟩⟩
   ·rw[rn (Ne.symm hj)]at e2;obtain⟨u',r',q⟩:=hl j y v' e1 e2 e3;refine⟨u',r',?_⟩
    rcases q with q|⟨k,c',e,z'⟩
    ·exact .inl q
    ·refine .inr ⟨k,c',e,z'.sameBut hs ?_⟩;rintro rfl;exact hj (vH hN e1 (I.ok.inj _ _ _ e hc ▸ hi))
  ·by_cases hcc:c'=c
   ·subst hcc;exact⟨_,l5⟩
   ·obtain⟨w2,z2⟩:=I.cell y c' e;exact⟨w2,z2.sameBut hs hcc⟩
  ·obtain⟨e,n,ne,nf,d⟩:=I.pin p hp;refine⟨(hs.2 p.1 ?_).trans e,n,ne,nf,d⟩;intro q;rw[q,lq]at e;have q':oc=p.2:=qw e
   exact d w' (by rw[←q'];exact hocd)
theorem nH{M:Model}{A:Around}{E:vd}{i:Nat}{x:Str}{v:V}{u:Value}{Q:Unit→Shared→Prop}(I:Inv X pins σ H s)(hN:X.N.Nodup)(hi:X.N[i]?=some x)(hx:Loc X.env.scope x)(r:RelV v u)
  (h:∀s',Inv X pins (σ.set i (some v)) H s'→Q () s') (hf:X.fn x=true∨X.env.scope.names.lookup x=some .local:=by first|exact .inl rfl|exact .inr rfl|assumption):wpAny M A (storeName X.env x u) Q E s:=
 pO I hN hi hx r (fun s' I' _=>h s' I') hf
theorem Inv.call'{s':Shared}{ch:List Addr}(I:Inv X pins σ H s)(ho:s'.os=s.os)(u:Un (frs X.stack) ch H H' s.heap s'.heap)(hok:HOk X.prog X.w H' s'.heap)(hg:AllBare s'.gens)
  (i4:∀b∈ch,(b∈X.ex∨X.s₀.heap.objs.size≤b)∧b≠X.env.locals∧(∀x c,X.env.cells.lookup x=some c→c≠b)∧∀p∈X.pn++pins,p.1≠b):Inv X pins σ H' s':=by
 obtain⟨h',g',d',t',o'⟩:=s';have e:o'=s.os:=ho
 subst e;exact I.call (g':=g') (t':=t') (d':=d') u hok hg i4
end
abbrev XK:=Value→Option Addr→Hp→Prop
abbrev St:=List (Option V)
abbrev VK:=V→Hp→Prop
abbrev TE:=St→Hp→VK→Prop
abbrev TT:=St→Hp→(Bool→Hp→Prop)→Prop
abbrev TA:=St→Hp→(List V→Hp→Prop)→Prop
structure Ends where
 nx:St→Hp→Prop
 rt:VK
 bk:St→Hp→Prop:=fun _ _=>False
 ct:St→Hp→Prop:=fun _ _=>False
abbrev TS:=Ends→St→Hp→Prop
def EP(X:Cx)(pins:ve)(σ:St)(Q:VK)(u:Value)(s':Shared):Prop:=∃v H',Inv X pins σ H' s'∧RelV v u∧Q v H'
def TP(X:Cx)(pins:ve)(σ:St)(Q:Bool→Hp→Prop)(b:Bool)(s':Shared):Prop:=∃H',Inv X pins σ H' s'∧Q b H'
def AP(X:Cx)(pins:ve)(σ:St)(Q:List V→Hp→Prop)(us:List Value)(s':Shared):Prop:=∃vs H',Inv X pins σ H' s'∧aS vs us∧Q vs H'
def SP(X:Cx)(pins:ve)(D:Ends)(f:Flow)(s':Shared):Prop:=
 match f with
 |.next=>∃σ' H',Inv X pins σ' H' s'∧D.nx σ' H'
 |.brk=>∃σ' H',Inv X pins σ' H' s'∧D.bk σ' H'
 |.cont=>∃σ' H',Inv X pins σ' H' s'∧D.ct σ' H'
 |.ret u=>∃v σ' H',Inv X pins σ' H' s'∧RelV v u∧D.rt v H'
def PE(X:Cx)(e:Expr)(t:TE):Prop:=
 ∀(pins:ve) (s:Shared) (σ:St) (H:Hp) (Q:VK),Inv X pins σ H s→t σ H Q→wpAny (model X.prog X.w) X.A (eval e X.env) (EP X pins σ Q) X.xe s
def PT(X:Cx)(e:Expr)(t:TT):Prop:=
 ∀(pins:ve) (s:Shared) (σ:St) (H:Hp) (Q:Bool→Hp→Prop),Inv X pins σ H s→t σ H Q→wpAny (model X.prog X.w) X.A (isTrue e X.env (eval e X.env)) (TP X pins σ Q) X.xe s
def PW(X:Cx)(e:Expr)(t:TT):Prop:=
 ∀(whole:Sem Value) (pins:ve) (s:Shared) (σ:St) (H:Hp) (Q:Bool→Hp→Prop),Inv X pins σ H s→t σ H Q→wpAny (model X.prog X.w) X.A (isTrue e X.env whole) (TP X pins σ Q) X.xe s
theorem PW.pt{X:Cx}{e:Expr}{t:TT}(h:PW X e t):PT X e t:=h _
def PA(X:Cx)(es:List Expr)(t:TA):Prop:=
 ∀(pos:Pos) (pins:ve) (s:Shared) (σ:St) (H:Hp) (Q:List V→Hp→Prop),Inv X pins σ H s→t σ H Q→wpAny (model X.prog X.w) X.A (spliced (backTo pos (starEach es X.env))) (AP X pins σ Q) X.xe s
def PS(X:Cx)(st:Stmt)(t:TS):Prop:=
 ∀(pins:ve) (s:Shared) (σ:St) (H:Hp) (D:Ends),Inv X pins σ H s→t D σ H→wpAny (model X.prog X.w) X.A (exec st X.env) (SP X pins D) X.xe s
def PSs(X:Cx)(st:List Stmt)(t:TS):Prop:=
 ∀(pins:ve) (s:Shared) (σ:St) (H:Hp) (D:Ends),Inv X pins σ H s→t D σ H→wpAny (model X.prog X.w) X.A (execs st X.env) (SP X pins D) X.xe s
theorem af{α:Type}{t:Sem α}{Q Q':α→Shared→Prop}{M:Model}{A:Around}{E:vd}{s:Shared}(h:wpAny M A t Q E s)(hQ:∀a s,Q a s→Q' a s):wpAny M A t Q' E s:=ub h hQ fun _ _ x=>x
section
variable {X:Cx}
theorem bin{a b:Expr}{ta tb:TE}(ha:PE X a ta)(hb:PE X b tb){pins:ve}{s:Shared}{σ:St}{H:Hp}{R:V→V→Hp→Prop}(I:Inv X pins σ H s)(h:ta σ H fun x H1=>tb σ H1 fun y H2=>R x y H2)
  {α:Type} {Q:α→Shared→Prop} {f:Value→Value→Sem α}
  (hf:∀v u s2 x y H2,Inv X pins σ H2 s2→RelV x v→RelV y u→R x y H2→wpAny (model X.prog X.w) X.A (f v u) Q X.xe s2) :
  wpAny (model X.prog X.w) X.A (eval a X.env) (fun v s₁=>wpAny (model X.prog X.w) X.A (eval b X.env) (fun u s₂=>wpAny (model X.prog X.w) X.A (f v u) Q X.xe s₂) X.xe s₁) X.xe s:=by
 refine af (ha pins s σ H _ I h) fun v s1 ⟨x,H1,I1,r1,q1⟩=>?_
 refine af (hb pins s1 σ H1 _ I1 q1) fun u s2 ⟨y,H2,I2,r2,q2⟩=>?_
 exact hf v u s2 x y H2 I2 r1 r2 q2
def rH(i:Nat):TE:=fun σ H Q=>∃v,σ[i]?=some (some v)∧Q v H
def tC(v:V):TE:=fun _ H Q=>Q v H
theorem lH{i:Nat}{x:Str}{pos:Pos}(hN:X.N[i]?=some x)(hv:Vis X.env.scope x)(hd:(x == ("__debug__":Str))=false:=by decide)(fg:(x == ("__classdict__":Str))=false:=by decide):PE X (.Name x pos) (rH i):=by
 intro pins s σ H Q I h;obtain⟨v,e,h⟩:=h;obtain⟨m,hn,hl⟩:=I.loc;obtain⟨u,r,l⟩:=hl i x v hN e hv;have fin:EP X pins σ Q u s:=⟨v,H,I,r,h⟩
 rcases l with ⟨hk,hm⟩|⟨hk,c,hc,hcell⟩
 ·exact wpAny_Name (wpAny_loadName_local I.ok.kind hk hn hm fin) hd
 ·rcases hk with hk|hk
  ·exact wpAny_Name (wpAny_loadName_cell I.ok.kind hk hc hcell fin) hd
  ·exact wpAny_Name (wpAny_loadName_free I.ok.kind hk hc hcell fin fg) hd
theorem HX{i j pos}:PE X (.Constant (.int i) j pos) (tC (.int i)):=fun _ _ _ H _ I h=>wpAny_Constant_int ⟨.int i,H,I.tok _,⟨_,rfl⟩,h⟩
theorem AB{b j pos}:PE X (.Constant (.bool b) j pos) (tC (.bl b)):=fun _ _ _ H _ I h=>Constant_bool ⟨.bl b,H,I,rfl,h⟩
theorem YL{j pos}:PE X (.Constant .none j pos) (tC .non):=fun _ _ _ H _ I h=>Constant_none ⟨.non,H,I,rfl,h⟩
theorem fO{x j pos}:PE X (.Constant (.str x) j pos) (tC (.str x)):=fun _ _ _ H _ I h=>Calls.Constant_str ⟨.str x,H,I.tok _,⟨_,rfl⟩,h⟩
def Gl(X:Cx)(x:Str):Prop:=X.env.kindOf x=some .globalImplicit
theorem dZ{E:vd}{pins:ve}{s:Shared}{σ:St}{H:Hp}{x:Str}{u:Value}{pos:Pos}{Q:vd}(I:Inv X pins σ H s)(hg:Gl X x)(hm:X.mg x=some u)(h:Q u s)
  (hd:(x == ("__debug__":Str))=false:=by decide):wpAny (model X.prog X.w) X.A (eval (.Name x pos) X.env) Q E s:=
 Calls.Name_function_global I.ok.kind hg (Calls.loadGlobal_global (by rw[I.ok.glob];exact I.mod.glob.keeps I.bk) hm h) hd
theorem gH{E:vd}{pins:ve}{s:Shared}{σ:St}{H:Hp}{x:Str}{u:Value}{pos:Pos}{Q:vd}(I:Inv X pins σ H s)(hg:Gl X x)(hm:X.mg x=none)(hv:bootBuiltins x=some u)(h:Q u s)
  (hn:x≠"__name__":=by decide) (hd:(x == ("__debug__":Str))=false:=by decide):wpAny (model X.prog X.w) X.A (eval (.Name x pos) X.env) Q E s:=by
 obtain⟨mb,h1,h2⟩:=I.mod.blt;exact Calls.Name_function_global I.ok.kind hg (Calls.loadGlobal_builtin (by rw[I.ok.glob];exact I.mod.glob.keeps I.bk) hm (by rw[I.ok.blt];exact h1.keeps I.bk) ((h2 x hn).trans hv) h) hd
theorem QH{x:Str}{v:V}{u:Value}{pos:Pos}(hg:Gl X x)(hm:X.mg x=some u)(r:RelV v u)(hd:(x == ("__debug__":Str))=false:=by decide):PE X (.Name x pos) (tC v):=
 fun _ _ _ H _ I h=>dZ I hg hm ⟨v,H,I,r,h⟩ hd
theorem AA{x:Str}{v:V}{u:Value}{pos:Pos}(hg:Gl X x)(hm:X.mg x=none)(hv:bootBuiltins x=some u)(r:RelV v u)(hn:x≠"__name__":=by decide)(hd:(x == ("__debug__":Str))=false:=by decide):PE X (.Name x pos) (tC v):=
 fun _ _ _ H _ I h=>gH I hg hm hv ⟨v,H,I,r,h⟩ hn hd
variable {a b:Expr}{ta tb:TE}{pos:Pos}
def PC(X:Cx)(op:CmpOp)(a b:Expr)(t:TE):Prop:=
 ∀(pins:ve) (s:Shared) (σ:St) (H:Hp) (Q:VK),Inv X pins σ H s→t σ H Q →
  wpAny (model X.prog X.w) X.A (eval a X.env) (fun v s₁=>wpAny (model X.prog X.w) X.A (eval b X.env) (fun u s₂=>wpAny (model X.prog X.w) X.A (compareOp op v u) (EP X pins σ Q) X.xe s₂) X.xe s₁) X.xe s
theorem vI(b:Expr){op:CmpOp}(h:op≠.In)(h2:op≠.NotIn):behindInMarks op b=false:=by
 have e1:(op == CmpOp.In)=false:=by cases op<;>first|rfl|exact absurd rfl h
 have e2:(op == CmpOp.NotIn)=false:=by cases op<;>first|rfl|exact absurd rfl h2
 cases b<;>simp[behindInMarks,e1,e2]
noncomputable def tB(t:TE):TT:=fun σ H Q=>t σ H fun x H1=>∃c,x=.bl c∧Q c H1
theorem YQ{op:CmpOp}{t:TE}(h:PC X op a b t)(h1:behindInMarks op b=false:=by first|exact vI _ (by decide) (by decide)|rfl):PE X (.Compare a [op] [b] pos) t:=fun pins s σ H Q I hw=>wpAny_Compare1 (h pins s σ H Q I hw) h1
theorem YD{op:CmpOp}{t:TE}(h:PC X op a b t)(h1:behindInMarks op b=false:=by first|exact vI _ (by decide) (by decide)|rfl):PT X (.Compare a [op] [b] pos) (tB t):=by
 intro pins s σ H Q I hw;refine wpAny_isTrue_Compare1 (af (h pins s σ H _ I hw) fun v s1 h1=>af h1 fun u s2 h2=>af h2 fun c s3 ⟨x,H1,I1,r1,q1⟩=>?_) h1
 obtain⟨d,rfl,q⟩:=q1;cases r1;exact wpAny_truthy_bool ⟨H1,I1,q⟩
theorem YC{e:Expr}{t:TE}(h:PE X e t)(he:∀whole,isTrue e X.env whole=(do let v ←whole;standAt e.pos;holding [v] (truthy v)):=by intro _;rfl):PT X e (tB t):=by
 intro pins s σ H Q I hw;refine isTrue_plain (af (h pins s σ H _ I hw) fun v s1 ⟨x,H1,I1,r1,q1⟩=>?_) (he _)
 obtain⟨d,rfl,q⟩:=q1;cases r1;exact wpAny_truthy_bool ⟨H1,I1,q⟩
variable {tA tB':TT}{rest:List Expr}
noncomputable def aGS(t u:TT):TT:=fun σ H Q=>t σ H fun c H1=>if c=true then u σ H1 Q else Q false H1
noncomputable def tOr(t u:TT):TT:=fun σ H Q=>t σ H fun c H1=>if c=true then Q true H1 else u σ H1 Q
noncomputable def aBY(t:TT):TT:=fun σ H Q=>t σ H fun c H1=>Q (!c) H1
theorem PV(ha:PT X a tA):PW X (.BoolOp .And [a] pos) tA:=by
 intro wh pins s σ H Q I h;refine isTrue_and (af (ha pins s σ H Q I h) fun c s1 e=>?_)
 cases c with
 |true=>exact isTrue_and_nil e
 |false=>exact e
theorem HE(ha:PT X a tA):PW X (.BoolOp .Or [a] pos) tA:=by
 intro wh pins s σ H Q I h;refine isTrue_or (af (ha pins s σ H Q I h) fun c s1 e=>?_)
 cases c with
 |false=>exact isTrue_or_nil e
 |true=>exact e
theorem HG(ha:PT X a tA)(hb:PW X (.BoolOp .And (b::rest) pos) tB'):PW X (.BoolOp .And (a::b::rest) pos) (aGS tA tB'):=by
 intro wh pins s σ H Q I h;refine isTrue_and (af (ha pins s σ H _ I h) fun c s1 ⟨H1,I1,q1⟩=>?_)
 cases c with
 |true=>exact hb wh pins s1 σ H1 Q I1 q1
 |false=>exact⟨H1,I1,q1⟩
theorem HF(ha:PT X a tA)(hb:PW X (.BoolOp .Or (b::rest) pos) tB'):PW X (.BoolOp .Or (a::b::rest) pos) (tOr tA tB'):=by
 intro wh pins s σ H Q I h;refine isTrue_or (af (ha pins s σ H _ I h) fun c s1 ⟨H1,I1,q1⟩=>?_)
 cases c with
 |true=>exact⟨H1,I1,q1⟩
 |false=>exact hb wh pins s1 σ H1 Q I1 q1
theorem HM(ha:PT X a tA):PT X (.UnaryOp .Not a pos) (aBY tA):=by
 intro pins s σ H Q I h;exact isTrue_not (ha pins s σ H (fun c H1=>Q (!c) H1) I h)
def aCb(ta tb:TE):TE:=fun σ H Q=>ta σ H fun x H1=>∃c,x=.bl c∧if c=true then tb σ H1 Q else Q (.bl false) H1
def aGO(ta tb:TE):TE:=fun σ H Q=>ta σ H fun x H1=>∃c,x=.bl c∧if c=true then Q (.bl true) H1 else tb σ H1 Q
theorem YK{op}{t:TE}(h:PE X a t):PE X (.BoolOp op [a] pos) t:=fun pins s σ H Q I hw=>BoolOp_one (h pins s σ H Q I hw)
theorem IB(ha:PE X a ta)(hb:PE X (.BoolOp .And (b::rest) pos) tb):PE X (.BoolOp .And (a::b::rest) pos) (aCb ta tb):=by
 intro pins s σ H Q I h;refine BoolOp_and (af (ha pins s σ H _ I h) fun v s1 ⟨x,H1,I1,r1,q1⟩=>?_)
 obtain⟨c,rfl,q1⟩:=q1;cases r1;refine wpAny_truthy_bool ?_;cases c with
 |true=>exact hb pins s1 σ H1 Q I1 q1
 |false=>exact⟨.bl false,H1,I1,rfl,q1⟩
theorem UI(ha:PE X a ta)(hb:PE X (.BoolOp .Or (b::rest) pos) tb):PE X (.BoolOp .Or (a::b::rest) pos) (aGO ta tb):=by
 intro pins s σ H Q I h;refine BoolOp_or (af (ha pins s σ H _ I h) fun v s1 ⟨x,H1,I1,r1,q1⟩=>?_)
 obtain⟨c,rfl,q1⟩:=q1;cases r1;refine wpAny_truthy_bool ?_;cases c with
 |false=>exact hb pins s1 σ H1 Q I1 q1
 |true=>exact⟨.bl true,H1,I1,rfl,q1⟩
def tIf(t:TT)(ta tb:TE):TE:=fun σ H Q=>t σ H fun c H1=>if c=true then ta σ H1 Q else tb σ H1 Q
theorem vD{c:Expr}(hc:PT X c tA)(ha:PE X a ta)(hb:PE X b tb):PE X (.IfExp c a b pos) (tIf tA ta tb):=by
 intro pins s σ H Q I h;refine wpAny_IfExp (af (hc pins s σ H _ I h) fun d s1 ⟨H1,I1,q1⟩=>?_)
 cases d with
 |true=>exact ha pins s1 σ H1 Q I1 q1
 |false=>exact hb pins s1 σ H1 Q I1 q1
end
def SqL(K:va)(H:Hp)(a:Addr)(xs:List V):Prop:=
 Rd H a (.lst xs) ∨
  ∃(o:Obj) (its:Array Value) (n:Nat),K.lookup a=some o∧o.cls=.type "list"∧o.dict=none∧o.data=.seq its n∧its.size≤sizeLine∧aS xs its.toList
def SqT(K:va)(H:Hp)(a:Addr)(xs:List V):Prop:=
 Rd H a (.tup xs) ∨
  ∃(o:Obj) (its:Array Value) (n:Nat),K.lookup a=some o∧o.cls=.type "tuple"∧o.data=.seq its n∧its.size≤sizeLine∧aS xs its.toList
noncomputable def aIe:Value→Option V
 |.none=>some .non
 |.bool b=>some (.bl b)
 |.int i _=>some (.int i)
 |.str x _=>some (.str x)
 |.bytes b _=>some (.byt b)
 |.float b _=>some (.flt b)
 |.ref a=>some (.ref a)
 |.type n=>some (.ty n)
 |_=>none
theorem RelV.abs{x:V}{u:Value}(r:RelV x u):aIe u=some x:=by
 cases x with
 |non=>cases r;rfl
 |bl _=>cases r;rfl
 |int _=>obtain⟨t,rfl⟩:=r;rfl
 |str _=>obtain⟨t,rfl⟩:=r;rfl
 |byt _=>obtain⟨t,rfl⟩:=r;rfl
 |flt _=>obtain⟨t,rfl⟩:=r;rfl
 |ref _=>cases r;rfl
 |ty _=>cases r;rfl
theorem RelV.inj{x y:V}{u:Value}(r:RelV x u)(q:RelV y u):x=y:=qw (r.abs.symm.trans q.abs)
theorem aS.inj:∀{xs ys:List V} {us:List Value},aS xs us→aS ys us→xs=ys
 |_,_,_,.nil,.nil=>rfl
 |_,_,_,.cons r t,.cons r' t'=>by rw[r.inj r',aS.inj t t']
section
variable {X:Cx}{pins:ve}{σ:St}{H:Hp}{s:Shared}{a:Addr}{xs ys:List V}
theorem SqL.of{K:va}(h:H a=some (.lst xs)):SqL K H a xs:=.inl (.inl h)
theorem SqT.of{K:va}(h:H a=some (.tup xs)):SqT K H a xs:=.inl (.inl h)
theorem Inv.list(I:Inv X pins σ H s)(h:SqL X.K H a xs):∃its:List Value,aS xs its∧PlainL s.heap a its.toArray∧xs.length≤sizeLine:=by
 rcases h with h|⟨o,its,n,hk,hc,hd,hs,hz,r⟩
 ·obtain⟨z,its,n,r,e⟩:=h.ok I.hok;exact⟨its,r,⟨_,n,e,rfl,rfl,rfl⟩,z⟩
 ·refine⟨its.toList,r,⟨o,n,I.kIn a o hk,hc,hd,by simpa using hs⟩,?_⟩
  have e:=r.length
  simp only[length_toList]at e;lia
theorem Inv.tuple(I:Inv X pins σ H s)(h:SqT X.K H a xs):∃its:List Value,aS xs its∧IsTup s.heap a its.toArray∧xs.length≤sizeLine:=by
 rcases h with h|⟨o,its,n,hk,hc,hs,hz,r⟩
 ·obtain⟨z,its,r,p⟩:=h.ok I.hok;exact⟨its,r,p,z⟩
 ·refine⟨its.toList,r,⟨o,I.kIn a o hk,hc,n,by simpa using hs⟩,?_⟩
  have e:=r.length
  simp only[length_toList]at e;lia
theorem Inv.list_inj(I:Inv X pins σ H s)(h:SqL X.K H a xs)(h':SqL X.K H a ys):xs=ys:=by
 obtain⟨its,r,⟨o,n,e,_,_,d⟩,_⟩:=I.list h;obtain⟨its',r',⟨o',n',e',_,_,d'⟩,_⟩:=I.list h';rw[e]at e';cases e';rw[d]at d';injection d' with d1 _
 have:its=its':=by simpa using congrArg Array.toList d1
 subst this;exact r.inj r'
theorem Inv.tuple_inj(I:Inv X pins σ H s)(h:SqT X.K H a xs)(h':SqT X.K H a ys):xs=ys:=by
 obtain⟨its,r,⟨o,e,_,n,d⟩,_⟩:=I.tuple h;obtain⟨its',r',⟨o',e',_,n',d'⟩,_⟩:=I.tuple h';rw[e]at e';cases e';rw[d]at d';injection d' with d1 _
 have:its=its':=by simpa using congrArg Array.toList d1
 subst this;exact r.inj r'
end
abbrev Cx.wish(X:Cx)(E:vd):Cx:={ X with xe:=E }
abbrev Cx.nox(X:Cx):Cx:=X.wish fun _ _=>False
theorem Cx.Ok.wish{X:Cx}(ok:X.Ok)(E:vd):(X.wish E).Ok:=
 ⟨ok.mod,ok.kind,ok.glob,ok.blt,ok.above,ok.inj,ok.has,ok.cab,ok.hd,ok.frames,ok.stk,ok.exf,ok.bs,ok.bsz,ok.noex,ok.exfs,ok.funs,ok.frf⟩
theorem Cx.Ok.unwish{X:Cx}{E:vd}(ok:(X.wish E).Ok):X.Ok:=
 ⟨ok.mod,ok.kind,ok.glob,ok.blt,ok.above,ok.inj,ok.has,ok.cab,ok.hd,ok.frames,ok.stk,ok.exf,ok.bs,ok.bsz,ok.noex,ok.exfs,ok.funs,ok.frf⟩
section
variable {X:Cx}{pins:ve}{σ:St}{H:Hp}{s:Shared}{E:vd}
theorem Inv.wish(I:Inv X pins σ H s)(E:vd):Inv (X.wish E) pins σ H s:=⟨I.ok.wish E,I.os,I.bare,I.base,I.loc,I.cell,I.free,I.freeC,I.pin,I.hok,I.len⟩
theorem Inv.unwish(I:Inv (X.wish E) pins σ H s):Inv X pins σ H s:=⟨I.ok.unwish,I.os,I.bare,I.base,I.loc,I.cell,I.free,I.freeC,I.pin,I.hok,I.len⟩
theorem SP.unwish{D:Ends}{f:Flow}{s':Shared}(h:SP (X.wish E) pins D f s'):SP X pins D f s':=by
 cases f with
 |next=>obtain⟨σ',H',I,q⟩:=h;exact⟨σ',H',I.unwish,q⟩
 |brk=>obtain⟨σ',H',I,q⟩:=h;exact⟨σ',H',I.unwish,q⟩
 |cont=>obtain⟨σ',H',I,q⟩:=h;exact⟨σ',H',I.unwish,q⟩
 |ret u=>obtain⟨v,σ',H',I,r,q⟩:=h;exact⟨v,σ',H',I.unwish,r,q⟩
theorem PSs.nox{st:List Stmt}{t:TS}(h:PSs X.nox st t):PSs X st t:=fun pins s σ H D I hw =>
 ub (h pins s σ H D (I.wish _) hw) (fun _ _ q=>q.unwish) fun _ _ z=>False.elim z
end
section
variable {X:Cx}{st:Stmt}{rest:List Stmt}{t u:TS}{e:Expr}{te:TE}{pos:Pos}
def UB:TS:=fun D σ H=>D.nx σ H
def aGN(t u:TS):TS:=fun D σ H=>t { D with nx:=u D } σ H
theorem rO:PSs X [] UB:=fun _ _ σ H _ I h=>wpAny_execs_nil ⟨σ,H,I,h⟩
theorem iM(h1:PS X st t)(h2:PSs X rest u):PSs X (st::rest) (aGN t u):=by
 intro pins s σ H D I h;refine wpAny_execs_cons (af (h1 pins s σ H { D with nx:=u D } I h) fun f s1 q=>?_)
 cases f with
 |next =>
  obtain⟨σ',H',I',q⟩:=q;exact h2 pins s1 σ' H' D I' q
 |ret v=>exact q
 |brk=>exact q
 |cont=>exact q
theorem jE(h1:PS X st t):PSs X [st] t:=by
 intro pins s σ H D I h;refine wpAny_execs_cons (af (h1 pins s σ H D I h) fun f s1 q=>?_)
 cases f with
 |next=>exact wpAny_execs_nil q
 |ret v=>exact q
 |brk=>exact q
 |cont=>exact q
theorem PY:PS X (.Pass pos) UB:=fun _ _ σ H _ I h=>wpAny_Pass ⟨σ,H,I,h⟩
theorem Inv.quiet{pins:ve}{σ:St}{H:Hp}{s:Shared}(I:Inv X pins σ H s):interactive X.env=false:=by simp[interactive,I.ok.kind]
def UC(te:TE):TS:=fun D σ H=>te σ H fun _ H1=>D.nx σ H1
theorem kI(he:PE X e te)(hs:swapsWith e none pos.line X.env=pure false:=by rfl):PS X (.Expr e pos) (UC te):=by
 intro pins s σ H D I h;exact wpAny_Expr_any (af (he pins s σ H _ I h) fun v s1 ⟨x,H1,I1,r1,q1⟩=>⟨σ,H1,I1,q1⟩) I.quiet hs
def aBW(te:TE):TS:=fun D σ H=>te σ H D.rt
theorem iO(he:PE X e te):PS X (.Return (some e) pos) (aBW te):=by
 intro pins s σ H D I h;exact wpAny_Return_some (af (he pins s σ H _ I h) fun v s1 ⟨x,H1,I1,r1,q1⟩=>⟨x,σ,H1,I1,r1,q1⟩)
def aBV:TS:=fun D _ H=>D.rt .non H
theorem PX:PS X (.Return none pos) aBV:=fun _ _ σ H _ I h=>wpAny_Return_none ⟨.non,σ,H,I,rfl,h⟩
def aGP(c:TT)(t u:TS):TS:=fun D σ H=>c σ H fun b H1=>if b=true then t D σ H1 else u D σ H1
theorem UH{c:Expr}{a b:List Stmt}{tc:TT}(hc:PT X c tc)(ha:PSs X a t)(hb:PSs X b u):PS X (.If c a b pos) (aGP tc t u):=by
 intro pins s σ H D I h;refine wpAny_If (af (hc pins s σ H _ I h) fun d s1 ⟨H1,I1,q1⟩=>?_)
 cases d with
 |true=>exact ha pins s1 σ H1 D I1 q1
 |false=>exact hb pins s1 σ H1 D I1 q1
end
abbrev TG:=V→St→Hp→(St→Hp→Prop)→Prop
abbrev jq:=List V→St→Hp→(St→Hp→Prop)→Prop
def PG(X:Cx)(target:Expr)(t:TG):Prop:=
 ∀(pins:ve) (s:Shared) (σ:St) (H:Hp) (v:V) (u:Value) (Q:St→Hp→Prop),Inv X pins σ H s→RelV v u→t v σ H Q →
  wpAny (model X.prog X.w) X.A (assign target X.env u) (fun _ s'=>∃σ' H',Inv X pins σ' H' s'∧Q σ' H') X.xe s
def p8(X:Cx)(ts:List Expr)(t:jq):Prop:=
 ∀(pins:ve) (s:Shared) (σ:St) (H:Hp) (vs:List V) (us:List Value) (Q:St→Hp→Prop),Inv X pins σ H s→aS vs us→t vs σ H Q →
  wpAny (model X.prog X.w) X.A (assignInOrder ((assignEach ts X.env).map (·.2)) us) (fun _ s'=>∃σ' H',Inv X pins σ' H' s'∧Q σ' H') X.xe s
abbrev aAM:=V→V→V→Hp→(Hp→Prop)→Prop
def aFP(X:Cx)(t:aAM):Prop:=
 ∀(pins:ve) (s:Shared) (σ:St) (H:Hp) (o i v:V) (ov iv u:Value) (Q:Hp→Prop),Inv X pins σ H s→RelV o ov→RelV i iv→RelV v u→t o i v H Q →
  wpAny (model X.prog X.w) X.A (setItem ov iv u) (fun _ s'=>∃H',Inv X pins σ H' s'∧Q H') X.xe s
section
variable {X:Cx}{pos:Pos}
def qI(i:Nat):TG:=fun v σ H Q=>Q (σ.set i (some v)) H
theorem zW{i:Nat}{x:Str}(hN:X.N.Nodup)(hi:X.N[i]?=some x)(hx:Loc X.env.scope x)(hf:X.fn x=true∨X.env.scope.names.lookup x=some .local:=by first|exact .inl rfl|exact .inr rfl|assumption):PG X (.Name x pos) (qI i):=by
 intro pins s σ H v u Q I r h;exact wpAny_assign_Name (nH I hN hi hx r (fun s' I'=>⟨_,H,I',h⟩) hf)
noncomputable def aHQ:jq:=fun vs σ H Q=>vs=[]∧Q σ H
noncomputable def aEW(t:TG)(u:jq):jq:=fun vs σ H Q=>∃v r,vs=v::r∧t v σ H fun σ' H'=>u r σ' H' Q
theorem QG:p8 X [] aHQ:=by
 intro pins s σ H vs us Q I r h;obtain⟨e,h⟩:=h;subst e;cases r;exact assignInOrder_nil ⟨σ,H,I,h⟩
theorem HW{e:Expr}{es:List Expr}{t:TG}{u:jq}(h1:PG X e t)(h2:p8 X es u)
  (hs:(assignEach (e::es) X.env).map (·.2)=assign e X.env::(assignEach es X.env).map (·.2):=by rfl):p8 X (e::es) (aEW t u):=by
 intro pins s σ H vs us Q I r h;obtain⟨v,vr,e1,h⟩:=h;subst e1;cases r with
 |cons r rr =>
  rw[hs];refine assignInOrder_cons (af (h1 pins s σ H _ _ _ I r h) fun _ s1 ⟨σ1,H1,I1,q1⟩=>?_)
  exact h2 pins s1 σ1 H1 _ _ Q I1 rr q1
def aHO(K:va)(n:Nat)(t:jq):TG:=fun v σ H Q=>∃a xs,v=.ref a∧SqT K H a xs∧xs.length=n∧t xs σ H Q
theorem YG{es:List Expr}{k:Nat}{t:jq}{n:Nat}(hc:X.calm=true)(h:p8 X es t)
  (hn:(assignEach es X.env).length=n:=by rfl) (dz:(assignEach es X.env).findIdx? (·.1)=none:=by rfl):PG X (.Tuple es k pos) (aHO X.K n t):=by
 intro pins s σ H v u Q I r hw;obtain⟨a,xs,e1,hq,hl,hw⟩:=hw;subst e1;cases r;obtain⟨its,rv,ht,hz⟩:=I.tuple hq;refine assign_Tuple_tuple (I.ok.hd hc) ht (by simp[hn,←hl,rv.length]) dz fun h' hx=>?_
 have I1:Inv X pins σ H { s with heap:=h' }:=I.kept (t':=s.toks) fun b o e=>hx b o (tj (rq e)) e
 exact h pins _ σ H xs _ Q I1 (by simpa using rv) hw
def aHP(to ti:TE)(t:aAM):TG:=fun v σ H Q=>to σ H fun o H1=>ti σ H1 fun i H2=>t o i v H2 fun H3=>Q σ H3
theorem YH{o i:Expr}{to ti:TE}{t:aAM}(ho:PE X o to)(hi:PE X i ti)(hs:aFP X t)
  (ha:∀v,assign (.Subscript o i pos) X.env v=(do
   let ov ←holding [v] (eval o X.env)
   let iv ←holding [v,ov] (eval i X.env)
   standAt pos
   holding [v,ov,iv] (setItem ov iv v)
   release [v,ov,iv] []):=by intro _;rfl):PG X (.Subscript o i pos) (aHP to ti t):=by
 intro pins s σ H v u Q I r h;rw[ha];refine u7 (wpAny_holding (af (ho pins s σ H _ I h) fun ov s1 ⟨x,H1,I1,r1,q1⟩=>?_))
 refine u7 (wpAny_holding (af (hi pins s1 σ H1 _ I1 q1) fun iv s2 ⟨y,H2,I2,r2,q2⟩=>?_))
 refine u7 (wpAny_standAt (u7 (wpAny_holding (af (hs pins s2 σ H2 x y v ov iv u _ I2 r1 r2 r q2) fun _ s3 ⟨H3,I3,q3⟩=>?_))))
 exact wpAny_release ⟨σ,H3,I3,q3⟩
def NW(te:TE)(g:TG):TS:=fun D σ H=>te σ H fun x H1=>g x σ H1 D.nx
theorem HP{tg e:Expr}{te:TE}{g:TG}(he:PE X e te)(hg:PG X tg g)(hs:swapsWithSole [tg] e pos.line X.env=pure false:=by rfl)(hw:swappedStores [tg] e X.env=pure none:=by rfl)
  (h1:(assignEach [tg] X.env).map (·.2)=[assign tg X.env]:=by rfl):PS X (.Assign [tg] e pos) (NW te g):=by
 intro pins s σ H D I h;refine wpAny_Assign_stores (af (he pins s σ H _ I h) fun v s1 ⟨x,H1,I1,r1,q1⟩=>?_) hs hw
 rw[h1];exact af (hg pins s1 σ H1 x v _ I1 r1 q1) fun _ s2 q=>q
theorem nM{i:Nat}{x:Str}{e:Expr}{te:TE}{pos':Pos}(hN:X.N.Nodup)(hi:X.N[i]?=some x)(hx:Loc X.env.scope x)(he:PE X e te)(hs:swapsWith e (some (.Name x pos')) pos.line X.env=pure false:=by rfl)(hf:X.fn x=true∨X.env.scope.names.lookup x=some .local:=by first|exact .inl rfl|exact .inr rfl|assumption) :
  PS X (.Assign [.Name x pos'] e pos) (NW te (qI i)):=by
 intro pins s σ H D I h;refine wpAny_Assign_Name (af (he pins s σ H _ I h) fun v s1 ⟨y,H1,I1,r1,q1⟩=>?_) hs
 exact nH I1 hN hi hx r1 (fun s2 I2=>⟨_,H1,I2,q1⟩) hf
end
section
variable {X:Cx}{pos:Pos}
end
structure It where
 go:Nat→Hp→Prop
 yld:Nat→Hp→V→Hp→Prop
 stop:Nat→Hp→Prop
def oU(X:Cx)(pins:ve)(H:Hp)(b:Addr):Prop:=
 H b=none∧b≠X.env.locals∧b∉X.fs∧(b∈X.ex∨X.s₀.heap.objs.size≤b)∧(∀x c,X.env.cells.lookup x=some c→c≠b)∧∀p∈X.pn++pins,p.1≠b
theorem Inv.fpOk{X:Cx}{pins:ve}{σ:St}{H H':Hp}{s:Shared}{b:Addr}(I:Inv X pins σ H s)(hb:s.heap.objs.size≤b)(hn:H' b=none):oU X pins H' b:=by
 refine⟨hn,Nat.ne_of_gt (qz I.lt hb),I.nofs hb,.inr (se I.sz hb),fun x c e z=>?_,fun p hp z=>?_⟩
 ·obtain⟨v,q⟩:=I.cell x c e;exact absurd (qz q.lt (by rw[z];exact hb)) (u0 _)
 ·exact absurd (qz (rq (I.pin p hp).1) (by rw[z];exact hb)) (u0 _)
structure Turn (P:vc) (w:World) (K:va) (tg:Expr) (J:It) (fp:List Addr) (it:Addr) (tn:Nat→Heap→Prop):Prop where
 mem:it∈fp
 obj:∀i h,tn i h→∀b∈fp,∃o,h.get? b=some o∧∀v,o.data≠.cell v
 keep:∀i h h',tn i h→(∀b∈fp,∀o,h.get? b=some o→h'.get? b=some o)→tn i h'
 item:∀(X:Cx),X.prog=P→X.w=w→X.K=K→X.calm=true→∀(i:Nat) (pins:ve) (s:Shared) (σ:St) (H:Hp) (E:vd),Inv X pins σ H s→(∀b∈fp,oU X pins H b)→tn i s.heap→J.go i H →
  wpAny (model P w) X.A (pyNext (.ref it)) (fun r s1=>∃u,r=some u ∧
   wpAny (model P w) X.A (letOwnedTupleGo tg (.ref it) u) (fun _ s2=>∃x H',Inv X pins σ H' s2∧RelV x u∧J.yld i H x H'∧tn (i+1) s2.heap∧∀b∈fp,H' b=none) E s1) E s
 done:∀(X:Cx),X.prog=P→X.w=w→X.K=K→X.calm=true→∀(i:Nat) (pins:ve) (s:Shared) (σ:St) (H:Hp) (E:vd),Inv X pins σ H s→(∀b∈fp,oU X pins H b)→tn i s.heap→J.stop i H →
  wpAny (model P w) X.A (pyNext (.ref it)) (fun r s1=>r=none∧Inv X pins σ H s1) E s
 self:∀(A:Around) (i:Nat) (s:Shared) (Q:vd) (E:vd),tn i s.heap→Q (.ref it) s→wpAny (model P w) A (pyIter (.ref it)) Q E s
abbrev TI:=St→Hp→(It→Hp→Prop)→Prop
def PIE(X:Cx)(pins:ve)(σ:St)(tg:Expr)(R:It→Hp→Prop)(itv:Value)(s2:Shared):Prop:=
 ∃(it:Addr) (fp:List Addr) (tn:Nat→Heap→Prop) (J:It) (H':Hp),itv=.ref it∧Inv X pins σ H' s2∧Turn X.prog X.w X.K tg J fp it tn∧tn 0 s2.heap∧(∀b∈fp,oU X pins H' b)∧R J H'
def PI(X:Cx)(tg iter:Expr)(wi:TI):Prop:=
 ∀(pins:ve) (s:Shared) (σ:St) (H:Hp) (R:It→Hp→Prop),Inv X pins σ H s→wi σ H R →
  wpAny (model X.prog X.w) X.A (eval iter X.env) (fun v s1=>wpAny (model X.prog X.w) X.A (pyIter v) (PIE X pins σ tg R) X.xe s1) X.xe s
theorem AU{M:Model}{A:Around}{E:vd}{s:Shared}{tg:Expr}{it:Addr}{u:Value}{o:Obj}{n:String}{vs:Array Value}{Q:Unit→Shared→Prop}(ho:s.heap.get? it=some o)(hc:o.cls=.type n)(hd:o.data=.fields vs)
  (hn:["enumerate","zip","dict_itemiterator","dict_reverseitemiterator","odict_iterator","itertools.zip_longest","itertools.pairwise"].contains n=false) (hQ:Q () s):wpAny M A (letOwnedTupleGo tg (.ref it) u) Q E s:=by
 unfold letOwnedTupleGo;cases tg<;>first
  |exact ua hQ
  | (cases u<;>first
    |exact ua hQ
    | (refine u7 (wpAny_load ho ?_)
       rw[hc,hd];show wpAny M A (if (["enumerate","zip","dict_itemiterator","dict_reverseitemiterator","odict_iterator","itertools.zip_longest","itertools.pairwise"].contains n&&vs[0]? == some (rawInt _))=true then _ else _) Q E s
       rw[if_neg (by intro h;rw[hn,Bool.false_and]at h;cases h)]
       exact ua hQ))
noncomputable def Itl(K:va)(a:Addr):It:=
 ⟨fun i H=>∃xs x,SqL K H a xs∧xs[i]?=some x,fun i H x H'=>H'=H∧∀xs,SqL K H a xs→xs[i]?=some x,fun i H=>∃xs,SqL K H a xs∧xs.length≤i⟩
noncomputable def Itt(K:va)(a:Addr):It:=
 ⟨fun i H=>∃xs x,SqT K H a xs∧xs[i]?=some x,fun i H x H'=>H'=H∧∀xs,SqT K H a xs→xs[i]?=some x,fun i H=>∃xs,SqT K H a xs∧xs.length≤i⟩
noncomputable def mG(lo:Int)(n:Nat):It:=⟨fun i _=>i<n,fun i H x H'=>H'=H∧x=.int (lo+i),fun i _=>n≤i⟩
theorem DP{P:vc}{w:World}{K:va}{tg:Expr}(a it:Addr):Turn P w K tg (Itl K a) [it] it (fun i h=>h.IsListIter it a i) where
 mem:=by simp
 obj:=fun i h st b hb=>by
  have e:b=it:=by simpa using hb
  subst e;obtain⟨o,e,c,d⟩:=st;exact⟨o,e,fun v z=>by rw[d]at z;cases z⟩
 keep:=fun i h h' st k=>st.at fun o e=>k it (by simp) o e
 item:=by
  intro X hP hw hK hc i pins s σ H E I hf st hg;subst hP hw hK;obtain⟨xs,x,hq,hx⟩:=hg;obtain⟨its,rv,p,hz⟩:=I.list hq;obtain⟨u,hu,ru⟩:=rv.get hx;obtain⟨f0,f1,f2,f3,f4,f5⟩:=hf it (by simp)
  refine wpAny_pyNext_list_item st p.isList (x:=u) (by simpa using hu) fun h' ae sb=>?_
  have I1:Inv X pins σ H { s with heap:=h' }:=I.turned (t':=s.toks) (fun b o hb e=>(sb.2 b hb).trans e) f0 f1 f3 f4 f5
  obtain⟨o,e,c,d⟩:=id ae;exact⟨u,rfl,AU (s:={ s with heap:=h' }) e c d (by decide) ⟨x,H,I1,ru,⟨rfl,fun ys hy=>by rw[I.list_inj hy hq];exact hx⟩,ae,fun b hb=>(hf b hb).1⟩⟩
 done:=by
  intro X hP hw hK hc i pins s σ H E I hf st hg;subst hP hw hK;obtain⟨xs,hq,hx⟩:=hg;obtain⟨its,rv,p,hz⟩:=I.list hq;obtain⟨f0,f1,f2,f3,f4,f5⟩:=hf it (by simp)
  have hl:=rv.length
  exact wpAny_pyNext_list_end (I.ok.hd hc) st p.isList (by simp;lia) fun h' eb=>⟨rfl,I.turned (t':=s.toks) (fun b o hb e=>eb b o hb e) f0 f1 f3 f4 f5⟩
 self:=fun _ _ _ _ _ st h=>wpAny_pyIter_listiter st h
theorem xG{P:vc}{w:World}{K:va}{tg:Expr}(a it:Addr):Turn P w K tg (Itt K a) [it] it (fun i h=>h.IsTupleIter it a i) where
 mem:=by simp
 obj:=fun i h st b hb=>by
  have e:b=it:=by simpa using hb
  subst e;obtain⟨o,e,c,d⟩:=st;exact⟨o,e,fun v z=>by rw[d]at z;cases z⟩
 keep:=fun i h h' st k=>st.at fun o e=>k it (by simp) o e
 item:=by
  intro X hP hw hK hc i pins s σ H E I hf st hg;subst hP hw hK;obtain⟨xs,x,hq,hx⟩:=hg;obtain⟨its,rv,p,hz⟩:=I.tuple hq;obtain⟨u,hu,ru⟩:=rv.get hx;obtain⟨f0,f1,f2,f3,f4,f5⟩:=hf it (by simp)
  refine wpAny_pyNext_tuple_item st (show s.heap.IsTuple a its.toArray from p) (x:=u) (by simpa using hu) fun h' ae sb=>?_
  have I1:Inv X pins σ H { s with heap:=h' }:=I.turned (t':=s.toks) (fun b o hb e=>(sb.2 b hb).trans e) f0 f1 f3 f4 f5
  obtain⟨o,e,c,d⟩:=id ae;exact⟨u,rfl,AU (s:={ s with heap:=h' }) e c d (by decide) ⟨x,H,I1,ru,⟨rfl,fun ys hy=>by rw[I.tuple_inj hy hq];exact hx⟩,ae,fun b hb=>(hf b hb).1⟩⟩
 done:=by
  intro X hP hw hK hc i pins s σ H E I hf st hg;subst hP hw hK;obtain⟨xs,hq,hx⟩:=hg;obtain⟨its,rv,p,hz⟩:=I.tuple hq;obtain⟨f0,f1,f2,f3,f4,f5⟩:=hf it (by simp)
  have hl:=rv.length
  exact wpAny_pyNext_tuple_end (I.ok.hd hc) st (show s.heap.IsTuple a its.toArray from p) (by simp;lia) fun h' eb=>⟨rfl,I.turned (t':=s.toks) (fun b o hb e=>eb b o hb e) f0 f1 f3 f4 f5⟩
 self:=fun _ _ _ _ _ st h=>wpAny_pyIter_tupleiter st h
theorem xH{P:vc}{w:World}{K:va}{tg:Expr}(it:Addr)(lo:Int)(n:Nat):Turn P w K tg (mG lo n) [it] it (fun i h=>IsRangeIter h it (lo+(i:Nat)*1) ((n:Int)-(i:Nat)) 1) where
 mem:=by simp
 obj:=fun i h st b hb=>by
  have e:b=it:=by simpa using hb
  subst e;exact⟨_,st,fun v z=>by
   have z':Data.fields _=Data.cell v:=z
   cases z'⟩
 keep:=fun i h h' st k=>k it (by simp) _ st
 item:=by
  intro X hP hw hK hc i pins s σ H E I hf st hg;subst hP hw hK;obtain⟨f0,f1,f2,f3,f4,f5⟩:=hf it (by simp)
  have W:=Walks.range (prog:=X.prog) (w:=X.w) (I.ok.hd hc) it lo 1 n
  refine W.item i s _ _ hg st fun v h' tk hv ae kk=>?_
  obtain⟨t,rfl⟩:=hv;have I1:Inv X pins σ H { s with heap:=h',toks:=tk }:=I.turned (fun b o hb e=>kk b o (by simpa using hb) e) f0 f1 f3 f4 f5
  refine⟨_,rfl,AU (s:={ s with heap:=h',toks:=tk }) (n:="range_iterator") ae rfl rfl (by decide) ⟨.int (lo+i),H,I1,⟨t,?_⟩,⟨rfl,rfl⟩,ae,fun b hb=>(hf b hb).1⟩⟩
  rw[Int.mul_one]
 done:=by
  intro X hP hw hK hc i pins s σ H E I hf st hg;subst hP hw hK;obtain⟨f0,f1,f2,f3,f4,f5⟩:=hf it (by simp)
  exact wpAny_pyNext_range_end (I.ok.hd hc) st (by have:n≤i:=hg;lia) fun h' eb=>⟨rfl,I.turned (t':=s.toks) (fun b o hb e=>eb b o hb e) f0 f1 f3 f4 f5⟩
 self:=fun _ _ _ _ _ st h=>wpAny_pyIter_rangeiter st h
section
variable {X:Cx}{tg:Expr}
theorem uZ{pins:ve}{σ:St}{H:Hp}{s:Shared}{R:It→Hp→Prop}{E:vd}{lo hi:Int}{t u v:Tok}{tk:Nat}(I:Inv X pins σ H s)(h1:-(2 ^ 62)≤lo)(h2:lo<2 ^ 62)(h3:-(2 ^ 62)≤hi)(h4:hi<2 ^ 62)
  (q:R (mG lo (hi-lo).toNat) H):wpAny (model X.prog X.w) X.A (pyIter (.ref s.heap.objs.size)) (PIE X pins σ tg R) E { s with heap:=s.heap.push { cls:=.type "range",data:=.fields #[.int lo t,.int hi u,.int 1 v] },toks:=tk }:=by
 refine wpAny_pyIter_range (IsRange.new ..) (small_one h1 h2 h3 h4) ?_;have I1:Inv X pins σ H { s with heap:=s.heap.push { cls:=.type "range",data:=.fields #[.int lo t,.int hi u,.int 1 v] },toks:=tk }:=I.kept fun b o e=>qq _ e
 refine⟨(s.heap.push { cls:=.type "range",data:=.fields #[.int lo t,.int hi u,.int 1 v] }).objs.size,[(s.heap.push { cls:=.type "range",data:=.fields #[.int lo t,.int hi u,.int 1 v] }).objs.size],_,_,H,rfl,
  I1.kept (t':=tk) fun b o e=>qq _ e,xH _ lo (hi-lo).toNat,?_,fun b hb=>?_,q⟩
 ·have e1:lo+((0:Nat):Int)*1=lo:=by simp
  have e2:(((hi-lo).toNat:Nat):Int)-((0:Nat):Int)=Builtin.Range.rangeSize lo hi 1:=by rw[rangeSize_one];split<;>lia
  show IsRangeIter _ _ (lo+((0:Nat):Int)*1) ((((hi-lo).toNat:Nat):Int)-((0:Nat):Int)) 1
  rw[e1,e2];exact uc _ rfl
 ·have e:b=(s.heap.push { cls:=.type "range",data:=.fields #[.int lo t,.int hi u,.int 1 v] }).objs.size:=by simpa using hb
  subst e;exact I1.fpOk (qm _) (I1.hok.fresh (qm _))
def aEP(ta:TA):TI:=fun σ H R=>ta σ H fun vs H1=>∃j:Int,vs=[.int j]∧-(2 ^ 62)≤j∧j<2 ^ 62∧R (mG 0 j.toNat) H1
def aEO(ta:TA):TI:=fun σ H R=>ta σ H fun vs H1=>∃i j:Int,vs=[.int i,.int j]∧(-(2 ^ 62)≤i∧i<2 ^ 62∧-(2 ^ 62)≤j∧j<2 ^ 62)∧R (mG i (j-i).toNat) H1
theorem EB{a:Expr}{ta:TA}{p pos:Pos}(hg:Gl X "range")(hm:X.mg "range" = none)(ha:PA X [a] ta)(hs:starEach [a] X.env=[(false,eval a X.env)]:=by rfl):PI X tg (.Call (.Name "range" p) [a] [] pos) (aEP ta):=by
 intro pins s σ H R I h;refine Call_ (gH I hg hm boot_range (sh (af (ha pos pins s σ H _ I h) fun us s1 ⟨vs,H1,I1,r1,q1⟩=>?_) hs rfl))
 obtain⟨j,e,q1,q2,q⟩:=q1;subst e;cases r1 with
 |cons r rr =>
  cases rr;obtain⟨t,rfl⟩:=r;exact call_range_1 (uZ I1 (by lia) (by lia) q1 q2 (by simpa using q))
theorem EA{a b:Expr}{ta:TA}{p pos:Pos}(hg:Gl X "range")(hm:X.mg "range" = none)(ha:PA X [a,b] ta)(hs:starEach [a,b] X.env=[(false,eval a X.env),(false,eval b X.env)]:=by rfl)(i0:starEach [b] X.env=[(false,eval b X.env)]:=by rfl) :
  PI X tg (.Call (.Name "range" p) [a,b] [] pos) (aEO ta):=by
 intro pins s σ H R I h;refine Call_ (gH I hg hm boot_range (sh (af (ha pos pins s σ H _ I h) fun us s1 ⟨vs,H1,I1,r1,q1⟩=>?_) (by rw[hs,i0]) (by rw[i0];rfl)))
 obtain⟨i,j,e,⟨q1,q2,q3,q4⟩,q⟩:=q1;subst e;cases r1 with
 |cons r rr =>
  cases rr with
  |cons r' rr =>
   cases rr;obtain⟨t,rfl⟩:=r;obtain⟨t',rfl⟩:=r';exact call_range_2 (uZ I1 q1 q2 q3 q4 q)
def aGQ(wi:TI)(g:TG)(tb:TS):TS:=fun D σ H=>wi σ H fun J H1=>∃W:Nat→Nat→St→Hp→Prop,(∃m,W 0 m σ H1)∧∀i m σ H,W i m σ H →
 (J.stop i H∧D.nx σ H)∨(J.go i H∧∃N:St→Hp→Prop,(∀σ' H',N σ' H'→∃m',m'<m∧W (i+1) m' σ' H')∧∀x H',J.yld i H x H'→g x σ H' fun σ2 H2=>tb { D with nx:=N,ct:=N,bk:=D.nx } σ2 H2)
noncomputable def lG(fp:List Addr)(h:Heap):List (Addr×Obj):=fp.filterMap fun b=>(h.get? b).map fun o=>(b,o)
theorem hV{fp:List Addr}{h:Heap}{b:Addr}{o:Obj}(hb:b∈fp)(e:h.get? b=some o):(b,o)∈lG fp h:=mem_filterMap.mpr ⟨b,hb,by rw[e];rfl⟩
theorem EG{fp:List Addr}{h:Heap}{p:Addr×Obj}(hp:p∈lG fp h):p.1∈fp∧h.get? p.1=some p.2:=by
 obtain⟨b,hb,e⟩:=mem_filterMap.mp hp;cases q:h.get? b with
 |none=>rw[q]at e;cases e
 |some o =>
  rw[q]at e;have e':(b,o)=p:=qw e
  subst e';exact⟨hb,q⟩
theorem Inv.pinned{pins:ve}{σ:St}{H:Hp}{s:Shared}{fp:List Addr}(I:Inv X pins σ H s)(hf:∀b∈fp,oU X pins H b)(ho:∀b∈fp,∃o,s.heap.get? b=some o∧∀v,o.data≠.cell v):Inv X (pins++lG fp s.heap) σ H s:=
 I.pins_of fun p hp=>(v9.mp hp).elim (fun z=>I.pin p (tu _ z)) fun z=>by
  obtain⟨hb,e⟩:=EG z;obtain⟨f0,f1,f2,_⟩:=hf p.1 hb;obtain⟨o,e',d⟩:=ho p.1 hb;rw[e]at e';cases e';exact⟨e,f0,f1,f2,d⟩
theorem Inv.unpinned{pins pl:ve}{σ:St}{H:Hp}{s:Shared}(I:Inv X (pins++pl) σ H s):Inv X pins σ H s:=I.pins_of fun p hp=>I.pin p (tu _ (tw _ hp))
theorem YE{iter:Expr}{body:List Stmt}{wi:TI}{g:TG}{tb:TS}{pos:Pos}(hp:PassesOwn (model X.prog X.w) X.A X.env X.xe)(hc:X.calm=true)(hi:PI X tg iter wi)(hg:PG X tg g)(hb:PSs X body tb)
  (hs:∀x,foldedSetIterable iter X.env x=pure x:=by intro _;rfl):PS X (.For tg iter body [] pos) (aGQ wi g tb):=by
 intro pins s σ H D I h;refine wpAny_For (af (hi pins s σ H _ I h) fun v s1 h1=>af h1 fun itv s2 h2=>?_) hs
 obtain⟨it,fp,tn,J,H2,e,I2,T,gp,f2,W,⟨m0,w0⟩,turn⟩:=h2;subst e;have eg:∀{H':Hp},(∀b∈fp,H' b=none)→∀b∈fp,oU X pins H' b:=fun hn b hb=>⟨hn b hb,(f2 b hb).2⟩
 refine codeAny_forLoop_any (fun n s'=>∃i σ' H',Inv X pins σ' H' s'∧tn i s'.heap∧(∀b∈fp,H' b=none)∧W i n σ' H') ?_ m0 ⟨0,σ,H2,I2,gp,fun b hb=>(f2 b hb).1,w0⟩
 rintro n s3 ⟨i,σ3,H3,I3,jf,fr3,w3⟩
 rcases turn i n σ3 H3 w3 with ⟨stop,qn⟩|⟨go,N,hN,step⟩
 ·refine wpAny_passesOwn hp (af (T.done X rfl rfl rfl hc i pins s3 σ3 H3 X.xe I3 (eg fr3) jf stop) fun r s4 ⟨hr,I4⟩=>?_)
  subst hr;exact wpAny_execs_nil ⟨σ3,H3,I4,qn⟩
 ·refine wpAny_passesOwn hp (af (T.item X rfl rfl rfl hc i pins s3 σ3 H3 X.xe I3 (eg fr3) jf go) fun r s4 ⟨u,hr,h4⟩=>?_)
  subst hr;refine wpAny_passesOwn hp (af h4 fun _ s5 ⟨x,H5,I5,r5,y5,st5,fr5⟩=>?_)
  have I5':=I5.pinned (eg fr5) (T.obj _ _ st5)
  refine wpAny_passesOwn hp (af (hg _ s5 σ3 H5 x u _ I5' r5 (step x H5 y5)) fun _ s6 ⟨σ6,H6,I6,q6⟩=>?_)
  refine wpAny_passesOwn hp (af (hb _ s6 σ6 H6 _ I6 q6) fun f s7 q7=>?_)
  have again:∀{σ7:St} {H7:Hp},Inv X (pins++lG fp s5.heap) σ7 H7 s7→N σ7 H7→∃m,m<n∧∃i σ' H',Inv X pins σ' H' s7∧tn i s7.heap∧(∀b∈fp,H' b=none)∧W i m σ' H':=fun {σ7 H7} I7 n7=>by
   obtain⟨m',hm,w7⟩:=hN σ7 H7 n7;refine⟨m',hm,i+1,σ7,H7,I7.unpinned,T.keep _ _ _ st5 fun b hb o e=>(I7.pin (b,o) (tu _ (tu _ (hV hb e)))).1,fun b hb=>?_,w7⟩
   obtain⟨o,e,d⟩:=T.obj _ _ st5 b hb;exact(I7.pin (b,o) (tu _ (tu _ (hV hb e)))).2.1
  cases f with
  |next=>obtain⟨σ7,H7,I7,n7⟩:=q7;exact again I7 n7
  |cont=>obtain⟨σ7,H7,I7,n7⟩:=q7;exact again I7 n7
  |brk=>obtain⟨σ7,H7,I7,q7⟩:=q7;exact⟨σ7,H7,I7.unpinned,q7⟩
  |ret v=>obtain⟨x7,σ7,H7,I7,r7,q7⟩:=q7;exact⟨x7,σ7,H7,I7.unpinned,r7,q7⟩
end
abbrev R2:=V→V→Hp→VK→Prop
def ay(X:Cx)(f:Value→Value→Sem Value)(r:R2):Prop:=
 ∀(pins:ve) (s:Shared) (σ:St) (H:Hp) (x y:V) (v u:Value) (Q:VK),Inv X pins σ H s→RelV x v→RelV y u→r x y H Q →
  wpAny (model X.prog X.w) X.A (f v u) (EP X pins σ Q) X.xe s
def gF(X:Cx)(f:Value)(r:List V→Hp→VK→Prop):Prop:=
 ∀(pins:ve) (s:Shared) (σ:St) (H:Hp) (xs:List V) (us:List Value) (Q:VK),Inv X pins σ H s→aS xs us→r xs H Q →
  wpAny (model X.prog X.w) X.A (call f us) (EP X pins σ Q) X.xe s
def aIf(X:Cx)(r:V→Hp→(Bool→Hp→Prop)→Prop):Prop:=
 ∀(pins:ve) (s:Shared) (σ:St) (H:Hp) (x:V) (v:Value) (Q:Bool→Hp→Prop),Inv X pins σ H s→RelV x v→r x H Q →
  wpAny (model X.prog X.w) X.A (truthy v) (TP X pins σ Q) X.xe s
def i8(r:R2)(ta tb:TE):TE:=fun σ H Q=>ta σ H fun x H1=>tb σ H1 fun y H2=>r x y H2 Q
noncomputable def rI(C:Int→Int→Prop)(g:Int→Int→V):R2:=fun x y H Q=>∃i j,x=.int i∧y=.int j∧C i j∧Q (g i j) H
noncomputable def jg(g:Int→Int→V):R2:=fun x y H Q=>∃i j,x=.int i∧y=.int j∧Q (g i j) H
section
variable {X:Cx}{a b c:Expr}{ta tb tc:TE}{pos:Pos}
theorem aAI(ha:PE X a ta)(hb:PE X b tb){pins:ve}{s:Shared}{σ:St}{H:Hp}{R:V→V→Hp→Prop}(I:Inv X pins σ H s)
  (h:ta σ H fun x H1=>tb σ H1 fun y H2=>R x y H2) {Q:vd} {f:Value→Value→Sem Value}
  (hf:∀v u s2 x y H2,Inv X pins σ H2 s2→RelV x v→RelV y u→R x y H2→wpAny (model X.prog X.w) X.A (f v u) Q X.xe s2) :
  wpAny (model X.prog X.w) X.A (eval a X.env) (fun v s₁=>wpAny (model X.prog X.w) X.A (eval b X.env) (fun u s₂=>wpAny (model X.prog X.w) X.A (f v u) Q X.xe s₂) X.xe s₁) X.xe s:=by
 refine af (ha pins s σ H _ I h) fun v s1 ⟨x,H1,I1,r1,q1⟩=>?_
 refine af (hb pins s1 σ H1 _ I1 q1) fun u s2 ⟨y,H2,I2,r2,q2⟩=>?_
 exact hf v u s2 x y H2 I2 r1 r2 q2
theorem UJ{op:Operator}{r:R2}(ho:ay X (binaryOp op) r)(ha:PE X a ta)(hb:PE X b tb):PE X (.BinOp a op b pos) (i8 r ta tb):=by
 intro pins s σ H Q I h;exact wpAny_BinOp (aAI ha hb I h fun v u s2 x y H2 I2 rx ry q=>ho pins s2 σ H2 x y v u Q I2 rx ry q)
theorem opI{f:Value→Value→Sem Value}{C:Int→Int→Prop}{g:Int→Int→Int}
  (rule:∀(i j:Int) (t u:Tok) (s:Shared) (Q:vd) (E:vd),C i j→Q (.int (g i j) s.toks) { s with toks:=s.toks+1 }→wpAny (model X.prog X.w) X.A (f (.int i t) (.int j u)) Q E s) :
  ay X f (rI C fun i j=>.int (g i j)):=by
 intro pins s σ H x y v u Q I rx ry h;obtain⟨i,j,rfl,rfl,hc,q⟩:=h;obtain⟨t,rfl⟩:=rx;obtain⟨t',rfl⟩:=ry;exact rule i j t t' s _ _ hc ⟨.int (g i j),H,I.tok _,⟨_,rfl⟩,q⟩
theorem aDB{f:Value→Value→Sem Value}{g:Int→Int→Int}
  (rule:∀(i j:Int) (t u:Tok) (s:Shared) (Q:vd) (E:vd),Q (.int (g i j) s.toks) { s with toks:=s.toks+1 }→wpAny (model X.prog X.w) X.A (f (.int i t) (.int j u)) Q E s) :
  ay X f (jg fun i j=>.int (g i j)):=by
 intro pins s σ H x y v u Q I rx ry h;obtain⟨i,j,rfl,rfl,q⟩:=h;obtain⟨t,rfl⟩:=rx;obtain⟨t',rfl⟩:=ry;exact rule i j t t' s _ _ ⟨.int (g i j),H,I.tok _,⟨_,rfl⟩,q⟩
theorem QY{f:Value→Value→Sem Value}{g:Int→Int→Bool}
  (rule:∀(i j:Int) (t u:Tok) (s:Shared) (Q:vd) (E:vd),Q (.bool (g i j)) s→wpAny (model X.prog X.w) X.A (f (.int i t) (.int j u)) Q E s) :
  ay X f (jg fun i j=>.bl (g i j)):=by
 intro pins s σ H x y v u Q I rx ry h;obtain⟨i,j,rfl,rfl,q⟩:=h;obtain⟨t,rfl⟩:=rx;obtain⟨t',rfl⟩:=ry;exact rule i j t t' s _ _ ⟨.bl (g i j),H,I,rfl,q⟩
def aIr(i j:Int):Prop:=0<j∧j<1073741824
def aIq(i j:Int):Prop:=0≤j∧j≤1000000∧i.natAbs<2 ^ 64
def aBf(i j:Int):Prop:=(-(2 ^ 64)<i∧i<2 ^ 64)∨(-(2 ^ 64)<j∧j<2 ^ 64)
theorem aBf.ok{i j:Int}(h:aBf i j):IntMulOk i j:=by
 rcases h with ⟨h1,h2⟩|⟨h1,h2⟩
 ·exact .of_left (intBits_le_64 h1 h2)
 ·exact .of_right (intBits_le_64 h1 h2)
theorem YW:ay X (binaryOp .Add) (jg fun i j=>.int (i+j)):=aDB fun _ _ _ _ _ _ _ q=>add_int q
theorem YR:ay X (binaryOp .Sub) (jg fun i j=>.int (i-j)):=aDB fun _ _ _ _ _ _ _ q=>sub_int q
theorem YT:ay X (binaryOp .Mult) (rI aBf fun i j=>.int (i*j)):=opI fun _ _ _ _ _ _ _ hc q=>mul_int q hc.ok
theorem QP:ay X (binaryOp .FloorDiv) (rI aIr fun i j=>.int (i / j)):=opI fun i j _ _ _ _ _ hc q=>by
 have h1:(0:Int)<j:=hc.1
 have h2:j<1073741824:=hc.2
 exact floordiv_int (by lia) (by rw[Int.fdiv_eq_ediv_of_nonneg i (by lia)];exact q) (.inl (PyProof.noPylong_small (by lia)))
theorem YU:ay X (binaryOp .Mod) (rI (fun _ j=>0<j) fun i j=>.int (i % j)):=opI fun i j _ _ _ _ _ hc q=>by
 have h1:(0:Int)<j:=hc
 exact mod_int' (by lia) (by rw[Int.fmod_eq_emod_of_nonneg i (by lia)];exact q)
theorem YS:ay X (binaryOp .Pow) (rI aIq fun i j=>.int (i ^ j.toNat)):=opI fun _ _ _ _ _ _ _ hc q=>pow_int_small hc.1 hc.2.1 hc.2.2 q
end
noncomputable def xN:V→V→Bool
 |.non,.non=>true | .non,.int _=>true | .int _,.non=>true | .non,.bl _=>true | .bl _,.non=>true | .non,.str _=>true | .str _,.non=>true
 |.int _,.int _=>true | .bl _,.bl _=>true | .str _,.str _=>true | .byt _,.byt _=>true
 |.int _,.str _=>true | .str _,.int _=>true | .bl _,.str _=>true | .str _,.bl _=>true
 |_,_=>false
noncomputable def rEq:R2:=fun x y H Q=>xN x y=true∧Q (.bl (decide (x=y))) H
noncomputable def rNe:R2:=fun x y H Q=>xN x y=true∧Q (.bl (!decide (x=y))) H
theorem CM{i j:Int}:decide (V.int i=V.int j)=(i == j):=by
 rw[Bool.eq_iff_iff];simp
theorem LB{i j:Bool}:decide (V.bl i=V.bl j)=(i == j):=by
 rw[Bool.eq_iff_iff];simp
theorem tR{i j:Str}:decide (V.str i=V.str j)=(i == j):=by
 rw[Bool.eq_iff_iff];simp
theorem CN{i j:Array UInt8}:decide (V.byt i=V.byt j)=(i.toList == j.toList):=by
 rw[Bool.eq_iff_iff];cases i;cases j;simp
section
variable {X:Cx}{a b c:Expr}{ta tb tc:TE}{pos:Pos}
theorem bB{pins:ve}{σ:St}{H:Hp}{s:Shared}{Q:VK}{k k':Bool}(I:Inv X pins σ H s)(q:Q (.bl k) H)(e:k=k'):EP X pins σ Q (.bool k') s:=by
 subst e;exact⟨.bl k,H,I,rfl,q⟩
theorem aDA:ay X (compareOp .Eq) rEq:=by
 intro pins s σ H x y v u Q I rx ry h;obtain⟨hs,q⟩:=h;cases x with
 |non =>
  cases rx;cases y with
  |non=>cases ry;exact PySem.EqNone.eq_none_none (bB I q (by simp))
  |bl j=>cases ry;exact PySem.EqNone.eq_none_bool (bB I q (by simp))
  |int j=>obtain⟨t',rfl⟩:=ry;exact PySem.EqNone.eq_none_int (bB I q (by simp))
  |str j=>obtain⟨t',rfl⟩:=ry;exact PySem.EqNone.eq_none_str (bB I q (by simp))
  |_=>exact absurd (show false=true from hs) r8
 |bl i =>
  cases rx;cases y with
  |non=>cases ry;exact PySem.EqNone.eq_bool_none (bB I q (by simp))
  |bl j=>cases ry;exact eq_bool (bB I q LB)
  |str j=>obtain⟨t',rfl⟩:=ry;exact PySem.EqMixed.eq_bool_str (bB I q (by simp))
  |_=>exact absurd (show false=true from hs) r8
 |int i =>
  obtain⟨t,rfl⟩:=rx;cases y with
  |non=>cases ry;exact PySem.EqNone.eq_int_none (bB I q (by simp))
  |int j=>obtain⟨t',rfl⟩:=ry;exact eq_int (bB I q CM)
  |str j=>obtain⟨t',rfl⟩:=ry;exact PySem.EqMixed.eq_int_str (bB I q (by simp))
  |_=>exact absurd (show false=true from hs) r8
 |str i =>
  obtain⟨t,rfl⟩:=rx;cases y with
  |non=>cases ry;exact PySem.EqNone.eq_str_none (bB I q (by simp))
  |bl j=>cases ry;exact PySem.EqMixed.eq_str_bool (bB I q (by simp))
  |int j=>obtain⟨t',rfl⟩:=ry;exact PySem.EqMixed.eq_str_int (bB I q (by simp))
  |str j=>obtain⟨t',rfl⟩:=ry;exact eq_str (bB I q tR)
  |_=>exact absurd (show false=true from hs) r8
 |byt i =>
  obtain⟨t,rfl⟩:=rx;cases y with
  |byt j=>obtain⟨t',rfl⟩:=ry;exact PySem.W.eq_bytes (bB I q CN)
  |_=>exact absurd (show false=true from hs) r8
 |_=>cases y<;>exact absurd (show false=true from hs) r8
theorem aDv:ay X (compareOp .NotEq) rNe:=by
 intro pins s σ H x y v u Q I rx ry h;obtain⟨hs,q⟩:=h;cases x with
 |non =>
  cases rx;cases y with
  |non=>cases ry;exact PySem.EqNone.ne_none_none (bB I q (by simp))
  |bl j=>cases ry;exact PySem.EqNone.ne_none_bool (bB I q (by simp))
  |int j=>obtain⟨t',rfl⟩:=ry;exact PySem.EqNone.ne_none_int (bB I q (by simp))
  |str j=>obtain⟨t',rfl⟩:=ry;exact PySem.EqNone.ne_none_str (bB I q (by simp))
  |_=>exact absurd (show false=true from hs) r8
 |bl i =>
  cases rx;cases y with
  |non=>cases ry;exact PySem.EqNone.ne_bool_none (bB I q (by simp))
  |bl j=>cases ry;exact ne_bool (bB I q (congrArg not LB))
  |str j=>obtain⟨t',rfl⟩:=ry;exact PySem.EqMixed.ne_bool_str (bB I q (by simp))
  |_=>exact absurd (show false=true from hs) r8
 |int i =>
  obtain⟨t,rfl⟩:=rx;cases y with
  |non=>cases ry;exact PySem.EqNone.ne_int_none (bB I q (by simp))
  |int j=>obtain⟨t',rfl⟩:=ry;exact ne_int (bB I q (congrArg not CM))
  |str j=>obtain⟨t',rfl⟩:=ry;exact PySem.EqMixed.ne_int_str (bB I q (by simp))
  |_=>exact absurd (show false=true from hs) r8
 |str i =>
  obtain⟨t,rfl⟩:=rx;cases y with
  |non=>cases ry;exact PySem.EqNone.ne_str_none (bB I q (by simp))
  |bl j=>cases ry;exact PySem.EqMixed.ne_str_bool (bB I q (by simp))
  |int j=>obtain⟨t',rfl⟩:=ry;exact PySem.EqMixed.ne_str_int (bB I q (by simp))
  |str j=>obtain⟨t',rfl⟩:=ry;exact ne_str (bB I q (congrArg not tR))
  |_=>exact absurd (show false=true from hs) r8
 |byt i =>
  obtain⟨t,rfl⟩:=rx;cases y with
  |byt j=>obtain⟨t',rfl⟩:=ry;exact PySem.W.ne_bytes (bB I q (congrArg not CN))
  |_=>exact absurd (show false=true from hs) r8
 |_=>cases y<;>exact absurd (show false=true from hs) r8
theorem aDw:ay X (compareOp .Lt) (jg fun i j=>.bl (decide (i<j))):=QY fun _ _ _ _ _ _ _ q=>lt_int q
theorem aDx:ay X (compareOp .LtE) (jg fun i j=>.bl (decide (i≤j))):=QY fun _ _ _ _ _ _ _ q=>le_int q
theorem aDy:ay X (compareOp .Gt) (jg fun i j=>.bl (decide (j<i))):=QY fun _ _ _ _ _ _ _ q=>gt_int q
theorem aDz:ay X (compareOp .GtE) (jg fun i j=>.bl (decide (j≤i))):=QY fun _ _ _ _ _ _ _ q=>ge_int q
theorem YV:ay X (compareOp .Is) (fun x y H Q=>y=.non∧Q (.bl (decide (x=.non))) H):=by
 intro pins s σ H x y v u Q I rx ry h;obtain⟨rfl,q⟩:=h;cases ry;refine is_none_gen (bB I q ?_);cases x<;>first
  | (cases rx;rfl)
  | (obtain⟨t,rfl⟩:=rx;rfl)
theorem QO:ay X (compareOp .IsNot) (fun x y H Q=>y=.non∧Q (.bl (!decide (x=.non))) H):=by
 intro pins s σ H x y v u Q I rx ry h;obtain⟨rfl,q⟩:=h;cases ry;refine isnot_none_gen (bB I q ?_);cases x<;>first
  | (cases rx;rfl)
  | (obtain⟨t,rfl⟩:=rx;rfl)
theorem IX(b:Expr){op:CmpOp}(h:op≠.In:=by decide)(h2:op≠.NotIn:=by decide):behindInMarks op b=false:=by
 have e1:(op == CmpOp.In)=false:=by cases op<;>first|rfl|exact absurd rfl h
 have e2:(op == CmpOp.NotIn)=false:=by cases op<;>first|rfl|exact absurd rfl h2
 cases b<;>simp[behindInMarks,e1,e2]
theorem zY{op:CmpOp}{r:R2}(ho:ay X (compareOp op) r)(ha:PE X a ta)(hb:PE X b tb)(hm:behindInMarks op b=false):PE X (.Compare a [op] [b] pos) (i8 r ta tb):=by
 intro pins s σ H Q I h;exact wpAny_Compare1 (aAI ha hb I h fun v u s2 x y H2 I2 rx ry q=>ho pins s2 σ H2 x y v u Q I2 rx ry q) hm
noncomputable def GL(t:TE):TT:=fun σ H Q=>t σ H fun x H'=>∃k,x=.bl k∧Q k H'
theorem zU{op:CmpOp}{r:R2}(ho:ay X (compareOp op) r)(ha:PE X a ta)(hb:PE X b tb)(hm:behindInMarks op b=false):PT X (.Compare a [op] [b] pos) (GL (i8 r ta tb)):=by
 intro pins s σ H Q I h;refine wpAny_isTrue_Compare1 (af (ha pins s σ H _ I h) fun v s1 ⟨x,H1,I1,r1,q1⟩=>af (hb pins s1 σ H1 _ I1 q1) fun u s2 ⟨y,H2,I2,r2,q2⟩ =>
  af (ho pins s2 σ H2 x y v u _ I2 r1 r2 q2) fun c s3 ⟨z,H3,I3,r3,k,e,q3⟩=>?_) hm
 subst e;cases r3;exact wpAny_truthy_bool ⟨H3,I3,q3⟩
def xI(r r':R2)(ta tb tc:TE):TE:=fun σ H Q=>ta σ H fun x H1=>tb σ H1 fun y H2=>r x y H2 fun z H3=>∃k,z=.bl k ∧
 (if k=true then tc σ H3 fun w' H4=>r' y w' H4 Q else Q (.bl false) H3)
theorem vE{op dm:CmpOp}{r r':R2}(ho:ay X (compareOp op) r)(ic:ay X (compareOp dm) r')(ha:PE X a ta)(hb:PE X b tb)(hc:PE X c tc)
  (hm:lastMarks [op,dm] [b,c]=false:=by with_unfolding_all rfl):PE X (.Compare a [op,dm] [b,c] pos) (xI r r' ta tb tc):=by
 intro pins s σ H Q I h;refine Compare_chain (af (ha pins s σ H _ I h) fun v s1 ⟨x,H1,I1,r1,q1⟩=>chain_link (af (hb pins s1 σ H1 _ I1 q1) fun u s2 ⟨y,H2,I2,r2,q2⟩ =>
  af (ho pins s2 σ H2 x y v u _ I2 r1 r2 q2) fun d s3 ⟨z,H3,I3,r3,k,e,q3⟩=>?_)) hm
 subst e;cases r3;refine wpAny_truthy_bool ?_;cases k with
 |false=>exact ite_ff ⟨.bl false,H3,I3,rfl,q3⟩
 |true=>exact ite_tt (chain_last (af (hc pins s3 σ H3 _ I3 q3) fun w' s4 ⟨z',H4,I4,r4,q4⟩=>ic pins s4 σ H4 y z' u w' Q I4 r2 r4 q4))
theorem vB{op dm:CmpOp}{r r':R2}(ho:ay X (compareOp op) r)(ic:ay X (compareOp dm) r')(ha:PE X a ta)(hb:PE X b tb)(hc:PE X c tc)
  (hm:lastMarks [op,dm] [b,c]=false:=by with_unfolding_all rfl):PT X (.Compare a [op,dm] [b,c] pos) (GL (xI r r' ta tb tc)):=by
 intro pins s σ H Q I h;refine isTrue_chain (af (ha pins s σ H _ I h) fun v s1 ⟨x,H1,I1,r1,q1⟩=>test_link (af (hb pins s1 σ H1 _ I1 q1) fun u s2 ⟨y,H2,I2,r2,q2⟩ =>
  af (ho pins s2 σ H2 x y v u _ I2 r1 r2 q2) fun d s3 ⟨z,H3,I3,r3,k,e,q3⟩=>?_)) hm
 subst e;cases r3;refine wpAny_truthy_bool ?_;cases k with
 |false =>
  obtain⟨k',e',q'⟩:=q3;cases e';exact ite_ff ⟨H3,I3,q'⟩
 |true =>
  refine ite_tt (test_last (af (hc pins s3 σ H3 _ I3 q3) fun w' s4 ⟨z',H4,I4,r4,q4⟩=>af (ic pins s4 σ H4 y z' u w' _ I4 r2 r4 q4) fun d' s5 ⟨z2,H5,I5,r5,k2,e2,q5⟩=>?_))
  subst e2;cases r5;exact wpAny_truthy_bool ⟨H5,I5,q5⟩
def aAL(K:va)(x:V)(H:Hp)(k:Bool):Prop:=
 match x with
 |.non=>k=false
 |.bl b=>k=b
 |.int i=>k=(i != 0)
 |.str y=>y.length≤sizeLine∧k=((y.length:Int) != 0)
 |.byt y=>y.size≤sizeLine∧k=((y.size:Int) != 0)
 |.ref p=>(∃xs,SqL K H p xs∧k=!xs.isEmpty)∨(∃xs,SqT K H p xs∧k=!xs.isEmpty)∨∃kvs,H p=some (.dK kvs)∧k=!kvs.isEmpty
 |_=>False
theorem yP{κ:Type}{kvs:List (κ×V)}{vs:List (κ×Value)}(r:KV kvs vs):(!vs.isEmpty)=!kvs.isEmpty:=by
 cases r<;>rfl
theorem nQ{xs:List V}{its:List Value}(r:aS xs its):(!its.toArray.isEmpty)=!xs.isEmpty:=by
 cases r<;>simp
theorem jT:(sizeLine:Nat)<2 ^ 63:=by rw[sizeLine_eq];decide
theorem GJ:aIf X (fun x H Q=>∃k,aAL X.K x H k∧Q k H):=by
 intro pins s σ H x v Q I rx h;obtain⟨k,e,q⟩:=h;have hl:=jT
 have hs:sizeLine=16777216:=sizeLine_eq
 cases x with
 |non =>
  cases rx;have e':k=false:=e
  subst e';exact truthy_none ⟨H,I,q⟩
 |bl b =>
  cases rx;have e':k=b:=e
  subst e';exact wpAny_truthy_bool ⟨H,I,q⟩
 |int i =>
  obtain⟨t,rfl⟩:=rx;have e':k=(i != 0):=e
  subst e';exact PySem.P.truthy_int ⟨H,I,q⟩
 |str y =>
  obtain⟨t,rfl⟩:=rx;obtain⟨hy,e'⟩:y.length≤sizeLine∧k=((y.length:Int) != 0):=e;subst e';exact PySem.P.truthy_str (by lia) ⟨H,I.tok _,q⟩
 |byt y =>
  obtain⟨t,rfl⟩:=rx;obtain⟨hy,e'⟩:y.size≤sizeLine∧k=((y.size:Int) != 0):=e;subst e';exact PySem.W.truthy_bytes (by lia) ⟨H,I.tok _,q⟩
 |ref p =>
  cases rx;have e':(∃xs,SqL X.K H p xs∧k=!xs.isEmpty)∨(∃xs,SqT X.K H p xs∧k=!xs.isEmpty)∨∃kvs,H p=some (.dK kvs)∧k=!kvs.isEmpty:=e
  rcases e' with ⟨xs,hx,e'⟩|⟨xs,hx,e'⟩|⟨kvs,hx,e'⟩
  ·subst e';obtain⟨its,r,pl,hz⟩:=I.list hx;have hlen:=r.length
   exact wpAny_truthy_list pl.isList (by simp only[qu];lia) ⟨H,I.tok _,by rw[nQ r];exact q⟩
  ·subst e';obtain⟨its,r,pl,hz⟩:=I.tuple hx;have hlen:=r.length
   exact truthy_tuple pl (by simp only[qu];lia) ⟨H,I.tok _,by rw[nQ r];exact q⟩
  ·subst e';obtain⟨hz,hS,vs,r,m⟩:kvs.length≤sizeLine∧(p == sysModules)=false∧∃vs,KV kvs vs∧s.heap.DictOf (bQ X.prog X.w) p vs:=I.hok p _ hx;have hlen:kvs.length=vs.length:=Paired.length r
   exact wpAny_truthy_dict hS m (by lia) ⟨H,I.tok _,by rw[yP r];exact q⟩
 |_=>exact(show False from e).elim
theorem HL(ha:PE X a ta)(he:∀whole,isTrue a X.env whole=(do let v ←whole;standAt a.pos;holding [v] (truthy v))) :
  PT X a (fun σ H Q=>ta σ H fun x H'=>∃k,aAL X.K x H' k∧Q k H'):=by
 intro pins s σ H Q I h;exact isTrue_plain (af (ha pins s σ H _ I h) fun v s1 ⟨x,H1,I1,r1,q1⟩=>GJ pins s1 σ H1 x v Q I1 r1 q1) (he _)
theorem yA:ay X (binaryOp .Add) (fun x y H Q=>∃i j,x=.str i∧y=.str j∧i.length+j.length≤sizeLine∧Q (.str (i++j)) H):=by
 intro pins s σ H x y v u Q I rx ry h;obtain⟨i,j,rfl,rfl,hz,q⟩:=h;obtain⟨t,rfl⟩:=rx;obtain⟨t',rfl⟩:=ry;exact add_str (fun t' tk=>⟨.str (i++j),H,I.tok _,⟨_,rfl⟩,q⟩) hz
theorem vals1{x:V}{us:List Value}(r:aS [x] us):∃u,us=[u]∧RelV x u:=by
 cases r with
 |cons r1 r2=>cases r2;exact⟨_,rfl,r1⟩
theorem vals2{x y:V}{us:List Value}(r:aS [x,y] us):∃u w',us=[u,w']∧RelV x u∧RelV y w':=by
 cases r with
 |cons r1 r2 =>
  cases r2 with
  |cons r3 r4=>cases r4;exact⟨_,_,rfl,r1,r3⟩
theorem FW(hc:X.calm=true):gF X (.builtin "max") (fun xs H Q=>∃i j,xs=[.int i,.int j]∧Q (.int (if j > i then j else i)) H):=by
 intro pins s σ H xs us Q I r h;obtain⟨i,j,rfl,q⟩:=h;obtain⟨u,w',rfl,⟨t,rfl⟩,⟨t',rfl⟩⟩:=vals2 r;refine max_two_ints (I.ok.hd hc) fun h' tk k=>⟨_,H,I.kept k,?_,q⟩
 by_cases hj:j > i
 ·rw[if_pos hj,if_pos hj];exact⟨_,rfl⟩
 ·rw[if_neg hj,if_neg hj];exact⟨_,rfl⟩
end
structure ObjM (h:Heap) (x dx C:Addr) (mA:vf):Prop where
 obj:h.get? x=some (instObj C dx)
 ns:h.Ns1 dx mA
 ne:dx≠x
theorem EO{h:Heap}{dx:Addr}{mA:vf}(n:h.Ns1 dx mA):∃od,h.get? dx=some od∧∀name,lookIn name od=some (mA name):=by
 obtain⟨o,es,ep,ho,hd,hk,_,hm⟩:=n;refine⟨o,ho,fun name=>?_⟩
 have e:=hm name
 unfold nsFind findBy at e;rw[←Array.find?_toList]at e;unfold lookIn;rw[hd];dsimp only;split
 ·rename_i y q;rw[q]at e;exact congrArg some e
 ·rename_i q;rw[q]at e;have a:es.toList.any (·.refKey)=false:=by
   rw[List.any_eq_false];intro y hy;obtain⟨z,t,hkey⟩:=hk y (Array.mem_toList_iff.mp hy);simp[DictEntry.refKey,hkey]
  have a':¬es.toList.any (·.refKey)=true:=by rw[a];exact r8
  rw[if_neg a'];exact congrArg some e
theorem ObjM.look{h:Heap}{x dx C:Addr}{mA:vf}(I:ObjM h x dx C mA):∃od,PySem.W.InstAt h x (instObj C dx) C (some od)∧∀name,lookIn name od=some (mA name):=
 let ⟨od,ho,hl⟩:=EO I.ns
 ⟨od,⟨I.obj,rfl,rfl,ho⟩,hl⟩
section
variable {prog:vc}{w:World}{A:Around}{E:vd}{s:Shared}{K:va}{x dx C f:Addr}{mA:vf}{name:Str}{v:Value}
theorem get_map{expr:Bool}{Q:vd}(X:K.In s.heap)(I:ObjM s.heap x dx C mA)(hg:plainGet K C name=true)(hh:hasDictIn K C=true)
  (ha:findIn K (.ref C) name=some none) (hv:mA name=some v) (hv':handedIn v=true) (h:Q v { s with toks:=s.toks+1 }) :
  wpAny (model prog w) A (getAttr (.ref x) name expr) Q E s:=by
 obtain⟨od,J,hl⟩:=I.look;exact PySem.W.get_value X J (plainGet_of hg).1 (PySem.W.findObj_own hh ha rfl (by rw[hl,hv])) hv' h
theorem JZ{pl:Sem Bool}{Q:Value×List Value→Shared→Prop}(X:K.In s.heap)(I:ObjM s.heap x dx C mA)(hg:plainGet K C name=true)
  (hf:findIn K (.ref C) name=some (some (.ref f))) (ht:isFn K (.ref f)=true) (hv:mA name=none) (h:Q (.ref f,[.ref x]) s) :
  wpAny (model prog w) A (getMethod (.ref x) name pl) Q E s:=by
 obtain⟨od,J,hl⟩:=I.look;exact PySem.W.method_fn X J (plainGet_of hg).1 (plainGet_of hg).2 hf (t7.mp ht) (by show (lookIn name od).map (·.isSome)=some false;rw[hl,hv];rfl) h
theorem OM{ns:List Str}{Q:Unit→Shared→Prop}(X:K.In s.heap)(I:ObjM s.heap x dx C mA)
  (hs:findIn K (.ref C) "__setattr__" = some (some (.builtin "object.__setattr__"))) (hp:plainOver K C=true) (ht:takerIn K C name=some none) (hh:hasDictIn K C=true)
  (hw:PySem.Within mA ns) (hsz:ns.length≤sizeLine)
  (h:∀h',ObjM h' x dx C (fun y=>if y=name then some v else mA y)→Heap.SameBut dx s.heap h'→Q () { s with heap:=h',toks:=s.toks+2 }) :
  wpAny (model prog w) A (setAttr (.ref x) name v) Q E s:=by
 obtain⟨od,J,hl⟩:=I.look;refine PySem.W.set_plain X J hs (PySem.W.osa_open (s:={ s with toks:=s.toks+1 }) (r:=none) X J hp ht fun b=>?_)
 obtain⟨cd,hc,hd'⟩:=PySem.W.any_some hh;have hx:s.heap.get? x=some ⟨.ref C,some dx,.plain,#[]⟩:=I.obj
 refine u7 (ua (u7 (u7 (wpAny_loadPart hx (u7 (PySem.W.Looks.here (s:={ s with toks:=s.toks+1 }) (PySem.W.looks_clsIn X hc) ?_))))))
 rw[hd'];refine ua (a:=some dx) (u7 (ua (u7 ?_)));refine wpAny_nsSet1 (s:={ s with toks:=s.toks+1 }) I.ns fun h' jk i0=>?_
 obtain⟨oD,esD,epD,hoD,hdD,hcD⟩:=jk.count (PySem.Within.cons name v hw);refine u7 (wpAny_lookBehind hoD (by rw[hdD];exact pastItsLine_dict (se hcD (by rw[uj];lia))) ?_)
 exact ua (h _ ⟨(i0.2 _ (Ne.symm I.ne)).trans I.obj,jk,I.ne⟩ i0)
theorem JC{R:Result→Shared→Prop}{vs:List Value}{kw:List (Str×Value)}(X:K.In s.heap)(hm:makesIn K C=true)
  (hi:findIn K (.ref C) "__init__" = some (some (.ref f))) (hf:PySem.W.typeIn K (.ref f)=some (.type "function"))
  (h:codeAny (model prog w) (A.under (.builtin "type.__call__" ⟨.ref C::vs,kw⟩)) (.call (.ref f) ⟨.ref (s.heap.objs.size+1)::vs,kw⟩) (PySem.W.InitBack (s.heap.objs.size+1) R)
   {s with heap:=(s.heap.push emptyDict).push (instObj C s.heap.objs.size) }) :
  codeAny (model prog w) A (.call (.ref C) ⟨vs,kw⟩) R s:=by
 obtain⟨hh,g,d,t,os⟩:=s;exact PySem.W.make_core (PySem.W.makes_of X hm) (PySem.W.looks_findIn X hi) (fun self=>PySem.W.bind_fn X self hf) (.inl rfl) h
end
noncomputable def iH(f:Str)(v:V):List (Str×V)→List (Str×V)
 |[]=>[(f,v)]
 | (g,x)::r=>if g=f then(g,v)::r else(g,x)::iH f v r
theorem mD(f g:Str)(v:V):∀fs:List (Str×V),(iH f v fs).lookup g=if g=f then some v else fs.lookup g
 |[]=>by
  show List.lookup g [(f,v)]=_
  by_cases h:g=f
  ·have hb:(g == f)=true:=t7.mpr h
   simp only[List.lookup,hb,if_pos h]
  ·have hb:(g == f)=false:=tf.mpr h
   simp only[List.lookup,hb,if_neg h]
 | (k,x)::r=>by
  have ih:=mD f g v r
  rw[show iH f v ((k,x)::r)=(if k=f then(k,v)::r else(k,x)::iH f v r) from rfl]
  by_cases hk:k=f
  ·rw[if_pos hk]
   by_cases h:g=k
   ·have hb:(g == k)=true:=t7.mpr h
    simp only[List.lookup,hb,if_pos (h.trans hk)]
   ·have hb:(g == k)=false:=tf.mpr h
    simp only[List.lookup,hb,if_neg (fun e:g=f=>h (e.trans hk.symm))]
  ·rw[if_neg hk]
   by_cases h:g=k
   ·have hb:(g == k)=true:=t7.mpr h
    simp only[List.lookup,hb,if_neg (fun e:g=f=>hk (h.symm.trans e))]
   ·have hb:(g == k)=false:=tf.mpr h
    simp only[List.lookup,hb];exact ih
theorem lN(f:Str)(v:V):∀fs:List (Str×V),f∈(iH f v fs).map (·.1)∧∀g,g∈fs.map (·.1)→g∈(iH f v fs).map (·.1)
 |[]=>⟨by simp[iH],fun g h=>by simp at h⟩
 | (k,x)::r=>by
  obtain⟨i1,i2⟩:=lN f v r;rw[show iH f v ((k,x)::r)=(if k=f then(k,v)::r else(k,x)::iH f v r) from rfl]
  by_cases hk:k=f
  ·rw[if_pos hk];subst hk;exact⟨by simp,fun g h=>by simpa using h⟩
  ·rw[if_neg hk];refine⟨?_,fun g h=>?_⟩
   ·rw[su];exact qt _ i1
   ·rw[su]at h ⊢
    rcases sg.mp h with e|e
    ·exact sg.mpr (.inl e)
    ·exact qt _ (i2 g e)
theorem mH(f:Str)(v:V):∀fs:List (Str×V),(iH f v fs).length≤fs.length+1
 |[]=>by simp[iH]
 | (k,x)::r=>by
  have ih:=mH f v r
  rw[show iH f v ((k,x)::r)=(if k=f then(k,v)::r else(k,x)::iH f v r) from rfl]
  by_cases hk:k=f
  ·rw[if_pos hk,uj,uj];lia
  ·rw[if_neg hk,uj,uj];lia
theorem jO.some_of{v:V}{o:Option Value}(r:jO (some v) o):∃u,o=some u∧RelV v u:=by
 cases o with
 |none=>exact(show False from r).elim
 |some u=>exact⟨u,rfl,r⟩
theorem jO.none_of{o:Option Value}(r:jO none o):o=none:=by
 cases o with
 |none=>rfl
 |some u=>exact(show False from r).elim
theorem FB{v:V}{u:Value}(r:RelV v u):handedIn u=true:=by
 cases v with
 |non=>cases (show u=Value.none from r);rfl
 |bl b=>cases (show u=Value.bool b from r);rfl
 |int i=>obtain⟨t,e⟩:=(show ∃t,u=Value.int i t from r);cases e;rfl
 |str x=>obtain⟨t,e⟩:=(show ∃t,u=Value.str x t from r);cases e;rfl
 |byt b=>obtain⟨t,e⟩:=(show ∃t,u=Value.bytes b t from r);cases e;rfl
 |flt b=>obtain⟨t,e⟩:=(show ∃t,u=Value.float b t from r);cases e;rfl
 |ref a=>cases (show u=Value.ref a from r);rfl
 |ty n=>cases (show u=Value.type n from r);rfl
section
variable {P:vc}{w:World}{H H':Hp}{h h':Heap}{a C dx:Addr}{fs fs':List (Str×V)}
theorem mX(hok:HOk P w H h)(e:H a=some (.ins C dx fs)):∃mA,ObjM h a dx C mA∧(∀f,jO (fs.lookup f) (mA f))∧PySem.Within mA (fs.map (·.1))∧fs.length≤1000∧H dx=some (.own a):=by
 obtain⟨d,z,ne,ob,mA,n,r,q⟩:=(show bZ P w H h a (.ins C dx fs) from hok a _ e)
 exact⟨mA,⟨ob,n,ne⟩,r,q,z,d⟩
end
structure Cls (K:va) (C:Addr):Prop where
 pg:plainGet K C Str.empty=true
 hd:hasDictIn K C=true
 po:plainOver K C=true
 sa:findIn K (.ref C) "__setattr__" = some (some (.builtin "object.__setattr__"))
theorem Cls.get{K:va}{C:Addr}(c:Cls K C)(f:Str):plainGet K C f=true:=c.pg
def eD(K:va)(C:Addr)(f:Str):Prop:=findIn K (.ref C) f=some none
theorem eD.taker{K:va}{C:Addr}{f:Str}(n:eD K C f):takerIn K C f=some none:=by
 unfold takerIn;rw[show findIn K (.ref C) f=some none from n]
 rfl
structure Con (K:va) (C:Addr) (f:Str) (v:V) (u:Value):Prop where
 at_:findIn K (.ref C) f=some (some u)
 rel:RelV v u
 get:specialIn K u "__get__" = some none
 cp:PySem.W.copiedNames.contains f=false
structure iu (K:va) (C:Addr) (m:Str) (f:Addr):Prop where
 at_:findIn K (.ref C) m=some (some (.ref f))
 fn:isFn K (.ref f)=true
 kp:keepIn K (.ref f)=true
section
variable {X:Cx}{pins:ve}{σ:St}{H:Hp}{s:Shared}{a C dx:Addr}{fs:List (Str×V)}{f:Str}{v:V}{A:Around}{E:vd}
theorem yT{b:Bool}{Q:vd}(I:Inv X pins σ H s)(e:H a=some (.ins C dx fs))(c:Cls X.K C)(n:eD X.K C f)(l:fs.lookup f=some v)
  (h:∀u s',Inv X pins σ H s'→RelV v u→Q u s'):wpAny (model X.prog X.w) A (getAttr (.ref a) f b) Q E s:=by
 obtain⟨mA,O,r,_,_,_⟩:=mX I.hok e;obtain⟨u,hu,ru⟩:=jO.some_of (v:=v) (o:=mA f) (by rw[←l];exact r f)
 exact get_map I.kIn O (c.get f) c.hd n hu (FB ru) (h u _ (I.tok _) ru)
theorem nU{m:Str}{g:Addr}{pl:Sem Bool}{Q:Value×List Value→Shared→Prop}(I:Inv X pins σ H s)(e:H a=some (.ins C dx fs))(c:Cls X.K C)(k:iu X.K C m g)(l:fs.lookup m=none)
  (h:Q (.ref g,[.ref a]) s):wpAny (model X.prog X.w) A (getMethod (.ref a) m pl) Q E s:=by
 obtain⟨mA,O,r,_,_,_⟩:=mX I.hok e;have hn:mA m=none:=jO.none_of (by rw[←l];exact r m)
 exact JZ I.kIn O (c.get m) k.at_ k.fn hn h
theorem xM{y:V}{u:Value}{Q:Unit→Shared→Prop}(I:Inv X pins σ H s)(e:H a=some (.ins C dx fs))(c:Cls X.K C)(n:eD X.K C f)(hl:fs.length<1000)(ry:RelV y u)
  (h:∀s',Inv X pins σ (upd H a (.ins C dx (iH f y fs))) s'→Q () s'):wpAny (model X.prog X.w) A (setAttr (.ref a) f u) Q E s:=by
 obtain⟨mA,O,r,wi,_,ho⟩:=mX I.hok e;have hz:(fs.map (·.1)).length≤sizeLine:=by rw[ql,sizeLine_eq];lia
 refine OM I.kIn O c.sa c.po n.taker c.hd wi hz fun h' O' sb=>h _ ?_
 have hd:∃o,h'.get? dx=some o:=let ⟨o,_,_,e',_⟩:=O'.ns;⟨o,e'⟩
 refine I.write (x:=a) (e:=dx) (by rw[e];exact True.intro) (.inr ho) (fun b q hb z=>(sb.2 b hb).trans z) hd ?_
 refine⟨by rw[aN O.ne];exact ho,?_,O.ne,O'.obj,_,O'.ns,fun g=>?_,fun g hg=>?_⟩
 ·have:=mH f y fs;lia
 ·show jO ((iH f y fs).lookup g) (if g=f then some u else mA g)
  rw[mD]
  by_cases q:g=f
  ·rw[if_pos q,if_pos q];exact ry
  ·rw[if_neg q,if_neg q];exact r g
 ·by_cases q:g=f
  ·rw[q];exact(lN f y fs).1
  ·refine(lN f y fs).2 g (wi g fun z=>hg ?_)
   show (if g=f then some u else mA g)=none
   rw[if_neg q];exact z
theorem Inv.made(I:Inv X pins σ H s):Inv X pins σ (upd (upd H s.heap.objs.size (.own (s.heap.objs.size+1))) (s.heap.objs.size+1) (.ins C s.heap.objs.size []))
  {s with heap:=(s.heap.push emptyDict).push (instObj C s.heap.objs.size) }:=by
 have e1:(s.heap.push emptyDict).get? s.heap.objs.size=some emptyDict:=uc s.heap rfl
 have e2:((s.heap.push emptyDict).push (instObj C s.heap.objs.size)).get? (s.heap.objs.size+1)=some (instObj C s.heap.objs.size):=by
  have:=uc (s.heap.push emptyDict) (o:=instObj C s.heap.objs.size) rfl
  rwa [size_push]at this
 have e3:(s.heap.push emptyDict).Ns s.heap.objs.size (fun _=>none):=⟨emptyDict,#[],_,e1,rfl,(fun e he=>absurd he (by simp)),fun _=>rfl⟩
 have I1:=I.laid (a:=s.heap.objs.size) (o:=.own (s.heap.objs.size+1)) (h':=s.heap.push emptyDict) (t':=s.toks) (fun b u q=>qq _ q) (qm _) ⟨_,e1⟩
 refine I1.laid (a:=s.heap.objs.size+1) (o:=.ins C s.heap.objs.size []) (t':=s.toks) (fun b u q=>qq _ q) (Nat.le_of_eq (size_push _ _)) ?_
 have ne:s.heap.objs.size≠s.heap.objs.size+1:=tj (uh _)
 refine⟨by rw[aN ne,aM],uw _,ne,e2,fun _=>none,(Heap.Ns1.of_empty e3).at fun o q=>qq _ q,fun _=>True.intro,fun y hy=>absurd rfl hy⟩
theorem TK{prog:vc}{w:World}{env:Env}{e:Expr}{f:Str}{pos:Pos}{s:Shared}{Q:vd}(hb:attributeBase e f env (eval e env)=eval e env)
  (h:wpAny (model prog w) A (eval e env) (fun o s₁=>wpAny (model prog w) A (getAttr o f true) Q E s₁) E s):wpAny (model prog w) A (eval (.Attribute e f pos) env) Q E s:=
 Attribute_any_ h (by rw[arm_eval_Attribute,hb])
end
def aGR(K:va)(ta:TE)(f:Str):TE:=fun σ H Q=>ta σ H fun x H1=>∃a C dx fs v,x=.ref a∧H1 a=some (.ins C dx fs)∧Cls K C∧eD K C f∧fs.lookup f=some v∧Q v H1
def aHc(K:va)(ta tv:TE)(f:Str):TS:=fun D σ H=>tv σ H fun y H1=>ta σ H1 fun x H2=>∃a C dx fs,x=.ref a∧H2 a=some (.ins C dx fs)∧Cls K C∧eD K C f∧fs.length<1000 ∧
 D.nx σ (upd H2 a (.ins C dx (iH f y fs)))
section
variable {X:Cx}{o e value:Expr}{f:Str}{pos pos' tpos:Pos}{ta tv:TE}
theorem YO(he:PE X e ta)(hb:attributeBase e f X.env (eval e X.env)=eval e X.env):PE X (.Attribute e f pos) (aGR X.K ta f):=by
 intro pins s σ H Q I h;refine TK hb (af (he pins s σ H _ I h) fun u s1 ⟨x,H1,I1,rx,a,C,dx,fs,v,ex,ea,c,n,l,q⟩=>?_)
 subst ex;obtain rfl:u=Value.ref a:=rx;exact yT I1 ea c n l fun u' s2 I2 ru=>⟨v,H1,I2,ru,q⟩
theorem YF(ha:PE X o ta)(hv:PE X value tv)(hs:swapsWith value (some (.Attribute o f pos')) pos.line X.env=pure false):PS X (.Assign [.Attribute o f pos'] value pos) (aHc X.K ta tv f):=by
 intro pins s σ H D I h;refine plainObj_wpAny_Assign_Attribute (af (hv pins s σ H _ I h) fun u s1 ⟨y,H1,I1,ry,q⟩=>af (ha pins s1 σ H1 _ I1 q) fun ov s2 ⟨x,H2,I2,rx,a,C,dx,fs,ex,ea,c,n,l,q2⟩=>?_) hs
 subst ex;obtain rfl:ov=Value.ref a:=rx;exact xM I2 ea c n l ry fun s3 I3=>⟨σ,_,I3,q2⟩
end
section
variable {X:Cx}{pins:ve}{σ:St}{H:Hp}{s:Shared}{A:Around}{E:vd}{Q:vd}{c:Value}{b:Bool}
inductive cg (K:va) (H:Hp):V→Value→Prop where
 |non:cg K H .non (.type "NoneType")
 |bl (x:Bool):cg K H (.bl x) (.type "bool")
 |int (i:Int):cg K H (.int i) (.type "int")
 |str (x:Str):cg K H (.str x) (.type "str")
 |flt (x:UInt64):cg K H (.flt x) (.type "float")
 |lst {a:Addr} {xs:List V} (e:H a=some (.lst xs)):cg K H (.ref a) (.type "list")
 |frz {a:Addr} {o:Obj} {xs:List V} (e:H a=some (.frz o (.lst xs))):cg K H (.ref a) (.type "list")
 |tup {a:Addr} {xs:List V} (e:H a=some (.tup xs)):cg K H (.ref a) (.type "tuple")
 |dK {a:Addr} {kvs:List (Key×V)} (e:H a=some (.dK kvs)):cg K H (.ref a) (.type "dict")
 |dT {a:Addr} {kvs:List (List Key×V)} (e:H a=some (.dT kvs)):cg K H (.ref a) (.type "dict")
 |ins {a C dx:Addr} {fs:List (Str×V)} (e:H a=some (.ins C dx fs)) (cl:Cls K C) (ha:findIn K (.ref C) "__class__" = some (some (.builtin "object.__class__")))
   (hn:specialIn K (.builtin "object.__class__") "__get__" = some (some (.builtin "getset_descriptor.__get__"))) (lp:takesIn K (.builtin "object.__class__")=some true)
   (hm:mroIn K C (.type "object")=some true):cg K H (.ref a) (.ref C)
theorem gQ{x:V}{u t:Value}(I:Inv X pins σ H s)(rx:RelV x u)(ty:cg X.K H x t)(e:kitOne X.K t c=some b)(h:∀tk,Q (.bool b) { s with toks:=tk }) :
  wpAny (model X.prog X.w) A (call (.builtin "isinstance") [u,c]) Q E s:=by
 cases ty with
 |non=>cases (show u=Value.none from rx);exact kia_one PySem.W.kitx_none I.kIn True.intro e (fun z=>nomatch z) h
 |bl y=>cases (show u=Value.bool y from rx);exact kia_one PySem.W.kitx_bool I.kIn True.intro e (fun z=>nomatch z) h
 |int i=>obtain⟨t,q⟩:=(show ∃t,u=Value.int i t from rx);cases q;exact kia_one PySem.W.kitx_int I.kIn True.intro e (fun z=>nomatch z) h
 |str y=>obtain⟨t,q⟩:=(show ∃t,u=Value.str y t from rx);cases q;exact kia_one PySem.W.kitx_str I.kIn True.intro e (fun z=>nomatch z) h
 |flt y=>obtain⟨t,q⟩:=(show ∃t,u=Value.float y t from rx);cases q;exact kia_one PySem.W.kitx_float I.kIn True.intro e (fun z=>nomatch z) h
 | @lst a xs ea =>
  cases (show u=Value.ref a from rx)
  obtain⟨_,_,n,_,h1⟩:=(show bZ X.prog X.w H s.heap a (.lst xs) from I.hok a _ ea)
  exact kia_one kitx_list I.kIn ⟨_,h1,rfl⟩ e (fun z=>nomatch z) h
 | @frz a ob xs ea =>
  cases (show u=Value.ref a from rx)
  obtain⟨_,_,_,n,_,h1⟩:=(show bZ X.prog X.w H s.heap a (.frz ob (.lst xs)) from I.hok a _ ea)
  exact kia_one kitx_list I.kIn ⟨_,h1,rfl⟩ e (fun z=>nomatch z) h
 | @tup a xs ea =>
  cases (show u=Value.ref a from rx)
  obtain⟨_,_,_,p⟩:=(show bZ X.prog X.w H s.heap a (.tup xs) from I.hok a _ ea)
  obtain⟨o,h1,h2,_⟩:=p;exact kia_one PySem.W.kitx_tuple I.kIn ⟨o,h1,h2⟩ e (fun z=>nomatch z) h
 | @dK a kvs ea =>
  cases (show u=Value.ref a from rx)
  obtain⟨_,_,vs,_,p⟩:=(show bZ X.prog X.w H s.heap a (.dK kvs) from I.hok a _ ea)
  obtain⟨o,es,ep,h1,h2,_⟩:=p;exact kia_one kitx_dict I.kIn ⟨o,h1,h2.1⟩ e (fun z=>nomatch z) h
 | @dT a kvs ea =>
  cases (show u=Value.ref a from rx)
  obtain⟨_,_,xs,_,o,es,ep,h1,h2,_⟩:=(show bZ X.prog X.w H s.heap a (.dT kvs) from I.hok a _ ea)
  exact kia_one kitx_dict I.kIn ⟨o,h1,h2.1⟩ e (fun z=>nomatch z) h
 | @ins a C dx fs ea cl ha hn lp hm =>
  cases (show u=Value.ref a from rx)
  obtain⟨mA,O,_⟩:=mX I.hok ea;obtain⟨od,J,_⟩:=O.look;exact kia_one (PySem.W.kitx_own (cl.get _) cl.hd ha hn lp hm) I.kIn J e (fun z=>nomatch z) h
end
structure Room (k:Nat) (A:Around):Prop where
 hd:A.handled=none
 dp:A.depth+3*k+5<recursionLimit
 un:A.units+16*k+200<cLine
theorem Room.mono{j k:Nat}{A:Around}(r:Room k A)(h:j≤k):Room j A:=⟨r.hd,by have:=r.dp;lia,by have:=r.un;lia⟩
theorem Room.deeper{k:Nat}{A:Around}(r:Room (k+1) A)(env:Env):Room k (A.deeper env):=
 ⟨r.hd,by have:=r.dp;show A.depth+1+3*k+5<_;lia,by have:=r.un;show A.units+3+16*k+200<_;lia⟩
theorem yJ{A:Around}{C:Addr}{us:List Value}{kw:List (Str×Value)}:(A.under (.builtin "type.__call__" ⟨.ref C::us,kw⟩)).depth=A.depth+1:=by
 first|rfl|simp[Around.under,Code.weight,Code.isCreation,Code.isGuard,Code.isCaller,Code.frames,Code.isFrame,guardIds]
theorem yI{A:Around}{C:Addr}{us:List Value}{kw:List (Str×Value)}:(A.under (.builtin "type.__call__" ⟨.ref C::us,kw⟩)).units=A.units+1:=by
 first|rfl|simp[Around.under,Code.cUnits,Code.frames,Code.isFrame]
theorem Room.make{k:Nat}{A:Around}(r:Room (k+1) A)(C:Addr)(us:List Value)(kw:List (Str×Value)):Room k (A.under (.builtin "type.__call__" ⟨.ref C::us,kw⟩)):=
 ⟨r.hd,by have:=r.dp;rw[yJ];lia,by have:=r.un;rw[yI];lia⟩
theorem Room.depth{k:Nat}{A:Around}(r:Room k A):A.depth<recursionLimit:=by have:=r.dp;lia
theorem Room.units{k:Nat}{A:Around}(r:Room k A):A.units+64<cLine:=by have:=r.un;lia
def GM:TA:=fun _ H Q=>Q [] H
def iK(ta:TE)(tr:TA):TA:=fun σ H Q=>ta σ H fun x H1=>tr σ H1 fun xs H2=>Q (x::xs) H2
section
variable {X:Cx}{e:Expr}{es:List Expr}{te:TE}{t:TA}{pos:Pos}
theorem gG:PA X [] GM:=fun _ _ _ _ H Q I h=>Calls.spliced_nil ⟨[],H,I,.nil,h⟩
theorem bJ(ha:PE X e te)(hr:PA X es t)(hs:starEach (e::es) X.env=(false,eval e X.env)::starEach es X.env:=by rfl):PA X (e::es) (iK te t):=by
 intro pos pins s σ H Q I h;rw[hs];show wpAny _ _ (spliced ((false,eval e X.env)::backTo pos (starEach es X.env))) _ _ s
 refine Calls.spliced_cons (af (ha pins s σ H _ I h) fun u s1 ⟨x,H1,I1,r1,q1⟩=>?_)
 exact af (hr pos pins s1 σ H1 _ I1 q1) fun us s2 ⟨xs,H2,I2,r2,q2⟩=>⟨x::xs,H2,I2,.cons r1 r2,q2⟩
def aGM(t:TA):TE:=fun σ H Q=>t σ H fun xs H1=>xs.length≤sizeLine∧∀p,H1 p=none→Q (.ref p) (upd H1 p (.tup xs))
def aBZ(t:TA):TE:=fun σ H Q=>t σ H fun xs H1=>xs.length≤sizeLine∧∀p,H1 p=none→Q (.ref p) (upd H1 p (.lst xs))
theorem YJ{x1}(h:PA X es t):PE X (.Tuple es x1 pos) (aGM t):=by
 intro pins s σ H Q I hq;refine wpAny_Tuple_spliced (af (h pos pins s σ H _ I hq) fun us s1 ⟨xs,H1,I1,r,z,q⟩=>⟨by rw[←r.length];exact z,?_⟩)
 have hf:H1 s1.heap.objs.size=none:=I1.hok.fresh (qm _)
 refine⟨.ref s1.heap.objs.size,upd H1 s1.heap.objs.size (.tup xs),I1.laid (t':=s1.toks) (fun b u e=>qq _ e) (qm _) ?_,rfl,q _ hf⟩
 exact⟨z,us,r,⟨_,uc _ rfl,rfl,_,rfl⟩⟩
theorem xU(h:PA X es t):PE X (.List es pos) (aBZ t):=by
 intro pins s σ H Q I hq;refine wpAny_List_spliced (af (h pos pins s σ H _ I hq) fun us s1 ⟨xs,H1,I1,r,z,q⟩=>⟨by rw[←r.length];exact z,?_⟩)
 have hf:H1 s1.heap.objs.size=none:=I1.hok.fresh (qm _)
 refine⟨.ref s1.heap.objs.size,upd H1 s1.heap.objs.size (.lst xs),I1.laid (t':=s1.toks) (fun b u e=>qq _ e) (qm _) ?_,rfl,q _ hf⟩
 exact⟨z,us,0,r,uc _ rfl⟩
end
abbrev Sp:=List V→Hp→VK→XK→Prop
abbrev au:=List Env→Hp→Shared→XK→Value→Shared→Prop
structure Env0 (P:vc) (w:World) (K:va) (mg:vf) (base:Heap) (A:Around) (outer:List Env) (s:Shared) (H:Hp):Prop where
 frames:A.frames=some outer
 mod:Mod K mg base
 bs:∀b o,base.get? b=some o→s.heap.get? b=some o∧H b=none
 bsz:base.objs.size≤s.heap.objs.size
 funs:s.heap.FunFrames base outer
 frf:∀b∈frs outer,H b=none
 hok:HOk P w H s.heap
 bare:AllBare s.gens
def CE(outer:List Env)(P:vc)(w:World)(H:Hp)(s:Shared)(Q:VK)(u:Value)(s':Shared):Prop:=
 ∃v H',s'.os=s.os∧AllBare s'.gens∧Un (frs outer) [] H H' s.heap s'.heap∧HOk P w H' s'.heap∧RelV v u∧Q v H'
def CR(CX:au)(outer:List Env)(P:vc)(w:World)(H:Hp)(s:Shared)(Q:VK)(E:XK)(r:Result)(s':Shared):Prop:=
 match r with
 |.ok (.ret u)=>CE outer P w H s Q u s'
 |.ok _=>False
 |.error e=>CX outer H s E e s'
structure FnOk (P:vc) (w:World) (K:va) (mg:vf) (base:Heap) (CX:au) (k:Nat) (f:Addr) (fd:vb) (ps:List Str) (sp:Sp):Prop where
 len:∀vs H Q E,sp vs H Q E→vs.length=ps.length
 run:∀(A:Around) (outer:List Env) (s:Shared) (H:Hp) (args:Args) (us:List Value) (vs:List V) (Q:VK) (E:XK),Room k A→Env0 P w K mg base A outer s H→BindsTo s fd args (ps.zip us)→aS vs us→sp vs H Q E →
  codeAny (model P w) A (.call (.ref f) args) (CR CX outer P w H s Q E) s
theorem FnOk.mono{P:vc}{w:World}{K:va}{mg:vf}{base:Heap}{CX:au}{j k:Nat}{f:Addr}{fd:vb}{ps:List Str}{sp:Sp}(F:FnOk P w K mg base CX j f fd ps sp)(h:j≤k) :
  FnOk P w K mg base CX k f fd ps sp:=⟨F.len,fun A outer s H args us vs Q E hr=>F.run A outer s H args us vs Q E (hr.mono h)⟩
theorem FnOk.imp{P:vc}{w:World}{K:va}{mg:vf}{base:Heap}{CX:au}{k:Nat}{f:Addr}{fd:vb}{ps:List Str}{sp k9:Sp}(F:FnOk P w K mg base CX k f fd ps sp)
  (h:∀vs H Q E,k9 vs H Q E→sp vs H Q E):FnOk P w K mg base CX k f fd ps k9:=
 ⟨fun vs H Q E q=>F.len vs H Q E (h _ _ _ _ q),fun A outer s H args us vs Q E hr he hb hv hs=>F.run A outer s H args us vs Q E hr he hb hv (h _ _ _ _ hs)⟩
theorem Env0.make{P:vc}{w:World}{K:va}{mg:vf}{base:Heap}{A:Around}{outer:List Env}{s:Shared}{H:Hp}(e:Env0 P w K mg base A outer s H)(C:Addr)(us:List Value)(kw:List (Str×Value)) :
  Env0 P w K mg base (A.under (.builtin "type.__call__" ⟨.ref C::us,kw⟩)) outer s H:=⟨by first|exact e.frames|(simpa [Around.under,Code.envs,Code.isFrame,pushEnvs] using e.frames),e.mod,e.bs,e.bsz,e.funs,e.frf,e.hok,e.bare⟩
section
variable {X:Cx}{pins:ve}{σ:St}{H:Hp}{s s':Shared}
theorem Inv.env0(I:Inv X pins σ H s):Env0 X.prog X.w X.K X.mg X.base X.A X.stack s H:=
 ⟨I.ok.frames,I.ok.mod,I.bs,se I.ok.bsz I.sz,I.stack,I.stkFree,I.hok,I.bare⟩
theorem Inv.after{Q:VK}{u:Value}(I:Inv X pins σ H s)(h:CE X.stack X.prog X.w H s Q u s'):EP X pins σ Q u s':=by
 obtain⟨v,H',os,bare,un,hok,r,q⟩:=h;obtain⟨hh,g,d,t,os'⟩:=s';obtain rfl:os'=s.os:=os;exact⟨v,H',I.call (h':=hh) (g':=g) (d':=d) (t':=t) (ch:=[]) un hok bare (fun b z=>absurd z (by simp)),r,q⟩
end
def uO(sp:Sp)(dvs:List V)(E:XK)(t:TA):TE:=fun σ H Q=>t σ H fun vs H1=>sp (vs++dvs) H1 Q E
def Binds(K:va)(fd:vb)(ps:List Str)(ds:List Value):Prop:=
 ∀(s:Shared) (us:List Value),K.In s.heap→(us++ds).length=ps.length→BindsTo s fd ⟨us,[]⟩ (ps.zip (us++ds))
theorem Binds.all{K:va}{fd:vb}{ps:List Str}(h:∀us:List Value,us.length=ps.length→bindArgs fd ⟨us,[]⟩=pure (ps.zip us)):Binds K fd ps []:=fun s us _ hl=>by
 rw[sq]at hl ⊢;exact .of_eq (h us hl)
def fT(CX:au)(X:Cx)(E:XK):Prop:=∀(pins:ve) (σ:St) (H:Hp) (s:Shared) (e:Value) (s':Shared),Inv X pins σ H s→CX X.stack H s E e s'→X.xe e s'
section
variable {X:Cx}{CX:au}{k:Nat}{f C:Addr}{fd:vb}{ps:List Str}{sp:Sp}{dvs:List V}{ds:List Value}{E:XK}{x m:Str}{p pos apos:Pos}{e o:Expr}{es:List Expr}{ta:TE}{t:TA}
theorem rL{pins:ve}{σ:St}{H:Hp}{s:Shared}{Q:VK}{us:List Value}{vs:List V}(F:FnOk X.prog X.w X.K X.mg X.base CX k f fd ps sp)(hr:Room k X.A)(hb:Binds X.K fd ps ds)(hd:aS dvs ds)(hx:fT CX X E)
  (I:Inv X pins σ H s) (r:aS vs us) (h:sp (vs++dvs) H Q E):wpAny (model X.prog X.w) X.A (call (.ref f) us) (EP X pins σ Q) X.xe s:=by
 have r2:aS (vs++dvs) (us++ds):=r.append hd
 have hl:(us++ds).length=ps.length:=by rw[←r2.length];exact F.len _ _ _ _ h
 refine wpAny_call (codeAny_mono (F.run X.A X.stack s H ⟨us,[]⟩ (us++ds) (vs++dvs) Q E hr I.env0 (hb s us I.kIn hl) r2 h) fun r s' hq=>?_)
 cases r with
 |error e=>exact hx pins σ H s e s' I hq
 |ok fl =>
  cases fl with
  |ret u=>exact I.after hq
  |next=>exact False.elim hq
  |brk=>exact False.elim hq
  |cont=>exact False.elim hq
theorem zZ(F:FnOk X.prog X.w X.K X.mg X.base CX k f fd ps sp)(hr:Room k X.A)(hg:Gl X x)(hm:X.mg x=some (.ref f))(hk:keepIn X.K (.ref f)=true)(hb:Binds X.K fd ps ds)(hd:aS dvs ds)(hx:fT CX X E)
  (ha:PA X (e::es) t) (fe:(x == ("__debug__":Str))=false:=by decide) (he:starEach (e::es) X.env=(false,eval e X.env)::starEach es X.env:=by rfl) (iF:(backTo pos (starEach es X.env)).any (·.1)=false:=by rfl) :
  PE X (.Call (.Name x p) (e::es) [] pos) (uO sp dvs E t):=by
 intro pins s σ H Q I h;refine wpAny_Call_Name_kw (dZ I hg hm ?_ fe);refine callWith_K (h₀:=X.base) I.ok.mod.kin hk (af (ha pos pins s σ H _ I h) fun us s1 ⟨vs,H1,I1,r,q⟩=>⟨I1.kIn,?_⟩) he iF
 exact rL F hr hb hd hx I1 r q
theorem vF(F:FnOk X.prog X.w X.K X.mg X.base CX k f fd ps sp)(hr:Room k X.A)(hg:Gl X x)(hm:X.mg x=some (.ref f))(hk:keepIn X.K (.ref f)=true)(hb:Binds X.K fd ps ds)(hd:aS dvs ds)(hx:fT CX X E)
  (fe:(x == ("__debug__":Str))=false:=by decide):PE X (.Call (.Name x p) [] [] pos) (uO sp dvs E GM):=by
 intro pins s σ H Q I h;refine wpAny_Call_Name_kw (dZ I hg hm ?_ fe);exact callWith_K0 I.kIn hk (rL (us:=[]) F hr hb hd hx I .nil h)
structure Mk (K:va) (C f:Addr):Prop where
 makes:makesIn K C=true
 init:findIn K (.ref C) "__init__" = some (some (.ref f))
 fn:isFn K (.ref f)=true
 kp:keepIn K (.ref C)=true
end
section
variable {X:Cx}{CX:au}{k:Nat}{f C:Addr}{fd:vb}{ps ks:List Str}{sp:Sp}{E:XK}{x m:Str}{p pos apos kpos:Pos}{e o:Expr}{es:List Expr}{kws:List Keyword}{te ta:TE}{t tk:TA}{nm:Option Str}
structure KBinds (K:va) (fd:vb) (ps ks:List Str) (g:List Value→List Value→List Value) (gV:List V→List V→List V):Prop where
 to:∀(s:Shared) (us ws:List Value),K.In s.heap→(g us ws).length=ps.length→BindsTo s fd ⟨us,ks.zip ws⟩ (ps.zip (g us ws))
 rel:∀{vs:List V} {us:List Value} {zs:List V} {ws:List Value},aS vs us→aS zs ws→aS (gV vs zs) (g us ws)
variable {g:List Value→List Value→List Value}{gV:List V→List V→List V}
end
structure aa (N P:List Str) (sc:Scope):Prop where
 kind:sc.kind=.function
 co:sc.isCoroutine=false
 gen:sc.isGenerator=false
 nd:N.Nodup
 pre:N.take P.length=P
 par:∀x∈P,sc.names.lookup x=some .local∨sc.names.lookup x=some .cell
 nofree:∀y∈sc.names,y.2≠.free
theorem qR{kindOf:Str→Option NameKind}{x:Str}:∀{binds:List (Str×Value)} {m:vf},(∀v,(x,v)∉binds)→bindL kindOf binds m x=m x
 |[],_,_=>rfl
 | (n,v)::r,m,h=>by
  unfold bindL;rw[qR fun w hw=>h w (qt _ hw)]
  split
  ·have:x≠n:=by rintro rfl;exact h v ug
   simp[this]
  ·rfl
theorem qT{kindOf:Str→Option NameKind}{x:Str}:∀{binds:List (Str×Value)} {m:vf},(∀v,(x,v)∉binds)→bindC kindOf binds m x=m x
 |[],_,_=>rfl
 | (n,v)::r,m,h=>by
  unfold bindC;rw[qT fun w hw=>h w (qt _ hw)]
  split
  ·rfl
  ·have:x≠n:=by rintro rfl;exact h v ug
   simp[this]
theorem qS{kindOf:Str→Option NameKind}{x:Str}{v:Value}:∀{P:List Str} {vs:List Value} {i:Nat} {m:vf},P.Nodup→P[i]?=some x→vs[i]?=some v→kindOf x=some .local →
  bindL kindOf (P.zip vs) m x=some v
 |[],_,_,_,_,h,_,_=>by simp at h
 |_::_,[],_,_,_,_,h,_=>by simp at h
 |p::P,w::vs,0,m,nd,h1,h2,hk=>by
  simp at h1 h2;subst h1;subst h2;show bindL kindOf ((p,w)::P.zip vs) m p=_
  unfold bindL;rw[qR fun v hv=>(nodup_cons.mp nd).1 (of_mem_zip hv).1,if_pos hk]
  simp
 |p::P,w::vs,i+1,m,nd,h1,h2,hk=>by
  show bindL kindOf ((p,w)::P.zip vs) m x=_
  unfold bindL;exact qS (i:=i) (nodup_cons.mp nd).2 (by simpa using h1) (by simpa using h2) hk
theorem qU{kindOf:Str→Option NameKind}{x:Str}{v:Value}:∀{P:List Str} {vs:List Value} {i:Nat} {m:vf},P.Nodup→P[i]?=some x→vs[i]?=some v→kindOf x≠some .local →
  bindC kindOf (P.zip vs) m x=some v
 |[],_,_,_,_,h,_,_=>by simp at h
 |_::_,[],_,_,_,_,h,_=>by simp at h
 |p::P,w::vs,0,m,nd,h1,h2,hk=>by
  simp at h1 h2;subst h1;subst h2;show bindC kindOf ((p,w)::P.zip vs) m p=_
  unfold bindC;rw[qT fun v hv=>(nodup_cons.mp nd).1 (of_mem_zip hv).1,if_neg hk]
  simp
 |p::P,w::vs,i+1,m,nd,h1,h2,hk=>by
  show bindC kindOf ((p,w)::P.zip vs) m x=_
  unfold bindC;exact qU (i:=i) (nodup_cons.mp nd).2 (by simpa using h1) (by simpa using h2) hk
noncomputable def start(N:List Str)(vs:List V):St:=vs.map some++List.replicate (N.length-vs.length) none
noncomputable def kU(CX:au)(P:vc)(w:World)(K:va)(mg:vf)(base:Heap)(N:List Str)(qual:Str)(scope:Scope)(f:Addr)(cd:Value)(A:Around)(outer:List Env)(s:Shared)(H:Hp)(E:XK):Cx where
 prog:=P
 w:=w
 K:=K
 mg:=mg
 base:=base
 A:=A.deeper (envOfC qual scope s.heap.objs.size f cd)
 N:=N
 s₀:=s
 H₀:=H
 env:=envOfC qual scope s.heap.objs.size f cd
 outer:=outer
 stack:=envOfC qual scope s.heap.objs.size f cd::outer
 ex:=[]
 calm:=true
 fn:=fun _=>true
 pn:=[]
 xe:=fun e s'=>wpAny (model P w) (A.deeper (envOfC qual scope s.heap.objs.size f cd)) (leaving (envOfC qual scope s.heap.objs.size f cd) e) (fun _ nq=>CX outer H s E e nq) (fun e' nq=>CX outer H s E e' nq) s'
theorem wY{sc:Scope}{n:Nat}{x:Str}(h:sc.names.lookup x=some .cell):∃c,(cellsFrom n sc.names []).lookup x=some c:=by
 have q:=cellsFrom_some sc.names n [] (.inl h)
 exact Option.isSome_iff_exists.mp q
theorem qD{CX:au}{P:vc}{w:World}{K:va}{mg:vf}{base:Heap}{N ps:List Str}{qual:Str}{scope:Scope}{f:Addr}{cd:Value}{A:Around}{outer:List Env}{s s1:Shared}{H:Hp}{E:XK}{us:List Value}{vs:List V}
  (S:aa N ps scope) (hd:A.handled=none) (e0:Env0 P w K mg base A outer s H) (hl:vs.length=ps.length) (r:aS vs us)
  (x:InCallC s s.heap.objs.size (bindL (envOfC qual scope s.heap.objs.size f cd).kindOf (ps.zip us) fun _=>none) (cellsFrom (s.heap.objs.size+1) scope.names []) (bindC (envOfC qual scope s.heap.objs.size f cd).kindOf (ps.zip us) fun _=>none) s1) :
  Inv (kU CX P w K mg base N qual scope f cd A outer s H E) [] (start N vs) H s1:=by
 have iF:ps.length≤N.length:=by have:=congrArg List.length S.pre;rw[tm]at this;lia
 obtain⟨h1,tk,rfl,hk⟩:=x.done;have nv:∀b:Addr,b∉(kU CX P w K mg base N qual scope f cd A outer s H E).ex:=fun b z=>absurd (show b∈([]:List Addr) from z) (by simp)
 refine⟨⟨e0.mod,S.kind,rfl,rfl,qm _,fun y z c h1 h2=>?_,fun y hy=>?_,fun y c _ h=>?_,fun _=>hd,Around.frames_deeper e0.frames,.inr ⟨rfl,rfl⟩,fun b z=>absurd z (nv b),e0.bs,e0.bsz,fun b _ _=>nv b,fun b z=>absurd z (nv b),e0.funs,e0.frf⟩,
  rfl,e0.bare,Un.kept hk,⟨_,x.toInCall.ns,fun i y v h1 h2 h3=>?_⟩,fun y c h=>⟨_,x.cell y c h⟩,e0.hok.fresh (qm _),fun y c h=>?_,fun p hp=>absurd (show p∈([]:ve) from hp) (by simp),e0.hok.kept hk,?_⟩
 ·exact name_of_addr x.apart (t9 h1) (t9 h2)
 ·have hy:scope.names.lookup y=some .cell∨scope.names.lookup y=some .free:=hy
  rcases hy with hy|hy
  ·exact wY hy
  ·exact absurd rfl (S.nofree _ (t9 hy))
 ·exact Nat.le_of_lt (x.above y c (t9 h))
 ·have hi:i<vs.length:=by
   unfold start at h2
   by_cases hi:i<vs.length
   ·exact hi
   ·rw[uu (by simpa using hi)]at h2
    rw[getElem?_replicate]at h2;split at h2<;>cases h2
  have ha:vs[i]?=some v:=by
   unfold start at h2;rw[ur (by simpa using hi),qk]at h2
   cases e:vs[i]? with
   |none=>rw[e]at h2;cases h2
   |some a=>rw[e]at h2;cases h2;rfl
  obtain⟨u,hu,rv⟩:=r.get ha;have hp:ps[i]?=some y:=by
   rw[←S.pre,List.getElem?_take_of_lt (by lia)];exact h1
  have ndP:ps.Nodup:=by rw[←S.pre];exact S.nd.sublist (List.take_sublist _ _)
  refine⟨u,rv,?_⟩
  rcases S.par y (qh hp) with k|k
  ·exact .inl ⟨k,qS ndP hp hu k⟩
  ·obtain⟨c,e⟩:=wY (n:=s.heap.objs.size+1) k;refine .inr ⟨.inl k,c,e,?_⟩;have q:=x.cell y c e
   rw[qU ndP hp hu (by show scope.names.lookup y≠_;rw[k];decide)]at q
   exact q
 ·exact e0.hok.fresh (Nat.le_of_lt (x.above y c (t9 h)))
 ·unfold start;show _=N.length
  rw[sk,ql,List.length_replicate];lia
theorem UU{CX:au}{P:vc}{w:World}{K:va}{mg:vf}{base:Heap}{k:Nat}{f:Addr}{name qual:Str}{params:Arguments}{body:List Stmt}{scope:Scope}{dV kV doc pm bt ct oc:Value}{an od:Option Addr}
  {jx:Array (Option Value)} {N ps:List Str} {sp:Sp} (lk:K.lookup f=some ⟨oc,od,.func (PySem.W.fnOf name qual params body scope dV kV doc pm an bt ct),jx⟩) (fg:codeIn K bt qual=true) (S:aa N ps scope)
  (len:∀vs H Q E,sp vs H Q E→vs.length=ps.length)
  (hbody:∀(A:Around) (outer:List Env) (s:Shared) (H:Hp) (vs:List V) (Q:VK) (E:XK),Room k (A.deeper (envOfC qual scope s.heap.objs.size f bt))→sp vs H Q E →
   ∃t,PSs (kU CX P w K mg base N qual scope f bt A outer s H E) body t∧t { nx:=fun _ H'=>Q .non H',rt:=Q } (start N vs) H) :
  FnOk P w K mg base CX (k+1) f (PySem.W.fnOf name qual params body scope dV kV doc pm an bt ct) ps sp:=by
 refine⟨len,fun A outer s H args us vs Q E hr e0 hb r br=>?_⟩
 have hl:=len _ _ _ _ br
 have KX:K.In s.heap:=e0.mod.kin.keeps fun b o e=>(e0.bs b o e).1
 have lim:s.heap.NoLimit:=e0.mod.nolimit.keeps fun b o e=>(e0.bs b o e).1
 have hkind:∀y∈ps.zip us,scope.names.lookup y.1=some .local∨(scope.names.lookup y.1=some .cell∧((cellsFrom (s.heap.objs.size+1) scope.names []).lookup y.1).isSome=true):=fun⟨n,v⟩ hy=>by
  rcases S.par n (of_mem_zip hy).1 with q|q
  ·exact .inl q
  ·exact .inr ⟨q,cellsFrom_some _ _ _ (.inl q)⟩
 refine codeAny_call_function hr.depth (KX _ _ lk) rfl S.co S.gen rfl (PySem.W.codeRec_of KX fg) (hb _ _ _ _ ?_);refine wpAny_newFunctionEnv_cells S.kind hkind fun env he s1 x=>?_
 subst he;refine⟨lim.keeps x.toInCall.keep,codeAny_func ?_⟩;obtain⟨t,ht,hq⟩:=hbody A outer s H vs Q E (hr.deeper _) br;have I:Inv (kU CX P w K mg base N qual scope f bt A outer s H E) [] (start N vs) H s1:=qD S hr.hd e0 hl r x
 refine ub (ht [] s1 (start N vs) H _ I hq) (fun fl s' hs=>?_) fun e s' hs=>hs
 have fin:∀{σ':St} {H':Hp} {v:V} {u:Value},Inv (kU CX P w K mg base N qual scope f bt A outer s H E) [] σ' H' s'→RelV v u→Q v H'→CE outer P w H s Q u s':=
  fun {σ' H' v u} J rv q=>⟨v,H',J.os,J.bare,J.base,J.hok,rv,q⟩
 cases fl with
 |ret u =>
  obtain⟨v,σ',H',J,rv,q⟩:=hs;exact fin J rv q
 |next =>
  obtain⟨σ',H',J,q⟩:=hs;exact fin (v:=V.non) (u:=Value.none) J rfl q
 |brk =>
  obtain⟨_,_,_,q⟩:=hs;exact False.elim q
 |cont =>
  obtain⟨_,_,_,q⟩:=hs;exact False.elim q
section
variable {X:Cx}{x:Str}{p pos:Pos}{e:Expr}{es:List Expr}{t:TA}{id T:String}{r:List V→Hp→VK→Prop}
def tCB(r:List V→Hp→VK→Prop)(t:TA):TE:=fun σ H Q=>t σ H fun vs H1=>r vs H1 Q
theorem gN(hc:gF X (.builtin id) r)(hg:Gl X x)(hm:X.mg x=none)(hv:bootBuiltins x=some (.builtin id))(ha:PA X (e::es) t)(hn:x≠"__name__":=by decide)(fe:(x == ("__debug__":Str))=false:=by decide)
  (he:starEach (e::es) X.env=(false,eval e X.env)::starEach es X.env:=by rfl) (iF:(backTo pos (starEach es X.env)).any (·.1)=false:=by rfl):PE X (.Call (.Name x p) (e::es) [] pos) (tCB r t):=by
 intro pins s σ H Q I h;refine wpAny_Call_Name_kw (gH I hg hm hv ?_ hn fe);exact PyProof.Rows.callWith_builtin1 (af (ha pos pins s σ H _ I h) fun us s1 ⟨vs,H1,I1,r1,q1⟩=>hc pins s1 σ H1 vs us Q I1 r1 q1) he iF
theorem pX(hc:gF X (.type T) r)(hg:Gl X x)(hm:X.mg x=none)(hv:bootBuiltins x=some (.type T))(ha:PA X (e::es) t)(hn:x≠"__name__":=by decide)(fe:(x == ("__debug__":Str))=false:=by decide)
  (he:starEach (e::es) X.env=(false,eval e X.env)::starEach es X.env:=by rfl) (iF:(backTo pos (starEach es X.env)).any (·.1)=false:=by rfl):PE X (.Call (.Name x p) (e::es) [] pos) (tCB r t):=by
 intro pins s σ H Q I h;refine wpAny_Call_Name_kw (gH I hg hm hv ?_ hn fe);exact sh (af (ha pos pins s σ H _ I h) fun us s1 ⟨vs,H1,I1,r1,q1⟩=>hc pins s1 σ H1 vs us Q I1 r1 q1) he iF
end
end L2
namespace HT
open PySem PyProof.Rows
section
open PySem.SeqAt
open PySem.AutoSeq1 (wpAny_loadPart')
open PySem.MeetsSeq PySem.MeetsSeq2 PySem.MeetsSeq3
end
section
variable {prog:vc}{w:World}{A:Around}{E:vd}{s:Shared}
theorem TH{t b:Addr}{vs ws:List Value}{Q:vd}(ht:IsTup s.heap t vs.toArray)(hb:IsTup s.heap b ws.toArray)(hv:vs≠[])
  (h1:ws=[]→Q (.ref t) s) (h2:ws≠[]→Q (.ref s.heap.objs.size) { s with heap:=s.heap.push { cls:=.type "tuple",data:=.seq (vs++ws).toArray } })
  (hsz:vs.length+ws.length≤sizeLine):wpAny (model prog w) A (binaryOp .Add (.ref t) (.ref b)) Q E s:=by
 obtain⟨⟨cls,dd,data,sl⟩,ho,hc,n,hd⟩:=id ht;obtain⟨⟨cls2,mw,data2,la⟩,cx,f6,n2,hd2⟩:=id hb;simp only at hc hd f6 hd2;subst hc hd f6 hd2;have e:vs.toArray++ws.toArray=(vs++ws).toArray:=by simp
 by_cases hw:ws=[]
 ·exact concat_meets ⟨_,ho,rfl⟩ ⟨_,cx,rfl⟩ noFill_tuple_add seq_tuple_add slot_tuple_add entry_tuple_add (args_tuple_add_2 _ _)
   (tuple_addW1 t b vs.toArray ws.toArray n n2 dd mw sl la (by simpa using hv) (by simp[hw])) ⟨ho,cx,h1 hw⟩
 ·refine concat_meets ⟨_,ho,rfl⟩ ⟨_,cx,rfl⟩ noFill_tuple_add seq_tuple_add slot_tuple_add entry_tuple_add (args_tuple_add_2 _ _)
   (tuple_addW2 t b vs.toArray ws.toArray n n2 dd mw sl la (by simpa using hv) (by simpa using hw) (by rw[qu,qu];exact hsz)) ⟨ho,cx,?_⟩
  rw[e];exact h2 hw
noncomputable def sIx(n d:Nat):Option Int→Nat
 |none=>d
 |some v=>if v<0 then(v+(n:Int)).toNat else min v.toNat n
theorem XH(n d:Nat)(hd:d≤n)(o:Option Int):sIx n d o≤n:=by
 cases o with
 |none=>exact hd
 |some v =>
  show (if v<0 then(v+(n:Int)).toNat else min v.toNat n)≤n
  by_cases hv:v<0
  ·rw[if_pos hv];lia
  ·rw[if_neg hv];exact min_le_right _ _
theorem CS(v:Int)(n d:Nat):(if v<0 then max (v+(n:Int)) 0 else min v (n:Int))=((sIx n d (some v):Nat):Int):=by
 show (if v<0 then max (v+(n:Int)) 0 else min v (n:Int))=(((if v<0 then(v+(n:Int)).toNat else min v.toNat n):Nat):Int)
 by_cases hv:v<0
 ·simp only[if_pos hv];lia
 ·simp only[if_neg hv];lia
theorem zG(lo hi:Option Int)(n:Nat):Builtin.Slice.sliceAdjust lo hi 1 (n:Int)=(((sIx n 0 lo:Nat):Int),((sIx n n hi:Nat):Int)):=by
 have h1:¬((1:Int)<0):=by lia
 unfold Builtin.Slice.sliceAdjust;simp only[h1,if_false];refine Prod.ext ?_ ?_
 ·cases lo with
  |none=>rfl
  |some v=>exact CS v n 0
 ·cases hi with
  |none=>rfl
  |some v=>exact CS v n n
theorem xT(i j:Nat):Builtin.Slice.slicePlaces (i:Int) (j:Int) 1=j-i:=by
 unfold Builtin.Slice.slicePlaces;have h1:(1:Int) > 0:=by lia
 simp only[h1,if_true,Int.ediv_one];split<;>lia
theorem nL{v:Value}{o:Option Int}{Q:Option Int→Shared→Prop}(p:IsPart v o)(h:Q o s):wpAny (model prog w) A (Builtin.Slice.slicePartIndex v) Q E s:=by
 cases p with
 |none=>exact slicePart_none h
 |int i t=>exact slicePart_int h
theorem lB{sl:Addr}{vl vu:Value}{lo hi:Option Int}{n:Nat}{Q:Int×Int×Nat→Shared→Prop}(hs:s.heap.IsSliceOf sl vl vu .none)(pl:IsPart vl lo)(pu:IsPart vu hi)
  (h:Q (((sIx n 0 lo:Nat):Int),1,sIx n n hi-sIx n 0 lo) s):wpAny (model prog w) A (Builtin.Slice.sliceApplied (.ref sl) (pure (n:Int))) Q E s:=by
 obtain⟨os,j6,hcs,bp⟩:=id hs;unfold Builtin.Slice.sliceApplied Builtin.Slice.sliceFields;refine u7 (u7 (wpAny_field j6 bp (x:=vl) rfl (u7 (wpAny_field j6 bp (x:=vu) rfl (u7 (wpAny_field j6 bp (x:=.none) rfl (ua ?_)))))));refine u7 (slicePart_none ?_);show wpAny _ _ (if ((1:Int) == 0)=true then _ else _) _ _ s
 rw[if_neg (by decide)]
 refine u7 (nL pl (u7 (nL pu (u7 (ua ?_)))));show wpAny _ _ (match Builtin.Slice.sliceAdjust lo hi 1 (n:Int) with|(lo,hi)=>pure (lo,(1:Int),Builtin.Slice.slicePlaces lo hi 1)) _ _ s
 rw[zG lo hi n];show wpAny _ _ (pure (((sIx n 0 lo:Nat):Int),(1:Int),Builtin.Slice.slicePlaces ((sIx n 0 lo:Nat):Int) ((sIx n n hi:Nat):Int) 1)) _ _ s
 rw[xT];exact ua h
theorem HV(xs:Array Value)(i k:Nat):((List.range k).filterMap fun (m:Nat)=>xs[((i:Int)+(m:Int)*1).toNat]?).toArray=((xs.toList.drop i).take k).toArray:=by
 have e:(fun (m:Nat)=>xs[((i:Int)+(m:Int)*1).toNat]?)=fun m=>xs[i+m]?:=by
  funext m
  have:((i:Int)+(m:Int)*1).toNat=i+m:=by lia
  rw[this]
 rw[e];have:=pick_run xs i k
 rw[List.filterMap_map]at this;have e2:((fun x=>xs[x]?) ∘ fun x=>i+x)=fun m=>xs[i+m]?:=rfl
 rw[e2]at this;rw[this]
theorem kP{t sl:Addr}{items:Array Value}{vl vu:Value}{lo hi:Option Int}{Q:vd}(ht:IsTup s.heap t items)(hs:s.heap.IsSliceOf sl vl vu .none)(pl:IsPart vl lo)(pu:IsPart vu hi)
  (hw:¬(sIx items.size 0 lo=0∧sIx items.size items.size hi=items.size))
  (h:Q (.ref s.heap.objs.size) { s with heap:=s.heap.push { cls:=.type "tuple",data:=.seq ((items.toList.drop (sIx items.size 0 lo)).take (sIx items.size items.size hi-sIx items.size 0 lo)).toArray } })
  (hsz:items.size≤sizeLine):wpAny (model prog w) A (getItem (.ref t) (.ref sl)) Q E s:=by
 have htake:sizeOk (.seq ((items.toList.drop (sIx items.size 0 lo)).take (sIx items.size items.size hi-sIx items.size 0 lo)).toArray):=by
  show ((items.toList.drop (sIx items.size 0 lo)).take (sIx items.size items.size hi-sIx items.size 0 lo)).toArray.size≤sizeLine
  rw[qu,tm,v3,length_toList];lia
 have hj:sIx items.size items.size hi≤items.size:=XH _ _ (qm _) hi
 obtain⟨os,j6,hcs,bp⟩:=id hs;have hTs:s.TypeIs (.ref sl) "slice":=⟨os,j6,hcs⟩
 unfold getItem
 try with_reducible refine wpAny_holding ?_
 first|refine u7 (ua ?_)|skip
 refine u7 (wpAny_sequenceKey ht.typeIs (by decide) ?_)
 refine u7 (wpAny_callSpecial?_slot (name:=Str.ofString "__getitem__") ht.typeIs PyProof.Rows.slot_tuple_getitem
  (wpAny_call_entry PyProof.Rows.slot_tuple_getitem ht.typeIs entry_tuple_getitem ?_ (args_tuple_getitem _ _)))
 show wpAny _ _ (Builtin.Tuple.tupleItemsOf (.ref t) >>= _) _ _ s
 refine u7 (tupleItemsOf_ ht ?_);refine u7 (wpAny_typeOf hTs ?_);rw[if_pos (by decide)]
 refine u7 (lB hs pl pu ?_);have hno:¬((((sIx items.size 0 lo:Nat):Int) == 0&&(1:Int) == 1&&(sIx items.size items.size hi-sIx items.size 0 lo) == items.size)=true):=by
  intro q;rw[qv,qv]at q;have q1:((sIx items.size 0 lo:Nat):Int)=0:=eq_of_beq q.1.1
  have q2:sIx items.size items.size hi-sIx items.size 0 lo=items.size:=eq_of_beq q.2
  exact hw ⟨by lia,by lia⟩
 show wpAny _ _ (if (((sIx items.size 0 lo:Nat):Int) == 0&&(1:Int) == 1&&(sIx items.size items.size hi-sIx items.size 0 lo) == items.size)=true then _ else _) _ _ s
 rw[if_neg hno,HV]
 first
  |exact u7 (m:=Builtin.Tuple.tupleExact _) (wpAny_newObj_type (ua ⟨_,rfl,ua h⟩) htake)
  |exact u7 (m:=Builtin.Tuple.tupleExact _) (wpAny_newObj_type (u7 (ua (ua ⟨_,rfl,ua h⟩))) htake)
  |exact u7 (u7 (m:=Builtin.Tuple.tupleExact _) (wpAny_newObj_type (ua (ua ⟨_,rfl,ua h⟩)) htake))
  |exact u7 (u7 (m:=Builtin.Tuple.tupleExact _) (wpAny_newObj_type (ua ⟨_,rfl,ua h⟩) htake))
end
end HT
namespace L2
open PySem PySem.Spec PyProof.Rows
abbrev TO:=St→Hp→(Option Int→Hp→Prop)→Prop
def PO(X:Cx)(e:Option Expr)(t:TO):Prop:=
 ∀(pins:ve) (s:Shared) (σ:St) (H:Hp) (Q:Option Int→Hp→Prop),Inv X pins σ H s→t σ H Q →
  wpAny (model X.prog X.w) X.A (evalPart e X.env) (fun u s'=>∃o H',Inv X pins σ H' s'∧IsPart u o∧Q o H') X.xe s
noncomputable def NV:TO:=fun _ H Q=>Q none H
noncomputable def aBX(t:TE):TO:=fun σ H Q=>t σ H fun x H1=>∃i,x=.int i∧Q (some i) H1
section
variable {X:Cx}{e:Expr}{te:TE}{lo hi:Option Expr}{tl th:TO}{pos p2:Pos}
theorem QB:PO X none NV:=by
 intro pins s σ H Q I h;rw[evalPart_none];exact ua ⟨none,H,I,.none,h⟩
theorem QA(h:PE X e te):PO X (some e) (aBX te):=by
 intro pins s σ H Q I hw;rw[evalPart_some];refine af (h pins s σ H _ I hw) fun u s1 ⟨x,H1,I1,r1,q1⟩=>?_
 obtain⟨i,rfl,q⟩:=q1;obtain⟨t,rfl⟩:=r1;exact⟨some i,H1,I1,.int i t,q⟩
def SlR(X:Cx)(r:V→Option Int→Option Int→Hp→VK→Prop):Prop:=
 ∀(pins:ve) (s:Shared) (σ:St) (H:Hp) (x:V) (v vl vu:Value) (lo hi:Option Int) (sl:Addr) (Q:VK),Inv X pins σ H s→RelV x v→s.heap.IsSliceOf sl vl vu .none→IsPart vl lo→IsPart vu hi→r x lo hi H Q →
  ∃T id,typeLookup (.type T) "__getitem__" = pure (some (.builtin id))∧s.TypeIs v T∧wpAny (model X.prog X.w) X.A (getItem v (.ref sl)) (EP X pins σ Q) X.xe s
def tSl(r:V→Option Int→Option Int→Hp→VK→Prop)(te:TE)(tl th:TO):TE:=fun σ H Q=>te σ H fun x H1=>tl σ H1 fun l H2=>th σ H2 fun u H3=>r x l u H3 Q
theorem vC{r:V→Option Int→Option Int→Hp→VK→Prop}(hr:SlR X r)(he:PE X e te)(hl:PO X lo tl)(hu:PO X hi th):PE X (.Subscript e (.Slice lo hi none p2) pos) (tSl r te tl th):=by
 intro pins s σ H Q I h;refine Subscript_ (af (he pins s σ H _ I h) fun v s1 ⟨x,H1,I1,r1,q1⟩=>?_)
 refine wpAny_Slice (af (hl pins s1 σ H1 _ I1 q1) fun vl s2 ⟨l,H2,I2,pl,q2⟩=>af (hu pins s2 σ H2 _ I2 q2) fun vu s3 ⟨u,H3,I3,pu,q3⟩=>?_)
 rw[evalPart_none];refine ua ?_;have I4:Inv X pins σ H3 { s3 with heap:=s3.heap.push { cls:=.type "slice",data:=.fields #[vl,vu,.none] } }:=I3.kept (t':=s3.toks) fun b ob q=>qq _ q
 obtain⟨T,id,hT,ht,hg⟩:=hr pins { s3 with heap:=s3.heap.push { cls:=.type "slice",data:=.fields #[vl,vu,.none] } } σ H3 x v vl vu l u s3.heap.objs.size Q I4 r1 (Heap.IsSliceOf.new ..) pl pu q3
 show wpAny (model X.prog X.w) X.A (subscriptTail e (.Slice lo hi none p2) v (.ref s3.heap.objs.size)) (EP X pins σ Q) X.xe { s3 with heap:=s3.heap.push { cls:=.type "slice",data:=.fields #[vl,vu,.none] } }
 exact tail_any (ops:=[.ref s3.heap.objs.size,v]) ht hT hg (by with_unfolding_all rfl)
noncomputable def wO(xs:List V)(lo hi:Option Int):List V:=(xs.drop (HT.sIx xs.length 0 lo)).take (HT.sIx xs.length xs.length hi-HT.sIx xs.length 0 lo)
theorem mK(xs:List V)(lo hi:Option Int):(wO xs lo hi).length≤xs.length:=by
 unfold wO;rw[tm,v3];lia
noncomputable def aHo(K:va):V→Option Int→Option Int→Hp→VK→Prop:=fun x lo hi H Q=>∃a xs,x=.ref a∧SqT K H a xs ∧
 ¬(HT.sIx xs.length 0 lo=0∧HT.sIx xs.length xs.length hi=xs.length)∧∀p,H p=none→Q (.ref p) (upd H p (.tup (wO xs lo hi)))
theorem XD:SlR X (aHo X.K):=by
 intro pins s σ H x v vl vu lo hi sl Q I rx hs pl pu h;obtain⟨a,xs,rfl,hx,hw,q⟩:=h;cases rx;obtain⟨its,r,ht,hz⟩:=I.tuple hx;have hlen:its.toArray.size=xs.length:=by rw[qu];exact r.length.symm
 refine⟨"tuple",_,PyProof.Rows.slot_tuple_getitem.lookup,ht.typeIs,?_⟩;refine HT.kP ht hs pl pu (by rw[hlen];exact hw) ?_ (by rw[hlen];exact hz)
 rw[hlen];refine⟨.ref s.heap.objs.size,_,I.laid (t':=s.toks) (o:=.tup (wO xs lo hi)) (fun b ob q=>qq _ q) (qm _) ?_,rfl,q _ (I.hok.fresh (qm _))⟩
 exact⟨se (mK xs lo hi) hz,_,(r.drop (HT.sIx xs.length 0 lo)).take (HT.sIx xs.length xs.length hi-HT.sIx xs.length 0 lo),IsTup.new _ _⟩
noncomputable def aDq(K:va):R2:=fun x y H Q=>∃a b xs ys,x=.ref a∧y=.ref b∧SqT K H a xs∧SqT K H b ys∧xs≠[]∧xs.length+ys.length≤sizeLine ∧
 (ys=[]→Q (.ref a) H)∧(ys≠[]→∀p,H p=none→Q (.ref p) (upd H p (.tup (xs++ys))))
theorem aS.nil_iff{xs:List V}{us:List Value}(r:aS xs us):us=[]↔xs=[]:=by
 cases r with
 |nil=>simp
 |cons _ _=>simp
theorem QQ:ay X (binaryOp .Add) (aDq X.K):=by
 intro pins s σ H x y v u Q I rx ry h;obtain⟨a,b,xs,ys,rfl,rfl,ha,hb,hx,hz,q1,q2⟩:=h;cases rx;cases ry;obtain⟨its,r1,p1,_⟩:=I.tuple ha;obtain⟨c8,r2,p2,_⟩:=I.tuple hb;refine HT.TH p1 p2 (fun z=>hx (r1.nil_iff.mp z)) (fun z=>⟨.ref a,H,I,rfl,q1 (r2.nil_iff.mp z)⟩) (fun z=>?_) (by rw[←r1.length,←r2.length];exact hz)
 refine⟨.ref s.heap.objs.size,_,I.laid (t':=s.toks) (o:=.tup (xs++ys)) (fun b ob q=>qq _ q) (qm _) ?_,rfl,q2 (fun w=>z (r2.nil_iff.mpr w)) _ (I.hok.fresh (qm _))⟩
 exact⟨by rw[sk];exact hz,_,r1.append r2,IsTup.new _ _⟩
end
noncomputable def ixN(n:Nat)(i:Int):Option Nat:=if 0≤i then(if i<n then some i.toNat else none) else if -(n:Int)≤i then some (i+n).toNat else none
noncomputable def atI{α:Type}(xs:List α)(i:Int):Option α:=(ixN xs.length i).bind fun j=>xs[j]?
theorem AI{n:Nat}{i:Int}{j:Nat}(h:ixN n i=some j):seqIndex? i n=some j∧j<n∧-(n:Int)≤i∧i<n:=by
 unfold ixN at h
 by_cases h0:0≤i
 ·rw[if_pos h0]at h
  by_cases h1:i<n
  ·rw[if_pos h1]at h;have e:i.toNat=j:=qw h
   exact⟨by rw[seqIndex_of h0 h1,e],by lia,by lia,h1⟩
  ·rw[if_neg h1]at h;cases h
 ·rw[if_neg h0]at h
  by_cases h1:-(n:Int)≤i
  ·rw[if_pos h1]at h;have e:(i+n).toNat=j:=qw h
   exact⟨by rw[seqIndex_neg (by lia) h1,e],by lia,h1,by lia⟩
  ·rw[if_neg h1]at h;cases h
theorem uC{α:Type}{xs:List α}{i:Int}{v:α}(h:atI xs i=some v):∃j,seqIndex? i xs.length=some j∧xs[j]?=some v∧j<xs.length∧-(xs.length:Int)≤i∧i<xs.length:=by
 unfold atI at h;cases e:ixN xs.length i with
 |none=>rw[e]at h;cases h
 |some j =>
  rw[e]at h;obtain⟨h1,h2,h3,h4⟩:=AI e;exact⟨j,h1,h,h2,h3,h4⟩
theorem TL{α:Type}{xs:List α}{j:Nat}{v:α}(h:xs[j]?=some v):atI xs (j:Int)=some v:=by
 have hj:j<xs.length:=(q8.mp h).1
 have e:ixN xs.length (j:Int)=some j:=by
  unfold ixN;rw[if_pos (by lia),if_pos (by lia)];simp
 unfold atI;rw[e];exact h
def nA(b:Expr):Prop:=∀o i,subscripted b false o i=operate [o,i] (getItem o i)
def IxR(X:Cx)(r:R2):Prop:=
 ∀(value slice:Expr) (pins:ve) (s:Shared) (σ:St) (H:Hp) (x y:V) (v u:Value) (Q:VK),Inv X pins σ H s→RelV x v→RelV y u→r x y H Q →
  subscripted slice false v u=operate [v,u] (getItem v u)→wpAny (model X.prog X.w) X.A (subscriptTail value slice v u) (EP X pins σ Q) X.xe s
def MtR(X:Cx)(id:String)(r:V→List V→Hp→VK→Prop):Prop:=
 ∀(pins:ve) (s:Shared) (σ:St) (H:Hp) (x:V) (xs:List V) (v:Value) (us:List Value) (Q:VK),Inv X pins σ H s→RelV x v→aS xs us→r x xs H Q →
  wpAny (model X.prog X.w) X.A (call (.builtin id) (v::us)) (EP X pins σ Q) X.xe s
section
variable {X:Cx}{a b:Expr}{ta tb:TE}{pos:Pos}
theorem IxR.or{r r':R2}(h:IxR X r)(h':IxR X r'):IxR X (fun x y H Q=>r x y H Q∨r' x y H Q):=by
 intro value slice pins s σ H x y v u Q I rx ry q hs
 rcases q with q|q
 ·exact h value slice pins s σ H x y v u Q I rx ry q hs
 ·exact h' value slice pins s σ H x y v u Q I rx ry q hs
theorem UK{r:R2}(hr:IxR X r)(ha:PE X a ta)(hb:PE X b tb)(hs:nA b):PE X (.Subscript a b pos) (i8 r ta tb):=by
 intro pins s σ H Q I h;exact Subscript_ (aAI ha hb I h fun v u s2 x y H2 I2 rx ry q=>hr a b pins s2 σ H2 x y v u Q I2 rx ry q (hs _ _))
noncomputable def XO(K:va):R2:=fun x y H Q=>∃p xs i v,x=.ref p∧y=.int i∧SqL K H p xs∧atI xs i=some v∧Q v H
noncomputable def aDl(K:va):R2:=fun x y H Q=>∃p xs i v,x=.ref p∧y=.int i∧SqT K H p xs∧atI xs i=some v∧Q v H
noncomputable def aDm:R2:=fun x y H Q=>∃z i c,x=.str z∧y=.int i∧z.length≤sizeLine∧atI z.cps.toList i=some c∧Q (.str ⟨#[c]⟩) H
theorem AH:IxR X (XO X.K):=by
 intro value slice pins s σ H x y v u Q I rx ry h hs;obtain⟨p,xs,i,z,rfl,rfl,hq,he,q⟩:=h;cases rx;obtain⟨t,rfl⟩:=ry;obtain⟨its,r,pl,hz⟩:=I.list hq;obtain⟨j,h1,h2,h3,h4,h5⟩:=uC he;obtain⟨w,ew,gw⟩:=r.get h2;have hl:=r.length
 have hn:=jT
 have fin:EP X pins σ Q w s:=⟨z,H,I,gw,q⟩
 by_cases h0:0≤i
 ·have hj:i.toNat=j:=by
   rw[seqIndex_of h0 h5]at h1;exact qw h1
  exact item_listR pl.isList h0 (by lia) (by rw[hj];simpa using ew) fin hs
 ·have hj:(i+(its.toArray.size:Int)).toNat=j:=by
   rw[seqIndex_neg (by lia) h4]at h1
   rw[qu,←hl];exact qw h1
  exact subscriptTail_builtinR (x:=w) pl.isList.typeIs slot_list_getitem.lookup
   (wpAny_getItem_list_neg (Q:=fun r s'=>r=w∧EP X pins σ Q r s') pl.isList (by lia) (by rw[qu]<;>lia) (by lia) (by rw[hj];simpa using ew) ⟨rfl,fin⟩) hs
theorem aAa:IxR X (aDl X.K):=by
 intro value slice pins s σ H x y v u Q I rx ry h hs;obtain⟨p,xs,i,z,rfl,rfl,hq,he,q⟩:=h;cases rx;obtain⟨t,rfl⟩:=ry;obtain⟨its,r,pl,hz⟩:=I.tuple hq;obtain⟨j,h1,h2,h3,h4,h5⟩:=uC he;obtain⟨w,ew,gw⟩:=r.get h2;have hl:=r.length
 have hn:=jT
 have fin:EP X pins σ Q w s:=⟨z,H,I,gw,q⟩
 exact subscriptTail_builtinR (x:=w) pl.typeIs slot_tuple_getitem.lookup
  (getItem_tuple (j:=j) (Q:=fun r s'=>r=w∧EP X pins σ Q r s') pl (by lia) (by lia) (by rw[qu,←hl];exact h1) (by simpa using ew) ⟨rfl,fin⟩) hs
theorem aAb:IxR X aDm:=by
 intro value slice pins s σ H x y v u Q I rx ry h hs;obtain⟨z,i,c,rfl,rfl,hz,he,q⟩:=h;obtain⟨t,rfl⟩:=rx;obtain⟨t',rfl⟩:=ry;obtain⟨j,h1,h2,h3,h4,h5⟩:=uC he;have hl:z.cps.toList.length=z.length:=by simp[Str.length]
 rw[hl]at h1 h4 h5;have hn:=jT
 exact tail_any (typeIs_str s z t) slot_str_getitem.lookup (getItem_str (c:=c) (by
  have e1:decide (i < -(2 ^ 63:Int))=false:=qp (by lia)
  have e2:decide (i ≥ 2 ^ 63)=false:=qp (by lia)
  rw[e1,e2,Bool.or_false]) (by rw[h1];simpa using h2) ⟨.str ⟨#[c]⟩,H,I.tok _,⟨_,rfl⟩,q⟩) hs
noncomputable def rIx(K:va):R2:=fun x y H Q=>XO K x y H Q∨aDl K x y H Q∨aDm x y H Q
theorem aAc:IxR X (rIx X.K):=AH.or (aAa.or aAb)
theorem yH(its:List Value)(n j:Nat)(u:Value):Obj.mapSeq (·.setIfInBounds j u) { cls:=.type "list",data:=.seq its.toArray n }={ cls:=.type "list",data:=.seq (its.set j u).toArray n }:=by
 simp[Obj.mapSeq]
theorem Inv.lst{pins:ve}{σ:St}{H:Hp}{s:Shared}{p:Addr}{xs:List V}(I:Inv X pins σ H s)(h:H p=some (.lst xs)) :
  ∃(its:List Value) (n:Nat),aS xs its∧s.heap.get? p=some { cls:=.type "list",data:=.seq its.toArray n }∧xs.length≤sizeLine:=by
 obtain⟨z,its,n,r,e⟩:=I.hok p _ h;exact⟨its,n,r,e,z⟩
theorem Inv.lstUpd{pins:ve}{σ:St}{H:Hp}{s:Shared}{p:Addr}{xs ys:List V}{its its':List Value}{n n':Nat}{f:Obj→Obj}(I:Inv X pins σ H s)(h:H p=some (.lst xs))
  (ho:s.heap.get? p=some { cls:=.type "list",data:=.seq its.toArray n }) (hf:f { cls:=.type "list",data:=.seq its.toArray n }={ cls:=.type "list",data:=.seq its'.toArray n' }) (r:aS ys its') (hz:ys.length≤sizeLine) (t:Nat) :
  Inv X pins σ (upd H p (.lst ys)) { s with heap:=s.heap.update p f,toks:=t }:=by
 have e:(s.heap.update p f).get? p=some { cls:=.type "list",data:=.seq its'.toArray n' }:=by
  rw[Heap.get?_update_self f ho (by rw[hf]<;>rfl),hf]
 refine I.write (x:=p) (e:=p) (by rw[h];trivial) (.inl rfl) (fun b u hb q=>(Heap.get?_update_other _ _ (Ne.symm hb)).trans q) ⟨_,e⟩ ?_
 exact⟨hz,its',n',r,e⟩
noncomputable def aDk:V→V→V→Hp→(Hp→Prop)→Prop:=fun o i v H Q=>∃p xs k j,o=.ref p∧i=.int k∧H p=some (.lst xs)∧ixN xs.length k=some j∧Q (upd H p (.lst (xs.set j v)))
theorem set_list:aFP X aDk:=by
 intro pins s σ H o i v ov iv u Q I ro ri rv h;obtain⟨p,xs,k,j,rfl,rfl,hp,hj,q⟩:=h;cases ro;obtain⟨t,rfl⟩:=ri;obtain⟨its,n,r,ho,hz⟩:=I.lst hp;obtain⟨h1,h2,h3,h4⟩:=AI hj;have hl:=r.length
 have hn:=jT
 have I':Inv X pins σ (upd H p (.lst (xs.set j v))) { s with heap:=s.heap.update p (Obj.mapSeq (·.setIfInBounds j u)) }:=
  I.lstUpd hp ho (yH its n j u) (r.set rv j) (by rw[List.length_set];exact hz) s.toks
 by_cases h0:0≤k
 ·have hk:k.toNat=j:=by
   rw[seqIndex_of h0 h4]at h1;exact qw h1
  exact PySem.W.ki_setAt ho h0 (by lia) (by rw[qu,←hl];exact h4) (by rw[hk];exact⟨_,I',q⟩)
 ·have hk:(k+(its.toArray.size:Int)).toNat=j:=by
   rw[seqIndex_neg (by lia) h3]at h1
   rw[qu,←hl];exact qw h1
  exact PySem.W.ki_setBack ho (by lia) (by rw[qu,←hl];exact h3) (by lia) (by rw[hk];exact⟨_,I',q⟩)
theorem rK(lo hi:Option Int)(n:Nat):(sliceBounds lo hi none n).1=((HT.sIx n 0 lo:Nat):Int)∧(sliceBounds lo hi none n).2.1=((HT.sIx n n hi:Nat):Int)∧(sliceBounds lo hi none n).2.2=1:=by
 refine⟨?_,?_,rfl⟩
 ·cases lo with
  |none=>simp[sliceBounds,HT.sIx]
  |some i =>
   simp only[sliceBounds,HT.sIx,Option.getD_none,show (1:Int) > 0 by decide,if_true]
   by_cases h:i<0
   ·simp only[h,if_true]<;>lia
   ·simp only[h,if_false]<;>lia
 ·cases hi with
  |none=>simp[sliceBounds,HT.sIx]
  |some i =>
   simp only[sliceBounds,HT.sIx,Option.getD_none,show (1:Int) > 0 by decide,if_true]
   by_cases h:i<0
   ·simp only[h,if_true]<;>lia
   ·simp only[h,if_false]<;>lia
theorem oW(its:List Value)(lo hi:Option Int):slicePick its.toArray lo hi none=((its.drop (HT.sIx its.length 0 lo)).take (HT.sIx its.length its.length hi-HT.sIx its.length 0 lo)).toArray:=by
 obtain⟨h1,h2,h3⟩:=rK lo hi its.toArray.size;unfold slicePick;rw[h1,h2,h3];simp only[sliceRange_one,pick_run,qu]<;>rfl
noncomputable def aHp(K:va):V→Option Int→Option Int→Hp→VK→Prop:=fun x lo hi H Q=>∃a xs,x=.ref a∧SqL K H a xs∧∀p,H p=none→Q (.ref p) (upd H p (.lst (wO xs lo hi)))
theorem OH:SlR X (aHp X.K):=by
 intro pins s σ H x v vl vu lo hi sl Q I rx hs pl pu h;obtain⟨a,xs,rfl,hx,q⟩:=h;cases rx;obtain⟨its,r,ht,hz⟩:=I.list hx;have hlen:=r.length
 refine⟨"list",_,slot_list_getitem.lookup,ht.isList.typeIs,?_⟩;refine wpAny_getItem_list_slice ht.isList hs pl pu .none (by simp) ?_ (by rw[qu]<;>lia)
 rw[oW,←hlen];refine⟨.ref s.heap.objs.size,_,I.laid (t':=s.toks) (o:=.lst (wO xs lo hi)) (fun b ob q=>qq _ q) (qm _) ?_,rfl,q _ (I.hok.fresh (qm _))⟩
 exact⟨se (mK xs lo hi) hz,_,0,(r.drop (HT.sIx xs.length 0 lo)).take (HT.sIx xs.length xs.length hi-HT.sIx xs.length 0 lo),uc _ rfl⟩
theorem iD:gF X (.builtin "len") (fun xs H Q=>∃p ys,xs=[.ref p]∧(SqL X.K H p ys∨SqT X.K H p ys)∧Q (.int ys.length) H):=by
 intro pins s σ H xs us Q I r h;obtain⟨p,ys,rfl,hq,q⟩:=h;obtain⟨u,rfl,rx⟩:=vals1 r;cases rx;have hn:=jT
 rcases hq with hq|hq
 ·obtain⟨its,r',pl,hz⟩:=I.list hq;have hlen:=r'.length
  exact Calls.call_len_list pl.isList (by simp only[qu]<;>lia) ⟨.int ys.length,H,I.tok _,⟨s.toks+1,by rw[qu,hlen]⟩,q⟩
 ·obtain⟨its,r',pl,hz⟩:=I.tuple hq;have hlen:=r'.length
  exact len_tuple pl (by simp only[qu]<;>lia) ⟨.int ys.length,H,I.tok _,⟨s.toks+1,by rw[qu,hlen]⟩,q⟩
theorem tY:gF X (.builtin "len") (fun xs H Q=>∃z,xs=[.str z]∧z.length≤sizeLine∧Q (.int z.length) H):=by
 intro pins s σ H xs us Q I r h;obtain⟨z,rfl,hz,q⟩:=h;obtain⟨u,rfl,t,rfl⟩:=vals1 r;have hn:=jT
 exact len_str (by lia) ⟨.int z.length,H,I.tok _,⟨_,rfl⟩,q⟩
theorem iC:gF X (.type "list") (fun xs H Q=>∃p ys,xs=[.ref p]∧(SqL X.K H p ys∨SqT X.K H p ys)∧∀l,H l=none→Q (.ref l) (upd H l (.lst ys))):=by
 intro pins s σ H xs us Q I r h;obtain⟨p,ys,rfl,hq,q⟩:=h;obtain⟨u,rfl,rx⟩:=vals1 r;cases rx;have fin:∀(its:List Value),aS ys its→ys.length≤sizeLine→∀(h':Heap) (c':Nat),(∀b o',s.heap.get? b=some o'→h'.get? b=some o') →
   h'.get? s.heap.objs.size=some { cls:=.type "list",dict:=none,data:=.seq its.toArray c',slots:=#[] }→EP X pins σ Q (.ref s.heap.objs.size) { s with heap:=h' }:=fun its r' hz h' c' kp e =>
  ⟨.ref s.heap.objs.size,_,I.laid (t':=s.toks) kp (qm _) (show bZ X.prog X.w _ h' _ (.lst ys) from⟨hz,its,c',r',e⟩),rfl,q _ (I.hok.fresh (qm _))⟩
 rcases hq with hq|hq
 ·obtain⟨its,r',pl,hz⟩:=I.list hq;have hlen:=r'.length
  obtain⟨o,ho,hc,n,hd⟩:=pl.isList;exact call_list_seq p (.inl rfl) ho hc hd (fun h' c' kp e=>fin its r' hz h' c' kp e) (by simp only[qu]<;>lia)
 ·obtain⟨its,r',pl,hz⟩:=I.tuple hq;have hlen:=r'.length
  obtain⟨o,ho,hc,n,hd⟩:=pl;exact call_list_seq p (.inr rfl) ho hc hd (fun h' c' kp e=>fin its r' hz h' c' kp e) (by simp only[qu]<;>lia)
theorem jQ:gF X (.type "tuple") (fun xs H Q=>∃p ys,xs=[.ref p]∧((SqL X.K H p ys∧∀l,H l=none→Q (.ref l) (upd H l (.tup ys)))∨(SqT X.K H p ys∧Q (.ref p) H))):=by
 intro pins s σ H xs us Q I r h;obtain⟨p,ys,rfl,h⟩:=h;obtain⟨u,rfl,rx⟩:=vals1 r;cases rx
 rcases h with ⟨hq,q⟩|⟨hq,q⟩
 ·obtain⟨its,r',pl,hz⟩:=I.list hq;have hlen:=r'.length
  refine call_tuple_list pl.isList (fun h' kp=>?_) (by simp only[qu]<;>lia)
  have I1:Inv X pins σ H { s with heap:=h' }:=I.kept (t':=s.toks) kp
  have I2:Inv X pins σ (upd H h'.objs.size (.tup ys)) { s with heap:=h'.push { cls:=.type "tuple",data:=.seq its.toArray } }:=
   I1.laid (t':=s.toks) (fun b o e=>qq _ e) (qm _) (show bZ X.prog X.w _ _ _ (.tup ys) from⟨hz,its,r',IsTup.new _ _⟩)
  exact⟨.ref h'.objs.size,_,I2,rfl,q _ (I1.hok.fresh (qm _))⟩
 ·obtain⟨its,r',pl,hz⟩:=I.tuple hq;exact call_tuple_same pl ⟨.ref p,H,I,rfl,q⟩
def tyV(K:va)(T:String)(x:V)(H:Hp):Prop:=match x with
 |.str _=>T = "str"
 |.int _=>T = "int"
 |.ref p=>(T = "list"∧∃xs,SqL K H p xs)∨(T = "tuple"∧∃o,K.lookup p=some o∧o.cls=.type "tuple"∧o.dict=none) ∨
   (T = "dict"∧((∃kvs,H p=some (.dK kvs))∨∃kvs,H p=some (.dT kvs)))∨(T = "set"∧∃S n,H p=some (.set S n))
 |_=>False
theorem WK{pins:ve}{σ:St}{H:Hp}{s:Shared}{T:String}{x:V}{v:Value}(I:Inv X pins σ H s)(r:RelV x v)(ty:tyV X.K T x H) :
  s.TypeIs v T∧∀a,v=.ref a→∃ob,s.heap.get? a=some ob∧ob.dict=none:=by
 cases x with
 |str z =>
  obtain⟨t,rfl⟩:=r;cases (show T = "str" from ty)
  exact⟨typeIs_str s z t,fun _ e=>nomatch e⟩
 |int i =>
  obtain⟨t,rfl⟩:=r;cases (show T = "int" from ty)
  exact⟨typeIs_int s i t,fun _ e=>nomatch e⟩
 |ref p =>
  cases r
  rcases ty with ⟨rfl,xs,hq⟩|⟨rfl,o,hk,hc,hd⟩|⟨rfl,hk⟩|⟨rfl,S,n,hk⟩
  ·obtain⟨its,_,pl,_⟩:=I.list hq;refine⟨pl.isList.typeIs,fun a e=>?_⟩
   cases e;obtain⟨o,n,e,c,hd,_⟩:=pl;exact⟨o,e,hd⟩
  ·refine⟨⟨o,I.kIn p o hk,hc⟩,fun a e=>?_⟩
   cases e;exact⟨o,I.kIn _ o hk,hd⟩
  ·have z:∃o,s.heap.get? p=some o∧o.ExactDict:=by
    rcases hk with ⟨kvs,hk⟩|⟨kvs,hk⟩
    ·obtain⟨_,_,_,_,o,_,_,e,ex,_⟩:=I.hok p _ hk;exact⟨o,e,ex⟩
    ·obtain⟨_,_,_,_,o,_,_,e,ex,_⟩:=I.hok p _ hk;exact⟨o,e,ex⟩
   obtain⟨o,e,ex⟩:=z;refine⟨⟨o,e,ex.1⟩,fun a e2=>?_⟩
   cases e2;exact⟨o,e,ex.2.1⟩
  ·obtain⟨o,_,_,_,e,ex,_⟩:=I.hok p _ hk;refine⟨⟨o,e,ex.1⟩,fun a e2=>?_⟩
   cases e2;exact⟨o,e,ex.2.1⟩
 |_=>exact False.elim ty
def tBM(K:va)(T:String)(r:V→List V→Hp→VK→Prop)(to:TE)(t:TA):TE:=fun σ H Q=>to σ H fun x H1=>tyV K T x H1∧t σ H1 fun xs H2=>r x xs H2 Q
variable {o e:Expr}{es:List Expr}{to:TE}{t:TA}{name:Str}{apos bo:Pos}{T id:String}{r:V→List V→Hp→VK→Prop}
theorem IA(pa:PlainAttrs T)(slot:Slot T name id)(hty:typeOf (.builtin id)=pure (.type "method_descriptor"))(hm:MtR X id r)(ho:PE X o to)(ha:PA X (e::es) t)
  (hbase:attributeBase o name X.env (eval o X.env)=eval o X.env:=by rfl)
  (hfew:((backTo bo (starEach (e::es) X.env)).all (fun x=>!x.1)&&(backToKw bo (keywordEach [] X.env)).all (fun x=>x.1.isSome)
   && decide ((e::es).length+([]:List Keyword).length+(if ([]:List Keyword).isEmpty then 0 else 1)<30))=true:=by rfl)
  (hline:(apos.endLine == bo.line)=true:=by rfl) (hs:starEach (e::es) X.env=(false,eval e X.env)::starEach es X.env:=by rfl) (hplain:(backTo bo (starEach es X.env)).any (·.1)=false:=by rfl) :
  PE X (.Call (.Attribute o name apos) (e::es) [] bo) (tBM X.K T r to t):=by
 intro pins s σ H Q I h;refine wpAny_Call_method_late hbase hfew hline rfl (af (ho pins s σ H _ I h) fun v s1 ⟨x,H1,I1,r1,ty,q1⟩=>?_)
 obtain⟨h1,h2⟩:=WK I1 r1 ty;refine⟨T,id,pa,slot,hty,h1,h2,?_⟩;have hA:=ha bo pins s1 σ H1 _ I1 q1
 rw[hs]at hA ⊢;refine Calls.callWith_builtin (by show (false || (backTo bo (starEach es X.env)).any (·.1))=false;rw[hplain]<;>rfl) (Calls.evalArgs_plain ?_)
 exact af hA fun us s2 ⟨vs,H2,I2,r2,q2⟩=>hm pins s2 σ H2 x vs v us Q I2 r1 r2 q2
end
def MtM(X:Cx)(id:String)(r:V→List V→Hp→VK→Prop):Prop:=
 ∀(pins:ve) (s:Shared) (σ:St) (H:Hp) (x:V) (xs:List V) (v:Value) (us:List Value) (Q:VK),Inv X pins σ H s→RelV x v→aS xs us→r x xs H Q →
  wpAny (model X.prog X.w) X.A (call (.builtin id) (v::us)) (EP X pins σ Q) X.xe s
theorem aS.one:∀{x:V} {us:List Value},aS [x] us→∃u,us=[u]∧RelV x u
 |_,_,.cons r .nil=>⟨_,rfl,r⟩
theorem aS.two:∀{x y:V} {us:List Value},aS [x,y] us→∃u v,us=[u,v]∧RelV x u∧RelV y v
 |_,_,_,.cons r (.cons q .nil)=>⟨_,_,rfl,r,q⟩
theorem aS.reverse{xs:List V}{us:List Value}(h:aS xs us):aS xs.reverse us.reverse:=by
 induction h with
 |nil=>exact .nil
 |cons r t ih=>rw[reverse_cons,reverse_cons];exact aS.append ih (.cons r .nil)
section
variable {X:Cx}{pins:ve}{σ:St}{H:Hp}{s:Shared}{l b:Addr}{xs ys zs:List V}
theorem Inv.lset{its its':List Value}{n:Nat}{f:Array Value→Array Value}{t':Nat}(I:Inv X pins σ H s)(hH:H l=some (.lst xs))
  (e:s.heap.get? l=some { cls:=.type "list",data:=.seq its.toArray n }) (hf:f its.toArray=its'.toArray) (hv:aS ys its') (hz:ys.length≤sizeLine) :
  Inv X pins σ (upd H l (.lst ys)) { s with heap:=s.heap.update l (Obj.mapSeq f),toks:=t' }:=by
 have q:=PySem.IsL.update e f
 rw[hf]at q;refine I.write (x:=l) (e:=l) (by rw[hH];exact trivial) (.inl rfl) (fun b' u hb hu=>(Heap.get?_update_other s.heap (Obj.mapSeq f) (Ne.symm hb)).trans hu) ⟨_,q⟩ ?_
 exact⟨hz,its',_,hv,q⟩
theorem Inv.lnew{its:List Value}{t':Nat}(I:Inv X pins σ H s)(hv:aS ys its)(hz:ys.length≤sizeLine) :
  Inv X pins σ (upd H s.heap.objs.size (.lst ys)) { s with heap:=s.heap.push { cls:=.type "list",data:=.seq its.toArray },toks:=t' }:=
 I.laid (fun _ _ q=>qq _ q) (qm _) ⟨hz,its,0,hv,uc _ rfl⟩
theorem Inv.fresh(I:Inv X pins σ H s):H s.heap.objs.size=none:=I.hok.fresh (qm _)
theorem Inv.lstM(I:Inv X pins σ H s)(hH:H l=some (.lst xs)):xs.length≤sizeLine∧∃(its:List Value) (n:Nat),aS xs its∧xs.length=its.length∧s.heap.get? l=some { cls:=.type "list",data:=.seq its.toArray n }:=by
 obtain⟨z,its,n,r,e⟩:=I.hok l _ hH;exact⟨z,its,n,r,r.length,e⟩
theorem IW{n:Nat}(h:n≤sizeLine):Builtin.List.listTooLong n=false:=by
 unfold Builtin.List.listTooLong;exact qp (by lia)
end
section
variable {X:Cx}
noncomputable def OQ:V→List V→Hp→VK→Prop:=fun x vs H Q=>∃l xs y,x=.ref l∧vs=[y]∧H l=some (.lst xs)∧xs.length<sizeLine∧Q .non (upd H l (.lst (xs++[y])))
theorem pY:MtM X "list.append" OQ:=by
 intro pins s σ H x vs v us Q I rx rv h;obtain⟨l,xs,y,rfl,rfl,hH,hz,q⟩:=h;cases rx;obtain⟨u,rfl,ru⟩:=rv.one;obtain⟨z,its,n,r,hl,e⟩:=I.lstM hH;refine call_meets F.slot_list_append ⟨_,e,rfl⟩ F.entry_list_append (F.args_list_append_2 _ _) (PySem.list_append l its.toArray n u (by rw[qu];lia)) ⟨e,?_⟩
 refine⟨.non,_,I.lset (its':=its++[u]) hH e (by simp) (r.append (.cons ru .nil)) ?_,rfl,q⟩
 rw[sk,List.length_singleton];lia
noncomputable def OP:V→List V→Hp→VK→Prop:=fun x vs H Q=>∃l b xs zs,x=.ref l∧vs=[.ref b]∧H l=some (.lst xs)∧H b=some (.lst zs)∧xs.length+zs.length≤sizeLine∧Q .non (upd H l (.lst (xs++zs)))
theorem aBg:MtM X "list.extend" OP:=by
 intro pins s σ H x vs v us Q I rx rv h;obtain⟨l,b,xs,zs,rfl,rfl,hH,hB,hz,q⟩:=h;cases rx;obtain⟨u,rfl,ru⟩:=rv.one;cases ru;obtain⟨z,its,n,r,hl,e⟩:=I.lstM hH;obtain⟨z2,c8,n2,r2,gh,e2⟩:=I.lstM hB;have hsz:its.toArray.size+c8.toArray.size≤sizeLine:=by rw[qu,qu];lia
 have hlong:¬(!its.toArray.isEmpty&&Builtin.List.listTooLong (its.toArray.size+c8.toArray.size))=true:=by
  rw[IW hsz,Bool.and_false];exact r8
 refine call_meets F.slot_list_extend ⟨_,e,rfl⟩ F.entry_list_extend (F.args_list_extend_2 _ _)
  (AutoSeq1.list_extend_list_list_0 l its.toArray n b c8.toArray n2 hlong (by rw[qu];lia) (by lia)) ⟨e,e2,?_⟩
 refine⟨.non,_,I.lset (its':=its++c8) hH e (by simp) (r.append r2) ?_,rfl,q⟩
 rw[sk];lia
noncomputable def aDr:R2:=fun x y H Q=>∃l b xs zs,x=.ref l∧y=.ref b∧H l=some (.lst xs)∧H b=some (.lst zs)∧xs.length+zs.length≤sizeLine∧∀p,H p=none→Q (.ref p) (upd H p (.lst (xs++zs)))
theorem IH:ay X (binaryOp .Add) aDr:=by
 intro pins s σ H x y v u Q I rx ry h;obtain⟨l,b,xs,zs,rfl,rfl,hH,hB,hz,q⟩:=h;cases rx;cases ry;obtain⟨z,its,n,r,hl,e⟩:=I.lstM hH;obtain⟨z2,c8,n2,r2,gh,e2⟩:=I.lstM hB;refine PySem.P.add_list e e2 ?_ (by rw[qu,qu];lia)
 have ea:its.toArray++c8.toArray=(its++c8).toArray:=by simp
 rw[ea];exact⟨.ref _,_,I.lnew (t':=s.toks) (r.append r2) (by rw[sk];lia),rfl,q _ I.fresh⟩
end
section
variable {prog:vc}{w:World}{A:Around}{E:vd}{s:Shared}
end
section
variable {X:Cx}
end
end L2
namespace Att
open PySem PySem.W PySem.Calls PyProof.Rows
theorem mO{P:Params}{h:Heap}:∀(ns:List Int) (vs:List Value),WellAll P h vs (ns.map WData.int)→IntsAre vs ns:=by
 intro ns
 induction ns with
 |nil =>
  intro vs w;rw[map_nil]at w;cases w;exact .nil
 |cons n ns ih =>
  intro vs w;rw[su]at w;cases w with
  |cons a b =>
   cases a;exact .cons _ _ (ih _ b)
theorem DT{l:OpenLaw}{n:Nat}(hn:l.most=some n){P:Params}{h:Heap}{args:List WData}{vals:List Value}
  (hpre:l.row.toRowW.claim.pre args=true) (hwl:WellAll P h vals args) :
  ∃a vs ns,vals=[Value.ref a]∧args=[WData.list (ns.map WData.int)]∧h.get? a=some { cls:=.type "list",data:=.seq vs.toArray }∧IntsAre vs ns∧ns.length≤n:=by
 have hsh:WShape.hasAll [] args [.list .int]=true:=(pre_splitW hpre).1
 have hc:l.pre.holds [] { args:=args }=true:=(pre_splitW hpre).2
 obtain⟨d,r,rfl,h1,h2⟩:=hasAllW_cons hsh;obtain rfl:=hasAllW_nil h2;obtain⟨xs,rfl,h3⟩:=hasW_list h1;obtain⟨ns,rfl⟩:=items_int h3;have hlen:ns.length≤n:=by
  unfold OpenLaw.pre at hc;have h4:(WTm.not (.lt (.lit (.int (n:Int))) (.len (.arg 0)))).holds [] { args:=[.list (ns.map .int)] }=true:=by
   have h4:=(holds_andW hc).1
   rw[hn]at h4;exact h4
  have h5:=condW_of h4 (w_not (w_lt w_lit (w_len_list (w_arg rfl))))
  rw[ql]at h5;refine Nat.le_of_not_lt fun q=>?_
  have q':(n:Int)<((ns.length:Nat):Int):=by lia
  first
   | (rw[sv q']at h5;exact absurd h5 (by decide))
   | (simp at h5;lia)
 cases hwl with
 |cons w1 w2 =>
  cases w2;cases w1 with
  |list ho hall=>exact⟨_,_,ns,rfl,rfl,ho,mO ns _ hall,hlen⟩
theorem DZ(l:OpenLaw)(args:List WData):l.row.toRowW.claim.post args (.bool true) args=true:=
 postW_of (r:=l.row.toRowW) (X:=(true == true))
  (show WShape.has [] (.bool true) .bool=true by first|rfl|decide|simp[WShape.has,WShape.arms,WShape.armsAll])
  (show (WTm.eq .res (.lit (.bool true))).value [] { args:=args,res:=some (.bool true),after:=args }=some (.bool (true == true)) from w_eq_bool (w_res rfl) w_lit) rfl
theorem xC{l:OpenLaw}{n:Nat}{q:vc}{loose:List Str}{XP:(vf)→Heap→Prop}{YP:World→Heap→Prop}{d:DefRec}
  (hn:l.most=some n) (o4:d.params.defaults=[])
  (call:∀(w:World) (s₀ s₁:Shared) (mg mb:vf) (fa:Addr) (o:Obj) (pm cd doc:Value) (a:Addr) (vs:List Value) (ns:List Int),
   Ground q loose [] XP w s₀ mg mb s₁.heap→YP w s₁.heap →
   s₁.heap.get? fa=some o→o.data=.func (docDef d.name d.params d.body d.scope pm cd doc)→s₁.heap.CodeRec cd d.name→mg d.name=some (.ref fa) →
   s₁.heap.get? a=some { cls:=.type "list",data:=.seq vs.toArray }→IntsAre vs ns→ns.length≤n→s₁.gens=#[] →
   codeAny (model l.prog w) callerA (.call (.ref fa) ⟨[.ref a],[]⟩) (fun r s'=>r=.ok (.ret (.bool true))∧OldK s₁.heap s'.heap∧s'.os=s₁.os∧AllBare s'.gens) s₁) :
  WalkO q loose XP YP l.row.toRowW d [] (fun f vs=>PySem.call f vs):=by
 intro w s₀ s₁ mg mb G Y fa o pm cd doc dV kV ho hd fg hD ig hg args vals as hpre hlay hrd hwl hlo;obtain rfl:dV=.none:=Dflts.none hD o4;obtain rfl:kV=.none:=Dflts.noKw hD;obtain⟨a,vs,ns,rfl,rfl,hobj,hints,hlen⟩:=DT hn hpre hwl;refine enter_call (codeAny_mono (call w s₀ s₁ mg mb fa o pm cd doc a vs ns G Y ho (fd_plain hd) fg ig hobj hints hlen hg) fun r s' hq=>?_)
 obtain⟨rfl,h2,h3,h4⟩:=hq;exact⟨.inl ⟨.bool true,.bool true,[],rfl,fun _=>rfl,.bool true,DZ l _,fun _=>⟨List.Pairwise.nil,fun _ hm=>(nomatch hm)⟩⟩,h2,h3,h4⟩
section
variable {prog:vc}{w:World}{A:Around}{E:vd}{s:Shared}{K:Frag}
end
end Att
namespace L2
open PySem PySem.Spec PyProof.Rows
theorem pH:∀{vs:List Value} {ns:List Int},IntsAre vs ns→aS (ns.map V.int) vs
 |_,_,.nil=>.nil
 |_,_,.cons n t h=>.cons ⟨t,rfl⟩ (pH h)
def aAW(H:Hp):Prop:=∀b,H b=none∨∃o xs,H b=some (.frz o (.lst xs))
theorem JH{P:vc}{w:World}{K:va}{mg mb:vf}{CX:au}{k:Nat}{fa a:Addr}{fd:vb}{x:Str}{sp:Sp}{s₁:Shared}{vs:List Value}{ns:List Int}
  (KX:K.In s₁.heap) (jj:s₁.heap.Ns mainGlobals mg) (hb:s₁.heap.Ns builtinsNs mb) (hbb:∀x:Str,x≠"__name__"→mb x=bootBuiltins x) (hlim:s₁.heap.NoLimit) (hg:s₁.gens=#[])
  (ha:s₁.heap.get? a=some { cls:=.type "list",data:=.seq vs.toArray }) (hi:IntsAre vs ns) (hl:ns.length≤sizeLine) (hr:Room k callerA)
  (F:∀base:Heap,K.In base→base.Ns mainGlobals mg→FnOk P w K mg base CX k fa fd [x] sp) (hbind:∀(s:Shared) (u:Value),BindsTo s fd ⟨[u],[]⟩ [(x,u)])
  (br:∀H:Hp,aAW H→SqL K H a (ns.map V.int)→sp [.ref a] H (fun v _=>v=.bl true) fun _ _ _=>False)
  (hCX:∀H e s',CX [] H s₁ (fun _ _ _=>False) e s'→False) :
  codeAny (model P w) callerA (.call (.ref fa) ⟨[.ref a],[]⟩) (fun r s'=>r=.ok (.ret (.bool true))∧OldK s₁.heap s'.heap∧s'.os=s₁.os∧AllBare s'.gens) s₁:=by
 have rv:=pH hi
 have lenV:=hi.length
 have core:∀H:Hp,aAW H→SqL K H a (ns.map V.int)→HOk P w H s₁.heap→(∀b,H b≠none→b=a)→(H a≠none→K.lookup a=none) →
   codeAny (model P w) callerA (.call (.ref fa) ⟨[.ref a],[]⟩) (fun r s'=>r=.ok (.ret (.bool true))∧OldK s₁.heap s'.heap∧s'.os=s₁.os∧AllBare s'.gens) s₁:=by
  intro H hO hS hok hA hK;have kX:∀{b:Addr} {o:Obj},s₁.heap.get? b=some o→H b=none→(sG s₁.heap H).get? b=some o:=fun e n=>JY e n
  have nv:∀{b:Addr} {o:Obj} {es:Array DictEntry} {ep:Nat},s₁.heap.get? b=some o→o.data=.dict es ep→H b=none:=fun {b o es ep} e d=>by
   cases q:H b with
   |none=>rfl
   |some u =>
    have e':b=a:=hA b (by rw[q];simp)
    subst e';rw[ha]at e;cases e;have d':Data.seq vs.toArray _=Data.dict es ep:=d
    cases d'
  have nsK:∀{b:Addr} {m:vf},s₁.heap.Ns b m→(sG s₁.heap H).Ns b m:=fun {b m} ⟨o,es,ep,e,d,r⟩=>⟨o,es,ep,kX e (nv e d),d,r⟩
  have hKb:K.In (sG s₁.heap H):=fun b o e=>kX (KX b o e) (by
   cases q:H b with
   |none=>rfl
   |some u =>
    have e':b=a:=hA b (by rw[q];simp)
    subst e';rw[hK (by rw[q];simp)]at e;cases e)
  have hM:Mod K mg (sG s₁.heap H):=⟨hKb,nsK jj,⟨mb,nsK hb,hbb⟩,let ⟨mc,h1,h2⟩:=hlim;⟨mc,nsK h1,h2⟩⟩
  have e0:Env0 P w K mg (sG s₁.heap H) callerA [] s₁ H:=⟨rfl,hM,fun b o e=>RB e,Nat.le_of_eq (EZ _ _),trivial,fun b hb=>absurd (show b∈([]:List Addr) from hb) (by simp),hok,.of_eq hg⟩
  refine codeAny_mono ((F _ hKb (nsK jj)).run callerA [] s₁ H ⟨[.ref a],[]⟩ [.ref a] [.ref a] _ _ hr e0 (hbind s₁ (.ref a)) (.cons rfl .nil) (br H hO hS)) fun r s' h=>?_
  cases r with
  |error e=>exact(hCX H e s' h).elim
  |ok fl =>
   cases fl with
   |next=>exact False.elim h
   |brk=>exact False.elim h
   |cont=>exact False.elim h
   |ret u =>
    obtain⟨v,H',os,bare,un,hok',r',q⟩:=h;have q':v=.bl true:=q
    subst q';obtain rfl:u=Value.bool true:=r';refine⟨rfl,OldK.of_keep fun b o e=>?_,os,bare⟩
    cases q:H b with
    |none=>exact un.keep b o e q (by intro z;exact absurd (show b∈([]:List Addr) from z) (by simp)) (by simp)
    |some u =>
     rcases hO b with z|⟨ob,xs,z⟩
     ·rw[q]at z;cases z
     ·have z2:=un.frzs b ob _ z
      obtain⟨e1,_⟩:=hok b _ z;obtain⟨e2,_⟩:=hok' b _ z2;rw[e]at e1;cases e1;exact e2
 cases hk:K.lookup a with
 |some o =>
  have e:=KX a o hk
  rw[ha]at e;cases e;refine core (fun _=>none) (fun _=>.inl rfl) (.inr ⟨_,vs.toArray,_,hk,rfl,rfl,rfl,by rw[qu,lenV];exact hl,by simpa using rv⟩) (fun b u z=>by have z':(none:Option HO)=some u:=z;cases z') (fun b z=>absurd rfl z) fun z=>absurd rfl z
 |none =>
  refine core (fun b=>if b=a then some (.frz { cls:=.type "list",data:=.seq vs.toArray } (.lst (ns.map V.int))) else none) (fun b=>?_) (.inl (.inr ⟨{ cls:=.type "list",data:=.seq vs.toArray },if_pos rfl⟩)) (fun b u z=>?_) (fun b z=>?_) fun _=>hk
  ·by_cases hb:b=a
   ·exact .inr ⟨_,_,if_pos hb⟩
   ·exact .inl (if_neg hb)
  ·by_cases hb:b=a
   ·have z':=(if_pos hb).symm.trans z
    cases z';subst hb;exact⟨ha,by rw[ql];exact hl,vs,_,rv,ha⟩
   ·have z':=(if_neg hb).symm.trans z
    cases z'
  ·by_cases hb:b=a
   ·exact hb
   ·exact absurd (if_neg hb) z
theorem NR{l:PySem.W.OpenLaw}{n k:Nat}{q:vc}{loose:List Str}{XP:(vf)→Heap→Prop}{YP:World→Heap→Prop}{d:DefRec}{K:Params→va}{CX:World→au}{sp:World→Sp}{x:Str}
  (hn:l.most=some n) (jk:n≤sizeLine) (o4:d.params.defaults=[]) (hr:Room k callerA)
  (hY:∀(w:World) (h:Heap),YP w h→(K w.params).In h)
  (F:∀(w:World) (mg:vf) (fa:Addr) (h:Heap),(K w.params).In h→h.Ns mainGlobals mg→mg d.name=some (.ref fa) →
   ∃fd:vb,(∀(s:Shared) (u:Value),BindsTo s fd ⟨[u],[]⟩ [(x,u)]) ∧
    ∀base:Heap,(K w.params).In base→base.Ns mainGlobals mg→FnOk l.prog w (K w.params) mg base (CX w) k fa fd [x] (sp w))
  (br:∀(w:World) (H:Hp) (a:Addr) (ns:List Int),ns.length≤n→aAW H→SqL (K w.params) H a (ns.map V.int)→sp w [.ref a] H (fun v _=>v=.bl true) fun _ _ _=>False)
  (hCX:∀(w:World) (H:Hp) (s:Shared) (e:Value) (s':Shared),CX w [] H s (fun _ _ _=>False) e s'→False) :
  PySem.W.WalkO q loose XP YP l.row.toRowW d [] (fun f vs=>PySem.call f vs):=by
 refine Att.xC hn o4 fun w s₀ s₁ mg mb fa o pm cd doc a vs ns G Y ho hd fg ig hobj hints hlen hg=>?_
 have KX:=hY w _ Y
 obtain⟨fd,hb,hF⟩:=F w mg fa _ KX G.T.g ig;exact JH KX G.T.g G.T.b G.T.builtins G.T.nolimit hg hobj hints (se hlen jk) hr hF hb (fun H hO hS=>br w H a ns hlen hO hS) fun H e s'=>hCX w H s₁ e s'
noncomputable def inClass(s:Stmt)(j:Nat):Stmt:=match s with
 |.ClassDef _ _ _ body _ _ _ _ _ _ _=>body.getD j (.Pass ⟨0,0,0,0⟩)
 |_=>.Pass ⟨0,0,0,0⟩
noncomputable def gB(s:Stmt):Arguments:=match s with
 |.FunctionDef _ a _ _ _ _ _ _ _ _=>a
 |_=>{ posonlyargs:=[],args:=[],vararg:=none,kwonlyargs:=[],kw_defaults:=[],kwarg:=none,defaults:=[] }
noncomputable def bR(s:Stmt):List Stmt:=match s with
 |.FunctionDef _ _ b _ _ _ _ _ _ _=>b
 |_=>[]
noncomputable def aD(s:Stmt):Scope:=match s with
 |.FunctionDef _ _ _ _ _ _ sc _ _ _=>sc
 |_=>{ kind:=.function,names:=[],isGenerator:=false,isCoroutine:=false }
abbrev kx:au:=fun _ _ _ _ _ _=>False
abbrev E0:XK:=fun _ _ _=>False
structure Fun (K:va) (x qual:Str) (st:Stmt) (f:Addr) (fd:vb):Prop where
 ex:∃(oc:Value) (od:Option Addr) (kV doc pm:Value) (an:Option Addr) (bt ct:Value) (jx:Array (Option Value)),
  fd=PySem.W.fnOf x qual (gB st) (bR st) (aD st) .none kV doc pm an bt ct∧K.lookup f=some ⟨oc,od,.func fd,jx⟩∧codeIn K bt qual=true
 kp:keepIn K (.ref f)=true
section
variable {P:vc}{w:World}{K:va}{mg:vf}{base:Heap}
theorem Fun.binds{x qual:Str}{st:Stmt}{f:Addr}{fd:vb}{ps:List Str}(F:Fun K x qual st f fd)
  (h:∀(kV doc pm:Value) (an:Option Addr) (bt ct:Value) (us:List Value),us.length=ps.length→bindArgs (PySem.W.fnOf x qual (gB st) (bR st) (aD st) .none kV doc pm an bt ct) ⟨us,[]⟩=pure (ps.zip us)):Binds K fd ps []:=by
 obtain⟨oc,od,kV,doc,pm,an,bt,ct,jx,rfl,lk,fg⟩:=F.ex;exact .all (h kV doc pm an bt ct)
end
theorem US{A:Around}{k:Nat}(hr:Room k A):A.units+1<cLine:=Nat.lt_of_le_of_lt (Nat.add_le_add_left (by decide:1≤64) _) hr.units
section
variable {X:Cx}
theorem pv(i:Nat){x:Str}{pos:Pos}(hN:X.N[i]?=some x:=by rfl)(hv:Vis X.env.scope x:=by first|exact Or.inl rfl|exact Or.inr (Or.inl rfl)|exact Or.inr (Or.inr rfl))(hd:(x == ("__debug__":Str))=false:=by decide)
  (fg:(x == ("__classdict__":Str))=false:=by decide):PE X (.Name x pos) (rH i):=lH hN hv hd fg
end
theorem oY{A B:Prop}(h:B):if false=true then A else B:=by
 rw[if_neg r8];exact h
theorem EW{A B:Prop}(h:A):if true=true then A else B:=by
 rw[if_pos rfl];exact h
theorem aEJ{c A B:Prop}[Decidable c](hc:c)(h:B):if (!decide c)=true then A else B:=by
 rw[sv hc];exact oY h
def aI(H H':Hp):Prop:=∀b o,H b=some o→H' b=some o
theorem aI.refl(H:Hp):aI H H:=fun _ _ h=>h
theorem aI.trans{H H1 H2:Hp}(a:aI H H1)(b:aI H1 H2):aI H H2:=fun c o h=>b c o (a c o h)
theorem aI.free{H H':Hp}(e:aI H H'){l:Addr}(h:H' l=Option.none):H l=Option.none:=by
 cases q:H l with
 |none=>rfl
 |some o =>
  rw[e l o q]at h;cases h
section
variable {κ:Type}[DecidableEq κ]
noncomputable def kZ(kvs:List (κ×V))(k:κ):Option V:=(kvs.find? fun kv=>decide (kv.1=k)).map (·.2)
noncomputable def putK(kvs:List (κ×V))(k:κ)(v:V):List (κ×V):=
 if (kvs.any fun kv=>decide (kv.1=k))=true then kvs.map (fun kv=>if kv.1=k then(kv.1,v) else kv) else kvs++[(k,v)]
theorem kB{p:κ×V}{r:List (κ×V)}{k:κ}(e:p.1=k):kZ (p::r) k=some p.2:=by simp[kZ,find?_cons,e]
theorem kC{p:κ×V}{r:List (κ×V)}{k:κ}(e:¬p.1=k):kZ (p::r) k=kZ r k:=by simp[kZ,find?_cons,e]
theorem uI(k:κ):∀kvs:List (κ×V),(kvs.any fun kv=>decide (kv.1=k))=(kZ kvs k).isSome
 |[]=>rfl
 |p::r=>by
  rw[any_cons]
  by_cases e:p.1=k
  ·simp only[kB e,sv e,Bool.true_or,Option.isSome_some]
  ·rw[kC e,qp e,Bool.false_or];exact uI k r
theorem mE(kvs:List (κ×V))(k:κ)(v:V):(putK kvs k v).length≤kvs.length+1:=by
 unfold putK;split
 ·rw[ql];lia
 ·rw[sk,uj,List.length_nil];lia
theorem jO.isSome_eq{o:Option V}{u:Option Value}(r:jO o u):o.isSome=u.isSome:=by
 cases o with
 |none=>cases u with
  |none=>rfl
  |some _=>exact(show False from r).elim
 |some _=>cases u with
  |none=>exact(show False from r).elim
  |some _=>rfl
theorem KV.val{kvs:List (κ×V)}{vs:List (κ×Value)}(r:KV kvs vs)(k:κ):jO (kZ kvs k) (valueAt vs k):=by
 unfold KV at r
 induction r with
 |nil=>exact True.intro
 | @cons p q ps qs h t ih =>
  obtain⟨h1,h2⟩:=h
  by_cases e:p.1=k
  ·have e':q.1=k:=h1.symm.trans e
   have b:valueAt (q::qs) k=some q.2:=by simp[valueAt,find?_cons,e']
   rw[kB e,b];exact h2
  ·have e':¬q.1=k:=fun z=>e (h1.trans z)
   have b:valueAt (q::qs) k=valueAt qs k:=by simp[valueAt,find?_cons,e']
   rw[kC e,b];exact ih
theorem KV.any{kvs:List (κ×V)}{vs:List (κ×Value)}(r:KV kvs vs)(k:κ):(kvs.any fun kv=>decide (kv.1=k))=vs.any fun kv=>decide (kv.1=k):=by
 unfold KV at r
 induction r with
 |nil=>rfl
 |cons h t ih=>rw[any_cons,any_cons,ih,h.1]
theorem KV.repl{kvs:List (κ×V)}{vs:List (κ×Value)}(r:KV kvs vs)(k:κ){y:V}{u:Value}(ry:RelV y u) :
  KV (kvs.map fun kv=>if kv.1=k then(kv.1,y) else kv) (vs.map fun kv=>if kv.1=k then(kv.1,u) else kv):=by
 unfold KV at r ⊢
 induction r with
 |nil=>exact .nil
 | @cons p q ps qs h t ih =>
  rw[su,su];refine .cons ?_ ih;obtain⟨h1,h2⟩:=h
  by_cases e:p.1=k
  ·rw[if_pos e,if_pos (h1.symm.trans e)];exact⟨h1,ry⟩
  ·rw[if_neg e,if_neg (fun z=>e (h1.trans z))];exact⟨h1,h2⟩
theorem KV.put{kvs:List (κ×V)}{vs:List (κ×Value)}(r:KV kvs vs)(k:κ){y:V}{u:Value}(ry:RelV y u):KV (putK kvs k y) (stored vs k u):=by
 unfold putK stored;rw[r.any k]
 by_cases e:(vs.any fun kv=>decide (kv.1=k))=true
 ·rw[if_pos e,if_pos e];exact r.repl k ry
 ·rw[if_neg e,if_neg e];exact Paired.snoc r ⟨rfl,ry⟩
theorem KV.length{kvs:List (κ×V)}{vs:List (κ×Value)}(r:KV kvs vs):kvs.length=vs.length:=Paired.length r
end
theorem JL{P:vc}{w:World}{k:Key}{u:Value}(r:RelV (kV k) u):(bQ P w).is k u=true:=by
 cases k with
 |inl i=>obtain⟨t,e⟩:=(show ∃t,u=Value.int i t from r);subst e;exact vL P w i t
 |inr x=>obtain⟨t,e⟩:=(show ∃t,u=Value.str x t from r);subst e;exact eU P w x t
theorem qC{P:vc}{w:World}:∀{ks:List Key} {us:List Value},aS (ks.map kV) us→ItemsAre (bQ P w) ks us
 |[],_,r=>by rw[map_nil]at r;cases r;exact .nil
 |k::ks,_,r=>by
  rw[su]at r;cases r with
  |cons h t=>exact .cons (JL h) (qC t)
abbrev KT(H:Hp):List (List Key×V)→List (List Key×Addr×Value)→Prop:=Paired fun p q=>p.1=q.1∧H q.2.1=some (.tup (p.1.map kV))∧RelV p.2 q.2.2
theorem KT.val{H:Hp}{kvs:List (List Key×V)}{xs:List (List Key×Addr×Value)}(r:KT H kvs xs)(k:List Key):jO (kZ kvs k) ((atKey xs k).map (·.2)):=by
 induction r with
 |nil=>exact True.intro
 | @cons p q ps qs h t ih =>
  obtain⟨h1,_,h2⟩:=h
  by_cases e:p.1=k
  ·have e':q.1=k:=h1.symm.trans e
   have b:atKey (q::qs) k=some q.2:=by simp[atKey,find?_cons,e']
   rw[kB e,b];exact h2
  ·have e':¬q.1=k:=fun z=>e (h1.trans z)
   have b:atKey (q::qs) k=atKey qs k:=by simp[atKey,find?_cons,e']
   rw[kC e,b];exact ih
theorem KT.repl{H:Hp}{kvs:List (List Key×V)}{xs:List (List Key×Addr×Value)}(r:KT H kvs xs)(k:List Key){y:V}{u:Value}(ry:RelV y u) :
  KT H (kvs.map fun kv=>if kv.1=k then(kv.1,y) else kv) (xs.map (putAt k u)):=by
 induction r with
 |nil=>exact .nil
 | @cons p q ps qs h t ih =>
  rw[su,su];refine .cons ?_ ih;obtain⟨h1,h2,h3⟩:=h;unfold putAt
  by_cases e:p.1=k
  ·rw[if_pos e,if_pos (h1.symm.trans e)];exact⟨h1,h2,ry⟩
  ·rw[if_neg e,if_neg (fun z=>e (h1.trans z))];exact⟨h1,h2,h3⟩
theorem KT.put{H:Hp}{kvs:List (List Key×V)}{xs:List (List Key×Addr×Value)}(r:KT H kvs xs)(k:List Key){b:Addr}{y:V}{u:Value}(hb:H b=some (.tup (k.map kV)))(ry:RelV y u) :
  KT H (putK kvs k y) (storedH xs k b u):=by
 have e:(kvs.any fun kv=>decide (kv.1=k))=(atKey xs k).isSome:=by
  rw[uI,(r.val k).isSome_eq,Option.isSome_map]
 unfold putK storedH;rw[e]
 by_cases q:(atKey xs k).isSome=true
 ·rw[if_pos q,if_pos q];exact r.repl k ry
 ·rw[if_neg q,if_neg q];exact Paired.snoc r ⟨rfl,hb,ry⟩
theorem KT.keeps{H H':Hp}{kvs:List (List Key×V)}{xs:List (List Key×Addr×Value)}(r:KT H kvs xs)(ht:∀b ys,H b=some (.tup ys)→H' b=some (.tup ys)):KT H' kvs xs:=
 Paired.mapP r fun _ _ z=>⟨z.1,ht _ _ z.2.1,z.2.2⟩
section
variable {P:vc}{w:World}{H:Hp}{h:Heap}{a:Addr}
theorem UF{u:HO}(ok:HOk P w H h)(e:Rd H a u):bZ P w H h a u:=e.ok ok
theorem KY{kvs:List (Key×V)}(ok:HOk P w H h)(e:Rd H a (.dK kvs)):kvs.length≤sizeLine∧(a == sysModules)=false∧∃vs,KV kvs vs∧h.DictOf (bQ P w) a vs:=
 show bZ P w H h a (.dK kvs) from UF ok e
theorem KZ{kvs:List (Key×V)}(ok:HOk P w H h)(e:H a=some (.dK kvs)):kvs.length≤sizeLine∧(a == sysModules)=false∧∃vs,KV kvs vs∧h.DictOf (bQ P w) a vs:=KY ok (.inl e)
theorem yL{ks:List Key}(ok:HOk P w H h)(e:H a=some (.tup (ks.map kV))):(tupleKind (bQ P w)).is h ks a:=by
 obtain⟨_,its,r,o,h1,h2,n,h3⟩:=(show bZ P w H h a (.tup (ks.map kV)) from ok a _ e)
 exact⟨o,its.toArray,n,h1,h2,h3,by simpa using qC r⟩
theorem KW{kvs:List (List Key×V)}(ok:HOk P w H h)(e:Rd H a (.dT kvs)):kvs.length≤sizeLine∧(a == sysModules)=false ∧
  ∃xs,KT H kvs xs∧h.DictOfH (tupleKind (bQ P w)) a xs:=by
 obtain⟨z,y,xs,r,o,es,ep,h1,h2,h3,h4,h5⟩:=(show bZ P w H h a (.dT kvs) from UF ok e)
 refine⟨z,y,xs,r,o,es,ep,h1,h2,h3,h4,fun x hx=>?_,h5⟩
 have all:∀{l:List (List Key×V)} {m:List (List Key×Addr×Value)},KT H l m→∀x∈m,(tupleKind (bQ P w)).is h x.1 x.2.1:=by
  intro l m q
  induction q with
  |nil=>intro x hx;exact nomatch hx
  | @cons p q ps qs hq t ih =>
   intro x hx
   rcases sg.mp hx with e|hx
   ·subst e;exact yL ok (by rw[←hq.1];exact hq.2.1)
   ·exact ih x hx
 exact all r x hx
theorem aFc{kvs:List (List Key×V)}(ok:HOk P w H h)(e:H a=some (.dT kvs)):kvs.length≤sizeLine∧(a == sysModules)=false ∧
  ∃xs,KT H kvs xs∧h.DictOfH (tupleKind (bQ P w)) a xs:=KW ok (.inl e)
end
def GB(H:Hp)(a:Addr)(y:V)(r:Option V):Prop:=
 (∃kvs k,Rd H a (.dK kvs)∧y=kV k∧r=kZ kvs k)∨∃kvs k b,Rd H a (.dT kvs)∧y=.ref b∧H b=some (.tup (k.map kV))∧r=kZ kvs k
def NP(H:Hp)(a:Addr)(y v:V)(H':Hp):Prop:=
 (∃kvs k,H a=some (.dK kvs)∧y=kV k∧kvs.length<sizeLine∧H'=upd H a (.dK (putK kvs k v))) ∨
 ∃kvs k b,H a=some (.dT kvs)∧y=.ref b∧H b=some (.tup (k.map kV))∧kvs.length<sizeLine∧H'=upd H a (.dT (putK kvs k v))
theorem GB.k{H:Hp}{a:Addr}{kvs:List (Key×V)}{k:Key}(e:H a=some (.dK kvs)):GB H a (kV k) (kZ kvs k):=.inl ⟨kvs,k,.inl e,rfl,rfl⟩
theorem NP.k{H:Hp}{a:Addr}{kvs:List (Key×V)}{k:Key}{v:V}(e:H a=some (.dK kvs))(hl:kvs.length<sizeLine):NP H a (kV k) v (upd H a (.dK (putK kvs k v))):=.inl ⟨kvs,k,e,rfl,hl,rfl⟩
section
variable {X:Cx}{pins:ve}{σ:St}{H:Hp}{s:Shared}{a:Addr}{y v:V}{u r:Value}{o:Option V}{A:Around}{E:vd}
theorem Inv.big(I:Inv X pins σ H s):sysModules<s.heap.objs.size:=by
 have h:mainGlobals<s.heap.objs.size:=(I.mod.glob.keeps I.bk).lt
 exact Nat.lt_trans (by decide) h
theorem FR{Q:vd}(hu:A.units+1<cLine)(I:Inv X pins σ H s)(g:GB H a y (some v))(ry:RelV y u)(h:∀w' s',Inv X pins σ H s'→RelV v w'→Q w' s') :
  wpAny (model X.prog X.w) A (getItem (.ref a) u) Q E s:=by
 rcases g with ⟨kvs,k,e,ey,l⟩|⟨kvs,k,b,e,ey,eb,l⟩
 ·subst ey;obtain⟨z,hd,vs,rel,dd⟩:=KY I.hok e;obtain⟨w',hw,gw⟩:=jO.some_of (v:=v) (o:=valueAt vs k) (by rw[l];exact rel.val k)
  exact wpAny_getItem_of (JL ry) dd.mapOf hw (h w' _ (I.tok _) gw)
 ·subst ey;cases (show u=Value.ref b from ry)
  obtain⟨z,hd,xs,rel,dd⟩:=KW I.hok e;obtain⟨w',hw,gw⟩:=jO.some_of (v:=v) (o:=(atKey xs k).map (·.2)) (by rw[l];exact rel.val k)
  obtain⟨p,hp,hp2⟩:=qx.mp hw;refine wpAny_getItem_heap (tupleKind_room_in1 hu) (yL I.hok eb) dd hp ?_;rw[hp2];exact h w' _ (I.tok _) gw
theorem CO{h':Heap}{t':Nat}{ob:HO}(I:Inv X pins σ H s)(mu:qa (H a))(hs:Heap.SameBut a s.heap h')(he:∃q,h'.get? a=some q)(new:bZ X.prog X.w (upd H a ob) h' a ob) :
  Inv X pins σ (upd H a ob) { s with heap:=h',toks:=t' }:=
 I.write (x:=a) (e:=a) mu (.inl rfl) (fun b q hb z=>(hs.2 b hb).trans z) he new
theorem aAB{P:vc}{w:World}{H':Hp}{h':Heap}{kvs:List (Key×V)}{vs:List (Key×Value)}(z:kvs.length≤sizeLine)(hd:(a == sysModules)=false)(rel:KV kvs vs)(dd:h'.DictOf (bQ P w) a vs) :
  bZ P w H' h' a (.dK kvs):=⟨z,hd,vs,rel,dd⟩
theorem FQ{H':Hp}{Q:Unit→Shared→Prop}(hu:A.units+1<cLine)(I:Inv X pins σ H s)(g:NP H a y v H')(ry:RelV y u)(rv:RelV v r)(h:∀s',Inv X pins σ H' s'→Q () s') :
  wpAny (model X.prog X.w) A (setItem (.ref a) u r) Q E s:=by
 rcases g with ⟨kvs,k,e,ey,l,eH⟩|⟨kvs,k,b,e,ey,eb,l,eH⟩
 ·subst ey eH;obtain⟨z,hd,vs,rel,dd⟩:=KZ I.hok e;have hz:vs.length≤sizeLine:=by rw[←rel.length];exact z
  have hl:(putK kvs k v).length≤sizeLine:=by have:=mE kvs k v;lia
  refine wpAny_setItem_pairs (hsz:=hz) (JL ry) dd fun h' my hs=>h _ ?_
  have he:∃q,h'.get? a=some q:=let ⟨q,_,_,hq,_⟩:=my;⟨q,hq⟩
  exact CO I (by rw[e];exact True.intro) hs he (aAB hl hd (rel.put k rv) my)
 ·subst ey eH;cases (show u=Value.ref b from ry)
  obtain⟨z,hd,xs,rel,dd⟩:=aFc I.hok e;have hz:xs.length≤sizeLine:=by rw[←Paired.length rel];exact z
  have hl:(putK kvs k v).length≤sizeLine:=by have:=mE kvs k v;lia
  refine wpAny_setItem_heap (hsz:=hz) (tupleKind_room_in1 hu) (yL I.hok eb) dd fun h' my hs=>h _ ?_
  obtain⟨q,es,ep,hq,h2,h3,h4,_,h5⟩:=my;refine CO I (by rw[e];exact True.intro) hs ⟨q,hq⟩ ⟨hl,hd,_,(rel.put k eb rv).keeps fun c ys ec=>?_,q,es,ep,hq,h2,h3,h4,h5⟩
  rw[aN (aEh ec e (fun z=>nomatch z))]
  exact ec
end
section
variable {X:Cx}{pins:ve}{σ:St}{H:Hp}{s:Shared}{a:Addr}{kvs:List (Key×V)}{k:Key}{u:Value}{A:Around}{E:vd}
end
def aFQ(i:Expr):Prop:=∀ov iv,subscripted i false ov iv=operate [ov,iv] (getItem ov iv)
theorem NX{prog:vc}{w:World}{A:Around}{E:vd}{s:Shared}{env:Env}{value slice:Expr}{pos:Pos}{T id:String}{Q:vd}
  (hl:typeLookup (.type T) "__getitem__" = pure (some (.builtin id))) (hs:aFQ slice)
  (h:wpAny (model prog w) A (eval value env) (fun o s₁=>wpAny (model prog w) A (eval slice env) (fun i s₂=>s₂.TypeIs o T∧wpAny (model prog w) A (getItem o i) Q E s₂) E s₁) E s) :
  wpAny (model prog w) A (eval (.Subscript value slice pos) env) Q E s:=by
 refine Subscript_ (ub h (fun o s₁ h₁=>ub h₁ (fun i s₂ h₂=>?_) fun _ _ x=>x) fun _ _ x=>x)
 obtain⟨hT,h₂⟩:=h₂;unfold subscriptTail;refine u7 ?_;rw[getitemInPython_of_ne hT.not_modules];refine u7 (wpAny_specialOf hT hl ?_);have fin:wpAny (model prog w) A (subscripted slice false o i) (fun r s₃=>wpAny (model prog w) A (letTemporaryGo value o r >>= fun _=>pure r) Q E s₃) E s₂:=by
  rw[hs o i];exact wpAny_operating (ub h₂ (fun r s₃ h₃=>u7 (wpAny_letTemporaryGo (ua h₃))) fun _ _ x=>x)
 first
  |exact ua (u7 fin)
  |exact u7 (ua (u7 fin))
  |exact u7 fin
theorem wM{X:Cx}{pins:ve}{σ:St}{H:Hp}{s:Shared}{a:Addr}{y:V}{o:Option V}(I:Inv X pins σ H s)(g:GB H a y o):s.TypeIs (.ref a) "dict":=by
 rcases g with ⟨kvs,k,e,_,_⟩|⟨kvs,k,b,e,_,_,_⟩
 ·obtain⟨_,_,vs,_,dd⟩:=KY I.hok e;exact dd.typeIs
 ·obtain⟨_,_,xs,_,dd⟩:=KW I.hok e;exact dd.typeIs
def aCa(td ty:TE):TE:=fun σ H Q=>td σ H fun x H1=>ty σ H1 fun y H2=>∃a v,x=.ref a∧GB H2 a y (some v)∧Q v H2
def aCD(td ty tv:TE):TS:=fun D σ H=>tv σ H fun v H1=>td σ H1 fun x H2=>ty σ H2 fun y H3=>∃a H4,x=.ref a∧NP H3 a y v H4∧D.nx σ H4
section
variable {X:Cx}{o i e value:Expr}{pos pos' tpos:Pos}{td ty tv:TE}
theorem QI(hu:X.A.units+1<cLine)(ho:PE X o td)(hi:PE X i ty)(hs:aFQ i):PE X (.Subscript o i pos) (aCa td ty):=by
 intro pins s σ H Q I h;refine NX PySem.F.slot_dict_getitem.lookup hs (af (ho pins s σ H _ I h) fun u s1 ⟨x,H1,I1,rx,q1⟩=>af (hi pins s1 σ H1 _ I1 q1) fun iv s2 ⟨y,H2,I2,ry,a,v,ex,g,q2⟩=>?_)
 subst ex;obtain rfl:u=Value.ref a:=rx;exact⟨wM I2 g,FR hu I2 g ry fun w' s3 I3 gw=>⟨v,H2,I3,gw,q2⟩⟩
theorem PZ(hu:X.A.units+1<cLine)(ho:PE X o td)(hi:PE X i ty)(hv:PE X value tv)(hs:swapsWith value (some (.Subscript o i pos')) pos.line X.env=pure false) :
  PS X (.Assign [.Subscript o i pos'] value pos) (aCD td ty tv):=by
 intro pins s σ H D I h;refine wpAny_Assign_Subscript (af (hv pins s σ H _ I h) fun r s1 ⟨v,H1,I1,rv,q1⟩=>af (ho pins s1 σ H1 _ I1 q1) fun u s2 ⟨x,H2,I2,rx,q2⟩=>af (hi pins s2 σ H2 _ I2 q2) fun iv s3 ⟨y,H3,I3,ry,a,H4,ex,g,q3⟩=>?_) hs
 subst ex;obtain rfl:u=Value.ref a:=rx;exact FQ hu I3 g ry rv fun s4 I4=>⟨σ,H4,I4,q3⟩
end
theorem LA{P:vc}{w:World}{H:Hp}(h:Heap)(hb:sysModules<h.objs.size):bZ P w H (h.push { cls:=.type "dict",data:=.dict #[] }) h.objs.size (.dK []):=
 ⟨uw _,tf.mpr (Ne.symm (tj hb)),[],.nil,Heap.DictOf.new h⟩
def WM:TE:=fun _ H Q=>∀p,H p=none→Q (.ref p) (upd H p (.dK []))
section
variable {X:Cx}{pos:Pos}
theorem HY:PE X (.Dict [] [] pos) WM:=fun pins s σ H Q I h =>
 wpAny_Dict_empty ⟨.ref s.heap.objs.size,_,I.laid (a:=s.heap.objs.size) (o:=.dK []) (t':=s.toks) (fun _ _ q=>qq _ q) (qm _) (LA s.heap I.big),rfl,h _ (I.hok.fresh (qm _))⟩
end
structure M1 (X:Cx) (o:Expr) (m:Str) (apos:Pos) (e:Expr) (bo:Pos):Prop where
 base:attributeBase o m X.env (eval o X.env)=eval o X.env
 few:((backTo bo (starEach [e] X.env)).all (fun x=>!x.1)&&(backToKw bo (keywordEach [] X.env)).all (fun x=>x.1.isSome)
  && decide (([e]:List Expr).length+([]:List Keyword).length+(if ([]:List Keyword).isEmpty then 0 else 1)<30))=true
 line:(apos.endLine == bo.line)=true
 trees:backTo bo (starEach [e] X.env)=[(false,eval e X.env)]
structure M2 (X:Cx) (o:Expr) (m:Str) (apos:Pos) (e f:Expr) (bo:Pos):Prop where
 base:attributeBase o m X.env (eval o X.env)=eval o X.env
 few:((backTo bo (starEach [e,f] X.env)).all (fun x=>!x.1)&&(backToKw bo (keywordEach [] X.env)).all (fun x=>x.1.isSome)
  && decide (([e,f]:List Expr).length+([]:List Keyword).length+(if ([]:List Keyword).isEmpty then 0 else 1)<30))=true
 line:(apos.endLine == bo.line)=true
 trees:backTo bo (starEach [e,f] X.env)=[(false,eval e X.env),(false,eval f X.env)]
section
variable {X:Cx}{pins:ve}{σ:St}{H:Hp}{s:Shared}{a:Addr}{y d:V}{u r:Value}{o:Option V}{A:Around}{E:vd}
end
section
variable {X:Cx}{o e f:Expr}{apos bo:Pos}{td ty tx:TE}
end
section
variable {X:Cx}{pins:ve}{σ:St}{H:Hp}{s:Shared}{a:Addr}{kvs:List (Key×V)}{A:Around}{E:vd}
end
section
variable {X:Cx}{pins:ve}{σ:St}{H:Hp}{s:Shared}{a:Addr}{y:V}{u:Value}{A:Around}{E:vd}
end
end L2
namespace Att
open PySem PySem.W PySem.Calls PyProof.Rows
end Att
namespace L2
open PySem PySem.Spec PyProof.Rows
section
variable {X:Cx}
end
section
variable {κ:Type}[DecidableEq κ]
end
end L2
namespace Toy
open PySem L2
open PySem.W (fnOf)
noncomputable def top(i:Nat):Stmt:=PySem.Challenge.pw_leaffold_k10_pages.main.body.getD i (.Pass ⟨0,0,0,0⟩)
noncomputable def dF(n q:Str)(s:Stmt)(m:Str)(t c:Nat):vb:=fnOf n q (L2.gB s) (L2.bR s) (L2.aD s) .none .none .none (.str m t) none (.ref c) .none
noncomputable def oF(f:vb):Obj:=⟨.type "function",none,.func f,#[]⟩
noncomputable def oC(x:Array Value):Obj:=⟨.type "code",none,.fields x,#[]⟩
noncomputable def en(P:Params)(x:Str)(t:Nat)(v:Value):DictEntry:=⟨PyData.keyHash P x,.str x t,v⟩
noncomputable def j(i:Int):Value:=.int i 0
noncomputable def l(a:Nat):Value:=.ref a
noncomputable def cF(t:Nat):Value:=.str "/claim/cut.py" t
noncomputable def yY:vb:=dF "__init__" "Pile.__init__" (L2.inClass (top 15) 0) "leaffold.piles" 335 139
noncomputable def sM:vb:=dF "heap" "Pile.heap" (L2.inClass (top 15) 1) "leaffold.piles" 335 146
noncomputable def sL:vb:=dF "laid" "laid" (top 16) "leaffold.piles" 335 165
noncomputable def sR:vb:=dF "laid_row" "laid_row" (top 17) "leaffold.piles" 335 170
noncomputable def sO:vb:=dF "folded" "folded" (top 18) "leaffold.piles" 335 177
noncomputable def BH:vb:=dF "refuse_severed" "refuse_severed" (top 19) "leaffold.piles" 335 184
noncomputable def sV:vb:=dF "has_crease" "has_crease" (top 20) "leaffold.piles" 335 191
noncomputable def AY:vb:=dF "folded_table" "folded_table" (top 21) "leaffold.piles" 335 196
noncomputable def sY:vb:=dF "transposed" "transposed" (top 22) "leaffold.piles" 335 201
noncomputable def sS:vb:=dF "column_of" "column_of" (top 23) "leaffold.piles" 335 206
noncomputable def AX:vb:=dF "folded_strip" "folded_strip" (top 24) "leaffold.piles" 335 213
noncomputable def tJ:vb:=dF "turned_part" "turned_part" (top 25) "leaffold.piles" 335 218
noncomputable def tH:vb:=dF "turned_heap" "turned_heap" (top 26) "leaffold.piles" 335 223
noncomputable def BD:vb:=dF "laid_together" "laid_together" (top 27) "leaffold.piles" 335 228
noncomputable def sQ:vb:=dF "heap_at" "heap_at" (top 28) "leaffold.piles" 335 235
noncomputable def sP:vb:=dF "joints" "joints" (top 30) "leaffold.joints" 500 240
noncomputable def tF:vb:=dF "all_joints" "all_joints" (top 31) "leaffold.joints" 500 247
noncomputable def sW:vb:=dF "neighbours" "neighbours" (top 32) "leaffold.joints" 500 254
noncomputable def sX:vb:=dF "edge_lines" "edge_lines" (top 33) "leaffold.joints" 500 261
noncomputable def sJ:vb:=dF "cut" "cut" (top 34) "leaffold.joints" 500 266
noncomputable def sN:vb:=dF "pages" "pages" (top 37) "leaffold.books" 550 276
noncomputable def BG:vb:=dF "refuse_unbound" "refuse_unbound" (top 38) "leaffold.books" 550 283
noncomputable def BE:vb:=dF "upright_pages" "upright_pages" (top 39) "leaffold.books" 550 290
noncomputable def tM:vb:=dF "_law_cell_at" "_law_cell_at" (top 41) "law_leaffold_k10_pages" 593 297
noncomputable def sZ:vb:=dF "_law_whole" "_law_whole" (top 42) "law_leaffold_k10_pages" 593 304
noncomputable def BC:vb:=dF "_law_sheet_by" "_law_sheet_by" (top 43) "law_leaffold_k10_pages" 593 311
noncomputable def BA:vb:=dF "_law_fold_by" "_law_fold_by" (top 44) "law_leaffold_k10_pages" 593 318
noncomputable def sT:vb:=dF "_law_shut" "_law_shut" (top 45) "law_leaffold_k10_pages" 593 325
noncomputable def tK:vb:=dF "_law_leaves" "_law_leaves" (top 46) "law_leaffold_k10_pages" 593 330
noncomputable def tG:vb:=dF "_law_faces" "_law_faces" (top 47) "law_leaffold_k10_pages" 593 337
noncomputable def BB:vb:=dF "_law_word_of" "_law_word_of" (top 48) "law_leaffold_k10_pages" 593 344
noncomputable def tL:vb:=dF "_law_prints" "_law_prints" (top 49) "law_leaffold_k10_pages" 593 351
noncomputable def sU:vb:=dF "_law_read" "_law_read" (top 50) "law_leaffold_k10_pages" 593 358
noncomputable def AZ:vb:=dF "_law_refused" "_law_refused" (top 51) "law_leaffold_k10_pages" 593 365
noncomputable def nX:vb:=dF "law" "law" (top 52) "law_leaffold_k10_pages" 593 372
noncomputable def KK(P:Params):va:=[(3,⟨(.type "dict"),none,(.dict #[en P "__name__" 165 (.str "law_leaffold_k10_pages" 593),en P "__doc__" 166 .none,en P "__package__" 167 .none,en P "__loader__" 168 (.builtin "__main__.__loader__#opaque"),en P "__spec__" 169 .none,en P "__annotations__" 170 (.ref 6),en P "__builtins__" 171 (.ref 4),en P "__file__" 173 (cF 172),en P "__cached__" 174 .none,en P "LeafError" 206 (.ref 24),en P "NoSheet" 222 (.ref 37),en P "NoFold" 238 (.ref 49),en P "NoPlace" 254 (.ref 61),en P "Ajar" 270 (.ref 73),en P "Severed" 286 (.ref 85),en P "Bolted" 302 (.ref 97),en P "Loose" 318 (.ref 109),en P "NoWord" 334 (.ref 121),en P "MOST_CELLS" 338 (.int 64 337),en P "UPRIGHT_SIDES" 341 (.ref 124),en P "LEVEL_SIDES" 344 (.ref 125),en P "NEAR_SIDES" 347 (.ref 126),en P "Pile" 402 (.ref 157),en P "laid" 408 (.ref 166),en P "laid_row" 414 (.ref 171),en P "folded" 426 (.ref 178),en P "refuse_severed" 433 (.ref 185),en P "has_crease" 442 (.ref 192),en P "folded_table" 448 (.ref 197),en P "transposed" 454 (.ref 202),en P "column_of" 460 (.ref 207),en P "folded_strip" 473 (.ref 214),en P "turned_part" 479 (.ref 219),en P "turned_heap" 485 (.ref 224),en P "laid_together" 491 (.ref 229),en P "heap_at" 499 (.ref 236),en P "joints" 507 (.ref 241),en P "all_joints" 519 (.ref 248),en P "neighbours" 530 (.ref 255),en P "edge_lines" 543 (.ref 262),en P "cut" 549 (.ref 267),en P "SPINE_LINES" 564 (.ref 268),en P "pages" 570 (.ref 277),en P "refuse_unbound" 578 (.ref 284),en P "upright_pages" 592 (.ref 291),en P "_law_cell_at" 602 (.ref 298),en P "_law_whole" 609 (.ref 305),en P "_law_sheet_by" 618 (.ref 312),en P "_law_fold_by" 630 (.ref 319),en P "_law_shut" 643 (.ref 326),en P "_law_leaves" 649 (.ref 331),en P "_law_faces" 663 (.ref 338),en P "_law_word_of" 671 (.ref 345),en P "_law_prints" 682 (.ref 352),en P "_law_read" 695 (.ref 359),en P "_law_refused" 705 (.ref 366),en P "law" 723 (.ref 373)] 57),#[]⟩),
 (23,⟨(.type "dict"),none,(.dict #[en P "__module__" 196 (.str "leaffold.errors" 187),en P "__firstlineno__" 200 (.int 2 199),en P "__static_attributes__" 201 (.ref 22),en P "__weakref__" 203 (.ref 25),en P "__doc__" 204 .none] 3),#[]⟩),
 (24,⟨(.type "type"),none,(.cls ⟨"LeafError",[(.type "ValueError")],[(.ref 24),(.type "ValueError"),(.type "Exception"),(.type "BaseException"),(.type "object")],23,"LeafError",true,[],[(.ref 37),(.ref 49),(.ref 61),(.ref 73),(.ref 85),(.ref 97),(.ref 109),(.ref 121)],false,none,false⟩),#[(some (.ref 15)),none,(some (.str "LeafError" 189)),(some (.str "LeafError" 197)),(some (.builtin "ValueError.__new__")),(some (.bool true))]⟩),
 (36,⟨(.type "dict"),none,(.dict #[en P "__module__" 214 (.str "leaffold.errors" 187),en P "__firstlineno__" 218 (.int 4 217),en P "__static_attributes__" 219 (.ref 35),en P "__doc__" 220 .none] 2),#[]⟩),
 (37,⟨(.type "type"),none,(.cls ⟨"NoSheet",[(.ref 24)],[(.ref 37),(.ref 24),(.type "ValueError"),(.type "Exception"),(.type "BaseException"),(.type "object")],36,"NoSheet",true,[],[],false,none,false⟩),#[(some (.ref 28)),none,(some (.str "NoSheet" 207)),(some (.str "NoSheet" 215)),(some (.builtin "ValueError.__new__")),(some (.bool true))]⟩),
 (48,⟨(.type "dict"),none,(.dict #[en P "__module__" 230 (.str "leaffold.errors" 187),en P "__firstlineno__" 234 (.int 6 233),en P "__static_attributes__" 235 (.ref 47),en P "__doc__" 236 .none] 2),#[]⟩),
 (49,⟨(.type "type"),none,(.cls ⟨"NoFold",[(.ref 24)],[(.ref 49),(.ref 24),(.type "ValueError"),(.type "Exception"),(.type "BaseException"),(.type "object")],48,"NoFold",true,[],[],false,none,false⟩),#[(some (.ref 40)),none,(some (.str "NoFold" 223)),(some (.str "NoFold" 231)),(some (.builtin "ValueError.__new__")),(some (.bool true))]⟩),
 (60,⟨(.type "dict"),none,(.dict #[en P "__module__" 246 (.str "leaffold.errors" 187),en P "__firstlineno__" 250 (.int 8 249),en P "__static_attributes__" 251 (.ref 59),en P "__doc__" 252 .none] 2),#[]⟩),
 (61,⟨(.type "type"),none,(.cls ⟨"NoPlace",[(.ref 24)],[(.ref 61),(.ref 24),(.type "ValueError"),(.type "Exception"),(.type "BaseException"),(.type "object")],60,"NoPlace",true,[],[],false,none,false⟩),#[(some (.ref 52)),none,(some (.str "NoPlace" 239)),(some (.str "NoPlace" 247)),(some (.builtin "ValueError.__new__")),(some (.bool true))]⟩),
 (72,⟨(.type "dict"),none,(.dict #[en P "__module__" 262 (.str "leaffold.errors" 187),en P "__firstlineno__" 266 (.int 10 265),en P "__static_attributes__" 267 (.ref 71),en P "__doc__" 268 .none] 2),#[]⟩),
 (73,⟨(.type "type"),none,(.cls ⟨"Ajar",[(.ref 24)],[(.ref 73),(.ref 24),(.type "ValueError"),(.type "Exception"),(.type "BaseException"),(.type "object")],72,"Ajar",true,[],[],false,none,false⟩),#[(some (.ref 64)),none,(some (.str "Ajar" 255)),(some (.str "Ajar" 263)),(some (.builtin "ValueError.__new__")),(some (.bool true))]⟩),
 (84,⟨(.type "dict"),none,(.dict #[en P "__module__" 278 (.str "leaffold.errors" 187),en P "__firstlineno__" 282 (.int 12 281),en P "__static_attributes__" 283 (.ref 83),en P "__doc__" 284 .none] 2),#[]⟩),
 (85,⟨(.type "type"),none,(.cls ⟨"Severed",[(.ref 24)],[(.ref 85),(.ref 24),(.type "ValueError"),(.type "Exception"),(.type "BaseException"),(.type "object")],84,"Severed",true,[],[],false,none,false⟩),#[(some (.ref 76)),none,(some (.str "Severed" 271)),(some (.str "Severed" 279)),(some (.builtin "ValueError.__new__")),(some (.bool true))]⟩),
 (96,⟨(.type "dict"),none,(.dict #[en P "__module__" 294 (.str "leaffold.errors" 187),en P "__firstlineno__" 298 (.int 14 297),en P "__static_attributes__" 299 (.ref 95),en P "__doc__" 300 .none] 2),#[]⟩),
 (97,⟨(.type "type"),none,(.cls ⟨"Bolted",[(.ref 24)],[(.ref 97),(.ref 24),(.type "ValueError"),(.type "Exception"),(.type "BaseException"),(.type "object")],96,"Bolted",true,[],[],false,none,false⟩),#[(some (.ref 88)),none,(some (.str "Bolted" 287)),(some (.str "Bolted" 295)),(some (.builtin "ValueError.__new__")),(some (.bool true))]⟩),
 (108,⟨(.type "dict"),none,(.dict #[en P "__module__" 310 (.str "leaffold.errors" 187),en P "__firstlineno__" 314 (.int 16 313),en P "__static_attributes__" 315 (.ref 107),en P "__doc__" 316 .none] 2),#[]⟩),
 (109,⟨(.type "type"),none,(.cls ⟨"Loose",[(.ref 24)],[(.ref 109),(.ref 24),(.type "ValueError"),(.type "Exception"),(.type "BaseException"),(.type "object")],108,"Loose",true,[],[],false,none,false⟩),#[(some (.ref 100)),none,(some (.str "Loose" 303)),(some (.str "Loose" 311)),(some (.builtin "ValueError.__new__")),(some (.bool true))]⟩),
 (120,⟨(.type "dict"),none,(.dict #[en P "__module__" 326 (.str "leaffold.errors" 187),en P "__firstlineno__" 330 (.int 18 329),en P "__static_attributes__" 331 (.ref 119),en P "__doc__" 332 .none] 2),#[]⟩),
 (121,⟨(.type "type"),none,(.cls ⟨"NoWord",[(.ref 24)],[(.ref 121),(.ref 24),(.type "ValueError"),(.type "Exception"),(.type "BaseException"),(.type "object")],120,"NoWord",true,[],[],false,none,false⟩),#[(some (.ref 112)),none,(some (.str "NoWord" 319)),(some (.str "NoWord" 327)),(some (.builtin "ValueError.__new__")),(some (.bool true))]⟩),
 (124,⟨(.type "tuple"),none,(.seq #[(.str "west" 339),(.str "east" 340)] 0),#[]⟩),
 (125,⟨(.type "tuple"),none,(.seq #[(.str "north" 342),(.str "south" 343)] 0),#[]⟩),
 (126,⟨(.type "tuple"),none,(.seq #[(.str "west" 345),(.str "north" 346)] 0),#[]⟩),
 (139,oC #[.str "__init__" 360,.str "Pile.__init__" 361,cF 362,j 27,j 6,j 0,j 0,j 3,l 134,(.bool true),j 181,l 135,.none,l 136,l 137,l 138,j 369,j 27,cF 370]),
 (140,oF yY),
 (146,oC #[.str "heap" 372,.str "Pile.heap" 373,cF 374,j 36,j 3,j 0,j 0,j 3,l 141,(.bool true),j 181,l 142,.none,l 143,l 144,l 145,j 378,j 36,cF 379]),
 (147,oF sM),
 (156,⟨(.type "dict"),none,(.dict #[en P "__module__" 355 (.str "leaffold.piles" 335),en P "__firstlineno__" 359 (.int 25 358),en P "__init__" 371 (.ref 140),en P "heap" 380 (.ref 147),en P "done" 387 (.ref 154),en P "__static_attributes__" 395 (.ref 155),en P "__dict__" 397 (.ref 158),en P "__weakref__" 399 (.ref 159),en P "__doc__" 400 .none] 4),#[]⟩),
 (157,⟨(.type "type"),none,(.cls ⟨"Pile",[(.type "object")],[(.ref 157),(.type "object")],156,"Pile",true,[],[],false,none,false⟩),#[none,none,(some (.str "Pile" 348)),(some (.str "Pile" 356)),(some (.builtin "object.__new__")),(some (.bool true))]⟩),
 (165,oC #[.str "laid" 403,.str "laid" 404,cF 405,j 43,j 2,j 0,j 0,j 3,l 162,(.bool true),j 181,l 163,.none,.none,.none,l 164,j 406,j 43,cF 407]),
 (166,oF sL),
 (170,oC #[.str "laid_row" 409,.str "laid_row" 410,cF 411,j 48,j 2,j 0,j 0,j 3,l 167,(.bool true),j 181,l 168,.none,.none,.none,l 169,j 412,j 48,cF 413]),
 (171,oF sR),
 (177,oC #[.str "folded" 415,.str "folded" 416,cF 417,j 50,j 4,j 0,j 0,j 3,l 172,(.bool true),j 181,l 173,.none,l 174,l 175,l 176,j 424,j 50,cF 425]),
 (178,oF sO),
 (184,oC #[.str "refuse_severed" 427,.str "refuse_severed" 428,cF 429,j 57,j 1,j 0,j 0,j 3,l 179,(.bool true),j 181,l 180,.none,l 181,l 182,l 183,j 431,j 57,cF 432]),
 (185,oF BH),
 (191,oC #[.str "has_crease" 434,.str "has_crease" 435,cF 436,j 60,j 3,j 0,j 0,j 3,l 186,(.bool true),j 181,l 187,.none,l 188,l 189,l 190,j 440,j 60,cF 441]),
 (192,oF sV),
 (196,oC #[.str "folded_table" 443,.str "folded_table" 444,cF 445,j 66,j 4,j 0,j 0,j 3,l 193,(.bool true),j 181,l 194,.none,.none,.none,l 195,j 446,j 66,cF 447]),
 (197,oF AY),
 (201,oC #[.str "transposed" 449,.str "transposed" 450,cF 451,j 71,j 1,j 0,j 0,j 3,l 198,(.bool true),j 181,l 199,.none,.none,.none,l 200,j 452,j 71,cF 453]),
 (202,oF sY),
 (206,oC #[.str "column_of" 455,.str "column_of" 456,cF 457,j 73,j 2,j 0,j 0,j 3,l 203,(.bool true),j 181,l 204,.none,.none,.none,l 205,j 458,j 73,cF 459]),
 (207,oF sS),
 (213,oC #[.str "folded_strip" 461,.str "folded_strip" 462,cF 463,j 75,j 4,j 0,j 0,j 3,l 208,(.bool true),j 181,l 209,.none,l 210,l 211,l 212,j 471,j 75,cF 472]),
 (214,oF AX),
 (218,oC #[.str "turned_part" 474,.str "turned_part" 475,cF 476,j 82,j 2,j 0,j 0,j 3,l 215,(.bool true),j 181,l 216,.none,.none,.none,l 217,j 477,j 82,cF 478]),
 (219,oF tJ),
 (223,oC #[.str "turned_heap" 480,.str "turned_heap" 481,cF 482,j 84,j 2,j 0,j 0,j 3,l 220,(.bool true),j 181,l 221,.none,.none,.none,l 222,j 483,j 84,cF 484]),
 (224,oF tH),
 (228,oC #[.str "laid_together" 486,.str "laid_together" 487,cF 488,j 88,j 3,j 0,j 0,j 3,l 225,(.bool true),j 181,l 226,.none,.none,.none,l 227,j 489,j 88,cF 490]),
 (229,oF BD),
 (235,oC #[.str "heap_at" 492,.str "heap_at" 493,cF 494,j 93,j 2,j 0,j 0,j 3,l 230,(.bool true),j 181,l 231,.none,l 232,l 233,l 234,j 497,j 93,cF 498]),
 (236,oF sQ),
 (240,oC #[.str "joints" 502,.str "joints" 503,cF 504,j 96,j 1,j 0,j 0,j 3,l 237,(.bool true),j 181,l 238,.none,.none,.none,l 239,j 505,j 96,cF 506]),
 (241,oF sP),
 (247,oC #[.str "all_joints" 508,.str "all_joints" 509,cF 510,j 98,j 1,j 0,j 0,j 3,l 242,(.bool true),j 181,l 243,.none,l 244,l 245,l 246,j 517,j 98,cF 518]),
 (248,oF tF),
 (254,oC #[.str "neighbours" 520,.str "neighbours" 521,cF 522,j 104,j 2,j 0,j 0,j 3,l 249,(.bool true),j 181,l 250,.none,l 251,l 252,l 253,j 528,j 104,cF 529]),
 (255,oF sW),
 (261,oC #[.str "edge_lines" 531,.str "edge_lines" 532,cF 533,j 113,j 1,j 0,j 0,j 3,l 256,(.bool true),j 181,l 257,.none,l 258,l 259,l 260,j 541,j 113,cF 542]),
 (262,oF sX),
 (266,oC #[.str "cut" 544,.str "cut" 545,cF 546,j 120,j 3,j 0,j 0,j 3,l 263,(.bool true),j 181,l 264,.none,.none,.none,l 265,j 547,j 120,cF 548]),
 (267,oF sJ),
 (268,⟨(.type "dict"),none,(.dict #[en P "west" 552 (.ref 269),en P "east" 554 (.ref 270),en P "north" 556 (.ref 271),en P "south" 558 (.ref 272)] 4),#[]⟩),
 (269,⟨(.type "tuple"),none,(.seq #[(.bool false),(.int 0 553)] 0),#[]⟩),
 (270,⟨(.type "tuple"),none,(.seq #[(.bool false),(.int 1 555)] 0),#[]⟩),
 (271,⟨(.type "tuple"),none,(.seq #[(.bool true),(.int 0 557)] 0),#[]⟩),
 (272,⟨(.type "tuple"),none,(.seq #[(.bool true),(.int 1 559)] 0),#[]⟩),
 (276,oC #[.str "pages" 565,.str "pages" 566,cF 567,j 128,j 3,j 0,j 0,j 3,l 273,(.bool true),j 181,l 274,.none,.none,.none,l 275,j 568,j 128,cF 569]),
 (277,oF sN),
 (283,oC #[.str "refuse_unbound" 571,.str "refuse_unbound" 572,cF 573,j 131,j 2,j 0,j 0,j 3,l 278,(.bool true),j 181,l 279,.none,l 280,l 281,l 282,j 576,j 131,cF 577]),
 (284,oF BG),
 (290,oC #[.str "upright_pages" 579,.str "upright_pages" 580,cF 581,j 136,j 2,j 0,j 0,j 3,l 285,(.bool true),j 181,l 286,.none,l 287,l 288,l 289,j 590,j 136,cF 591]),
 (291,oF BE),
 (297,oC #[.str "_law_cell_at" 595,.str "_law_cell_at" 596,cF 597,j 145,j 2,j 0,j 0,j 3,l 292,(.bool true),j 181,l 293,.none,l 294,l 295,l 296,j 600,j 145,cF 601]),
 (298,oF tM),
 (304,oC #[.str "_law_whole" 603,.str "_law_whole" 604,cF 605,j 149,j 1,j 0,j 0,j 3,l 299,(.bool true),j 181,l 300,.none,l 301,l 302,l 303,j 607,j 149,cF 608]),
 (305,oF sZ),
 (311,oC #[.str "_law_sheet_by" 610,.str "_law_sheet_by" 611,cF 612,j 151,j 1,j 0,j 0,j 3,l 306,(.bool true),j 181,l 307,.none,l 308,l 309,l 310,j 616,j 151,cF 617]),
 (312,oF BC),
 (318,oC #[.str "_law_fold_by" 619,.str "_law_fold_by" 620,cF 621,j 163,j 3,j 0,j 0,j 3,l 313,(.bool true),j 181,l 314,.none,l 315,l 316,l 317,j 628,j 163,cF 629]),
 (319,oF BA),
 (325,oC #[.str "_law_shut" 631,.str "_law_shut" 632,cF 633,j 168,j 3,j 0,j 0,j 3,l 320,(.bool true),j 181,l 321,.none,l 322,l 323,l 324,j 641,j 168,cF 642]),
 (326,oF sT),
 (330,oC #[.str "_law_leaves" 644,.str "_law_leaves" 645,cF 646,j 176,j 2,j 0,j 0,j 3,l 327,(.bool true),j 181,l 328,.none,.none,.none,l 329,j 647,j 176,cF 648]),
 (331,oF tK),
 (337,oC #[.str "_law_faces" 650,.str "_law_faces" 651,cF 652,j 190,j 2,j 0,j 0,j 3,l 332,(.bool true),j 181,l 333,.none,l 334,l 335,l 336,j 661,j 190,cF 662]),
 (338,oF tG),
 (344,oC #[.str "_law_word_of" 664,.str "_law_word_of" 665,cF 666,j 200,j 1,j 0,j 0,j 3,l 339,(.bool true),j 181,l 340,.none,l 341,l 342,l 343,j 669,j 200,cF 670]),
 (345,oF BB),
 (351,oC #[.str "_law_prints" 672,.str "_law_prints" 673,cF 674,j 206,j 2,j 0,j 0,j 3,l 346,(.bool true),j 181,l 347,.none,l 348,l 349,l 350,j 680,j 206,cF 681]),
 (352,oF tL),
 (358,oC #[.str "_law_read" 683,.str "_law_read" 684,cF 685,j 212,j 3,j 0,j 0,j 3,l 353,(.bool true),j 181,l 354,.none,l 355,l 356,l 357,j 693,j 212,cF 694]),
 (359,oF sU),
 (365,oC #[.str "_law_refused" 696,.str "_law_refused" 697,cF 698,j 223,j 3,j 0,j 0,j 3,l 360,(.bool true),j 181,l 361,.none,l 362,l 363,l 364,j 703,j 223,cF 704]),
 (366,oF AZ),
 (372,oC #[.str "law" 706,.str "law" 707,cF 708,j 229,j 1,j 0,j 0,j 3,l 367,(.bool true),j 181,l 368,.none,l 369,l 370,l 371,j 721,j 229,cF 722]),
 (373,oF nX)]
noncomputable def aas:List Addr:=[3,23,24,36,37,48,49,60,61,72,73,84,85,96,97,108,109,120,121,124,125,126,139,140,146,147,156,157,165,166,170,171,177,178,184,185,191,192,196,197,201,202,206,207,213,214,218,219,223,224,228,229,235,236,240,241,247,248,254,255,261,262,266,267,268,269,270,271,272,276,277,283,284,290,291,297,298,304,305,311,312,318,319,325,326,330,331,337,338,344,345,351,352,358,359,365,366,372,373]
theorem aEI:∀P,aas=(KK P).map (·.1):=fun _=>by kernel_rfl
abbrev lw:PySem.W.OpenLaw:=PySem.Challenge.rw_leaffold_k10_pages
abbrev HH:PySem.W.Hook:=PySem.W.kHook KK aas aEI
open PySem.W PyProof.Rows
noncomputable def vw:vc:=view lw.prog [1,2,3,4,5,6,7,8,9,11,12,13,14,15,16,17,18,19,20,21,22,23,24,25,26,27,28,30,31,32,33,34,36,37,38,39,41,42,43,44,45,46,47,48,49,50,51,52]
abbrev Xt(s:Shared):Bool:=xlAt vw [] s&&recOk (RowW.records (OpenRow.toRowW (OpenLaw.row lw))) s
set_option maxHeartbeats 0 in
theorem rU{p q:vc}{loose:List Str}{Xt:Shared→Bool}{α:Type}{Yf:Shared→α}{Ya:World→α}{N:Nat}{g0:Bool}(open_:∀w:World,(fencedOpening treeTable p w N).map (fun s=>(s.heap,s.gens,s.drawn,s.toks))=some (boot_heap w.params,Array.mk [],boot_drawn,boot_toks))
  (h:∀(w:World) (os:OsState),(topFrom treeTable p w N ⟨boot_heap w.params,Array.mk [],boot_drawn,boot_toks,os⟩).map (fun s=>(openSeen q loose (importedModules p.main.body) Xt g0 s,Yf s))=some (openGood q loose,Ya w)):LeftO p q loose Xt Yf Ya N g0:=fun w=>by
 obtain⟨⟨hp,gs,d,k,os⟩,e,e'⟩:=qx.mp (open_ w);obtain⟨rfl,rfl,rfl,rfl⟩:hp=boot_heap w.params∧gs=Array.mk []∧d=boot_drawn∧k=boot_toks:=by simpa using e'
 unfold openEnds;rw[e];exact h w os
set_option maxHeartbeats 0 in
theorem aEE(w:World)(os:OsState):(topFrom treeTable lw.prog (w.withFollow "special-get-raises" false) 6842 ⟨boot_heap (w.withFollow "special-get-raises" false).params,Array.mk [],boot_drawn,boot_toks,os⟩).map (fun s=>(openSeen vw (["SPINE_LINES"]:List Str) (importedModules lw.prog.main.body) Xt true s,Hook.obs HH s))=some (openGood vw (["SPINE_LINES"]:List Str),Hook.val HH (w.withFollow "special-get-raises" false)):=by
 unfold topFrom
 rewrite[Fast.te14082659384304107361,Fast.te4187177175401517315]
 kernel_rfl
set_option maxHeartbeats 0 in
theorem aED(w:World)(os:OsState):(topFrom treeTable lw.prog (w.withFollow "special-get-raises" true) 6842 ⟨boot_heap (w.withFollow "special-get-raises" true).params,Array.mk [],boot_drawn,boot_toks,os⟩).map (fun s=>(openSeen vw (["SPINE_LINES"]:List Str) (importedModules lw.prog.main.body) Xt true s,Hook.obs HH s))=some (openGood vw (["SPINE_LINES"]:List Str),Hook.val HH (w.withFollow "special-get-raises" true)):=by
 unfold topFrom
 rewrite[Fast.te14082659384304107361,Fast.te4187177175401517315]
 kernel_rfl
theorem left:LeftO lw.prog vw (["SPINE_LINES"]:List Str) Xt (Hook.obs HH) (Hook.val HH) 6842:=by
 refine rU (boot_open rfl rfl fun s=>rfl) fun w os=>?_
 have e:=World.withFollow_self w "special-get-raises"
 cases hb:w.params.followText "special-get-raises" with
 |false =>
  rw[hb]at e;have h:=aEE w os
  rw[e]at h;exact h
 |true =>
  rw[hb]at e;have h:=aED w os
  rw[e]at h;exact h
end Toy
namespace Z
open PySem
inductive D where
 |non
 |bl (b:Bool)
 |int (i:Int)
 |str (x:Str)
 |lst (xs:List D)
 |tup (xs:List D)
 |obj (c:Str) (fs:List (Str×D))
 |exc (c:Str)
 |dct (kvs:List (Int×D))
 |frz (xs:List D)
noncomputable def dQ(kvs:List (Int×D))(k:Int):Option D:=(kvs.find? fun kv=>decide (kv.1=k)).map (·.2)
noncomputable def lF(kvs:List (Int×D))(k:Int)(d:D):List (Int×D):=if kvs.any (fun kv=>decide (kv.1=k)) then kvs.map (fun kv=>if kv.1=k then(kv.1,d) else kv) else kvs++[(k,d)]
inductive Lit where
 |non|bl (b:Bool)|int (i:Int)|str (x:Str)
noncomputable def Lit.d:Lit→D
 |.non=>.non
 |.bl b=>.bl b
 |.int i=>.int i
 |.str x=>.str x
inductive Rs where
 |ok (d:D)
 |er (c:Str)
mutual
noncomputable def b6:D→D→Bool
 |.non,.non=>true
 |.bl a,.bl b=>a == b
 |.bl a,.int b=>(if a then 1 else 0) == b
 |.int a,.bl b=>a == (if b then 1 else 0)
 |.int a,.int b=>a == b
 |.str a,.str b=>a == b
 |.lst a,.lst b=>jX a b
 |.tup a,.tup b=>jX a b
 |_,_=>false
noncomputable def jX:List D→List D→Bool
 |[],[]=>true
 |x::xs,y::ys=>b6 x y&&jX xs ys
 |_,_=>false
end
noncomputable def okS(x:Str):Bool:=x.cps.all (· < 0x110000)
noncomputable def flat:Nat→D→Bool
 |_,.non=>true
 |_,.bl _=>true
 |_,.int _=>true
 |_,.str x=>okS x
 |n+1,.lst xs=>xs.all (flat n)
 |n+1,.tup xs=>xs.all (flat n)
 |_,_=>false
noncomputable def plain(d:D):Bool:=flat 8 d
noncomputable def dg:D→Option Bool
 |.non=>some false
 |.bl b=>some b
 |.int i=>some (i != 0)
 |.lst xs=>some (!xs.isEmpty)
 |.tup xs=>some (!xs.isEmpty)
 |.frz xs=>some (!xs.isEmpty)
 |_=>none
inductive O2 where
 |add|sub|mul|fdiv|mod|pow|eq|ne|lt|le|gt|ge|isin|notin|is|isnot
noncomputable def big:Nat:=1000000
noncomputable def ixN(n:Nat)(i:Int):Option Nat:=if 0≤i then(if i<n then some i.toNat else none) else if -(n:Int)≤i then some (i+n).toNat else none
noncomputable def atI{α:Type}(xs:List α)(i:Int):Option α:=(ixN xs.length i).bind fun j=>xs[j]?
noncomputable def sIx(n d:Nat):Option Int→Nat
 |none=>d
 |some v=>if v<0 then(v+(n:Int)).toNat else min v.toNat n
noncomputable def cut{α:Type}(xs:List α)(lo hi:Option Int):List α:=(xs.drop (sIx xs.length 0 lo)).take (sIx xs.length xs.length hi-sIx xs.length 0 lo)
noncomputable def isD:D→D→Option Bool
 |.non,.non=>some true
 |.bl _,.non=>some false
 |.int _,.non=>some false
 |.str _,.non=>some false
 |.lst _,.non=>some false
 |.tup _,.non=>some false
 |.obj _ _,.non=>some false
 |.bl a,.bl b=>some (a == b)
 |_,_=>none
noncomputable def RD:D→D→Option D
 |.int i,.int j=>some (.int (i+j))
 |.str x,.str y=>if x.length+y.length≤big then some (.str (x++y)) else none
 |.lst xs,.lst ys=>if xs.length+ys.length≤big then some (.lst (xs++ys)) else none
 |.tup xs,.tup ys=>if xs.length+ys.length≤big then some (.tup (xs++ys)) else none
 |_,_=>none
noncomputable def aEf:D→D→Option D
 |.int i,.int j=>some (.int (i-j))
 |_,_=>none
noncomputable def aEg:D→D→Option D
 |.int i,.int j=>if (-(2 ^ 64)<i∧i<2 ^ 64)∨(-(2 ^ 64)<j∧j<2 ^ 64) then some (.int (i*j)) else none
 |_,_=>none
noncomputable def oDiv:D→D→Option D
 |.int i,.int j=>if 0<j∧j<1073741824 then some (.int (i / j)) else none
 |_,_=>none
noncomputable def oMod:D→D→Option D
 |.int i,.int j=>if 0<j then some (.int (i % j)) else none
 |_,_=>none
noncomputable def RC:D→D→Option D
 |.int i,.int j=>if 0≤j∧j≤1000∧i.natAbs<2 ^ 64 then some (.int (i ^ j.toNat)) else none
 |_,_=>none
noncomputable def oEq(a b:D):Option D:=if plain a&&plain b then some (.bl (b6 a b)) else none
noncomputable def oNe(a b:D):Option D:=if plain a&&plain b then some (.bl (!b6 a b)) else none
noncomputable def oLt:D→D→Option D
 |.int i,.int j=>some (.bl (decide (i<j)))
 |_,_=>none
noncomputable def oLe:D→D→Option D
 |.int i,.int j=>some (.bl (decide (i≤j)))
 |_,_=>none
noncomputable def oGt:D→D→Option D
 |.int i,.int j=>some (.bl (decide (j<i)))
 |_,_=>none
noncomputable def oGe:D→D→Option D
 |.int i,.int j=>some (.bl (decide (j≤i)))
 |_,_=>none
noncomputable def oIn(a:D):D→Option D
 |.lst ys=>if plain a&&ys.all plain then some (.bl (ys.any fun y=>b6 y a)) else none
 |.tup ys=>if plain a&&ys.all plain then some (.bl (ys.any fun y=>b6 y a)) else none
 |_=>none
noncomputable def IU(a:D):D→Option D
 |.lst ys=>if plain a&&ys.all plain then some (.bl (!ys.any fun y=>b6 y a)) else none
 |.tup ys=>if plain a&&ys.all plain then some (.bl (!ys.any fun y=>b6 y a)) else none
 |_=>none
noncomputable def oIs(a b:D):Option D:=(isD a b).map .bl
noncomputable def IV(a b:D):Option D:=(isD a b).map fun k=>.bl (!k)
noncomputable def ah(o:O2)(a b:D):Option D:=match o with
 |.add=>RD a b
 |.sub=>aEf a b
 |.mul=>aEg a b
 |.fdiv=>oDiv a b
 |.mod=>oMod a b
 |.pow=>RC a b
 |.eq=>oEq a b
 |.ne=>oNe a b
 |.lt=>oLt a b
 |.le=>oLe a b
 |.gt=>oGt a b
 |.ge=>oGe a b
 |.isin=>oIn a b
 |.notin=>IU a b
 |.is=>oIs a b
 |.isnot=>IV a b
inductive BF where
 |len|int|list|tuple|max|min|str|sorted|any
noncomputable def gS:List D→Option (List Int)
 |[]=>some []
 |.int i::r=>(gS r).map (i :: ·)
 |_::_=>none
noncomputable def lL:Int→List Int→Int
 |m,[]=>m
 |m,x::r=>lL (if x > m then x else m) r
noncomputable def aEB:Int→List Int→Int
 |m,[]=>m
 |m,x::r=>aEB (if x<m then x else m) r
noncomputable def SO:List D→Option D
 |[.lst xs]=>some (.int xs.length)
 |[.tup xs]=>some (.int xs.length)
 |[.frz xs]=>some (.int xs.length)
 |[.str x]=>if x.length≤big then some (.int x.length) else none
 |_=>none
noncomputable def aEZ:List D→Option D
 |[.int i]=>some (.int i)
 |[.bl b]=>some (.int (if b then 1 else 0))
 |_=>none
noncomputable def wD:List D→Option D
 |[.lst xs]=>some (.lst xs)
 |[.tup xs]=>some (.lst xs)
 |[.frz xs]=>some (.lst xs)
 |_=>none
noncomputable def tN:List D→Option D
 |[.lst xs]=>some (.tup xs)
 |[.tup xs]=>some (.tup xs)
 |_=>none
noncomputable def KI:List D→Option D
 |[.int i,.int j]=>some (.int (if j > i then j else i))
 |[.lst xs]=>match gS xs with|some (i::r)=>some (.int (lL i r))|_=>none
 |_=>none
noncomputable def aEY:List D→Option D
 |[.int i,.int j]=>some (.int (if j<i then j else i))
 |[.lst xs]=>match gS xs with|some (i::r)=>some (.int (aEB i r))|_=>none
 |_=>none
noncomputable def lI:List D→Option (List (Int×Int))
 |[]=>some []
 |.tup [.int a,.int b]::r=>(lI r).map ((a,b) :: ·)
 |_::_=>none
noncomputable def wN(p:Int×Int):D:=.tup [.int p.1,.int p.2]
noncomputable def cv(x y:Int×Int):Bool:=decide (x.1<y.1) || (x.1 == y.1&&decide (x.2<y.2))
noncomputable def yQ(x:Int×Int):List (Int×Int)→List (Int×Int)
 |[]=>[x]
 |y::r=>if cv x y then x::y::r else y::yQ x r
noncomputable def iL:List (Int×Int)→List (Int×Int)
 |[]=>[]
 |x::r=>yQ x (iL r)
noncomputable def gC(ps:List (Int×Int)):Bool:=decide (ps.length≤64)&&decide ps.Nodup
noncomputable def lX(ds:List D):Option (List D):=match lI ds with
 |some ps=>if gC ps then some ((iL ps).map wN) else none
 |none=>match gS ds with
  |some is=>if gC (is.map fun i=>(i,0)) then some ((iL (is.map fun i=>(i,0))).map fun p=>.int p.1) else none
  |none=>none
noncomputable def kQ:List D→Option D
 |[.lst xs]=>(lX xs).map .lst
 |_=>none
noncomputable def bf(b:BF)(ds:List D):Option D:=match b with
 |.sorted=>kQ ds
 |.len=>SO ds
 |.int=>aEZ ds
 |.list=>wD ds
 |.tuple=>tN ds
 |.max=>KI ds
 |.min=>aEY ds
 |_=>none
inductive Src where
 |seq|rng|rev|enum|rvr
noncomputable def cK(lo hi:Int):List D:=(List.range (hi-lo).toNat).map fun (k:Nat)=>D.int (lo+k)
noncomputable def UY:Nat→List D→List D
 |_,[]=>[]
 |k,x::r=>.tup [.int k,x]::UY (k+1) r
noncomputable def dS(i:Int):Bool:=decide (-(2 ^ 62)≤i)&&decide (i<2 ^ 62)
noncomputable def UR:D→Option (List D)
 |.lst xs=>some xs
 |.tup xs=>some xs
 |.frz xs=>some xs
 |_=>none
noncomputable def AK:List D→Option (List D)
 |[.int j]=>if dS j&&decide (j.toNat≤big) then some (cK 0 j) else none
 |[.int i,.int j]=>if dS i&&dS j&&decide ((j-i).toNat≤big) then some (cK i j) else none
 |_=>none
noncomputable def aEK:List D→Option (List D)
 |[.int j]=>if decide (0≤j)&&decide (j.toNat≤big) then some (cK 0 j).reverse else none
 |_=>none
noncomputable def vS:D→Option (List D)
 |.lst xs=>some xs.reverse
 |_=>none
noncomputable def aAe:D→Option (List D)
 |.lst xs=>some (UY 0 xs)
 |_=>none
noncomputable def items(k:Src)(d:D):Option (List D):=match k with
 |.seq=>UR d
 |.rng=>match d with
  |.tup as=>AK as
  |_=>none
 |.rev=>vS d
 |.enum=>aAe d
 |.rvr=>match d with
  |.tup as=>aEK as
  |_=>none
set_option genSizeOf false
set_option genInjectivity false
inductive IE where
 |var (i:Nat)
 |lit (l:Lit)
 |glo (x:Str)
 |bin (o:O2) (a b:IE)
 |neg (a:IE)
 |and (a b:IE)
 |or (a b:IE)
 |not (a:IE)
 |tr (a:IE)
 |ite (c a b:IE)
 |chain (o o':O2) (a b c:IE)
 |nil
 |cons (e es:IE)
 |tup (es:IE)
 |lst (es:IE)
 |ix (a i:IE)
 |ixm (x:Nat) (i:IE)
 |lenm (x:Nat)
 |sortm (x:Nat)
 |sl (a:IE) (bl:Bool) (lo:IE) (bh:Bool) (hi:IE)
 |slm (x:Nat) (bl:Bool) (lo:IE) (bh:Bool) (hi:IE)
 |fld (a:IE) (f:Str)
 |call (f:Str) (es:IE)
 |meth (o:IE) (m:Str) (es:IE)
 |mk (c:Str) (es:IE)
 |bcall (b:BF) (es:IE)
 |isi (a:IE) (t:Str)
 |walk (k:Src) (a:IE)
 |comp (n:Nat) (fr:List (Nat×Nat)) (tg:List Nat) (tp:Bool) (k:Src) (src test elt:IE)
 |inC (neg:Bool) (x:Str) (a:IE)
set_option genInjectivity true
inductive Sl where
 |un
 |im (d:D)
 |mu (d:D)
structure GS where
 fn:Str→List D→Option Rs
 ff:Str→Bool
 me:Str→Str→List D→Option Rs
 mf:Str→Str→Bool
 mo:Str→List D→Option Rs
 cst:Str→Option D
 sub:Str→Str→Bool
 fl:Str→List Str
 xn:Str→Bool
 wd:Str→Str→Option Str
 dk:Str→Option (List (Str×D))
noncomputable def iS(G:GS)(t:Str):D→Option Bool
 |.non=>if t = "int"∨t = "bool"∨t = "str"∨t = "list"∨t = "tuple" then some false else none
 |.bl _=>if t = "int"∨t = "bool" then some true else if t = "str"∨t = "list"∨t = "tuple" then some false else none
 |.int _=>if t = "int" then some true else if t = "bool"∨t = "str"∨t = "list"∨t = "tuple" then some false else none
 |.str _=>if t = "str" then some true else if t = "int"∨t = "bool"∨t = "list"∨t = "tuple" then some false else none
 |.lst _=>if t = "list" then some true else if t = "int"∨t = "bool"∨t = "str"∨t = "tuple" then some false else none
 |.tup _=>if t = "tuple" then some true else if t = "int"∨t = "bool"∨t = "str"∨t = "list" then some false else none
 |_=>none
noncomputable def slot(ρ:List Sl)(i:Nat):Option D:=match ρ[i]? with
 |some (.im d)=>some d
 |_=>none
noncomputable def lY(ρ:List Sl)(i:Nat):Option (List D):=match ρ[i]? with
 |some (.im (.lst ds))=>some ds
 |some (.mu (.lst ds))=>some ds
 |_=>none
noncomputable def iI:Option Rs→Option D
 |some (.ok d)=>some d
 |_=>none
noncomputable def bG:Option D→Option (List D)
 |some (.tup ds)=>some ds
 |_=>none
noncomputable def boolOf:Option D→Option Bool
 |some (.bl b)=>some b
 |_=>none
noncomputable def intOf:Option D→Option Int
 |some (.int b)=>some b
 |_=>none
noncomputable def frame(n:Nat)(fr:List (Nat×Nat))(ρ:List Sl):List Sl:=(List.range n).map fun i=>match fr.lookup i with
 |some j=>ρ.getD j .un
 |none=>.un
noncomputable def bL:List Nat→List D→List Sl→Option (List Sl)
 |[],[],ρ=>some ρ
 |i::is,d::ds,ρ=>bL is ds (ρ.set i (.im d))
 |_,_,_=>none
noncomputable def bK(tg:List Nat)(tp:Bool)(d:D)(ρ:List Sl):Option (List Sl):=
 if tp then(match d with | .tup ds=>bL tg ds ρ|_=>none) else bL tg [d] ρ
noncomputable def bU(f:D→Option (Option D)):List D→Option (List D)
 |[]=>some []
 |d::r=>do
  let o ←f d
  let t ←bU f r
  match o with
  |some y=>some (y::t)
  |none=>some t
noncomputable def part(b:Bool)(o:Option D):Option (Option Int):=if b then(intOf o).map some else some none
noncomputable def ev(G:GS):IE→List Sl→Option D
 |.var i,ρ=>slot ρ i
 |.lit l,_=>some l.d
 |.glo x,_=>G.cst x
 |.bin o a b,ρ=>do ah o (←ev G a ρ) (←ev G b ρ)
 |.neg a,ρ=>do match ←ev G a ρ with | .int i=>some (.int (-i))|_=>none
 |.and a b,ρ=>do match ←ev G a ρ with | .bl true=>(match ←ev G b ρ with | .bl k=>some (.bl k)|_=>none) | .bl false=>some (.bl false)|_=>none
 |.or a b,ρ=>do match ←ev G a ρ with | .bl false=>(match ←ev G b ρ with | .bl k=>some (.bl k)|_=>none) | .bl true=>some (.bl true)|_=>none
 |.not a,ρ=>do match ←ev G a ρ with | .bl k=>some (.bl (!k))|_=>none
 |.tr a,ρ=>do (dg (←ev G a ρ)).map .bl
 |.ite c a b,ρ=>do match ←ev G c ρ with | .bl true=>ev G a ρ | .bl false=>ev G b ρ|_=>none
 |.chain o o' a b c,ρ=>do
  let y ←ev G b ρ
  match ←ah o (←ev G a ρ) y with
  |.bl true=>ah o' y (←ev G c ρ)
  |.bl false=>some (.bl false)
  |_=>none
 |.nil,_=>some (.tup [])
 |.cons e es,ρ=>do
  let d ←ev G e ρ
  match ←ev G es ρ with
  |.tup ds=>some (.tup (d::ds))
  |_=>none
 |.tup es,ρ=>(bG (ev G es ρ)).map .tup
 |.lst es,ρ=>(bG (ev G es ρ)).map .lst
 |.ix a i,ρ=>do
  match ←ev G a ρ,←ev G i ρ with
  |.lst xs,.int k=>atI xs k
  |.tup xs,.int k=>atI xs k
  |.frz xs,.int k=>atI xs k
  |.dct kvs,.int k=>dQ kvs k
  |_,_=>none
 |.ixm x i,ρ=>do atI (←lY ρ x) (←intOf (ev G i ρ))
 |.lenm x,ρ=>do some (.int (←lY ρ x).length)
 |.sortm x,ρ=>do kQ [.lst (←lY ρ x)]
 |.sl a bl lo bh hi,ρ=>do
  let d ←ev G a ρ
  let l ←part bl (ev G lo ρ)
  let h ←part bh (ev G hi ρ)
  match d with
  |.lst xs=>some (.lst (cut xs l h))
  |.frz xs=>some (.lst (cut xs l h))
  |.tup xs=>if sIx xs.length 0 l=0∧sIx xs.length xs.length h=xs.length then none else some (.tup (cut xs l h))
  |_=>none
 |.slm x bl lo bh hi,ρ=>do
  let xs ←lY ρ x
  let l ←part bl (ev G lo ρ)
  let h ←part bh (ev G hi ρ)
  some (.lst (cut xs l h))
 |.fld a f,ρ=>do match ←ev G a ρ with | .obj c fs=>if (G.fl c).contains f then fs.lookup f else none|_=>none
 |.call f es,ρ=>do iI (G.fn f (←bG (ev G es ρ)))
 |.meth o m es,ρ=>do match ←ev G o ρ with | .obj c fs=>(if (fs.lookup m).isNone then(bG (ev G es ρ)).bind fun as=>iI (G.me c m (.obj c fs::as)) else none)|_=>none
 |.mk c es,ρ=>do iI (G.mo c (←bG (ev G es ρ)))
 |.bcall b es,ρ=>do bf b (←bG (ev G es ρ))
 |.isi a t,ρ=>do (iS G t (←ev G a ρ)).map .bl
 |.walk k a,ρ=>do (items k (←ev G a ρ)).map .lst
 |.comp n fr tg tp k src test elt,ρ=>do
  let ds ←items k (←ev G src ρ)
  (bU (fun d=>do
   let ρ1 ←bK tg tp d (frame n fr ρ)
   match ←ev G test ρ1 with
   |.bl true=>(ev G elt ρ1).map some
   |.bl false=>some none
   |_=>none) ds).map .lst
 |.inC neg x a,ρ=>do match ←ev G a ρ with | .str s=>(G.dk x).map fun kvs=>.bl (neg != (kvs.lookup s).isSome)|_=>none
noncomputable def gm(G:GS):IE→List Sl→Option Rs
 |.call f es,ρ=>(bG (ev G es ρ)).bind (G.fn f)
 |.meth o m es,ρ=>match ev G o ρ with
  |some (.obj c fs)=>if (fs.lookup m).isNone then(bG (ev G es ρ)).bind fun as=>G.me c m (.obj c fs::as) else none
  |_=>none
 |_,_=>none
inductive HR where
 |lit (l:Lit)
 |word (f:Str)
 |weq (f:Str) (x:Str)
noncomputable def gy(G:GS)(c:Str):HR→Option D
 |.lit l=>some l.d
 |.word f=>(G.wd f c).map .str
 |.weq f x=>(G.wd f c).map fun y=>.bl (y == x)
set_option genInjectivity false
inductive IS where
 |nop
 |seq (a b:IS)
 |ret (fr:Bool) (e:IE)
 |retm (x:Nat)
 |retn
 |set (x:Nat) (e:IE)
 |setm (x:Nat) (e:IE)
 |setd (x:Nat)
 |sett (tg:List Nat) (e:IE)
 |par (x y:Nat) (a b:IE)
 |iff (c:IE) (a b:IS)
 |loop (tg:List Nat) (tp:Bool) (k:Src) (src:IE) (body:IS)
 |whl (c:IE) (body:IS)
 |app (x:Nat) (e:IE)
 |put (x:Nat) (k e:IE)
 |drop (e:IE)
 |frz (xs:List Nat) (st:IS)
 |rse (c:Str)
 |tryx (ce:IE) (hc:Str) (hb:Option Nat) (r:HR)
set_option genInjectivity true
inductive Out where
 |nx (ρ:List Sl)
 |rt (d:D)
 |bk (ρ:List Sl)
 |ct (ρ:List Sl)
 |er (c:Str)
noncomputable def eV(bind:D→List Sl→Option (List Sl))(body:List Sl→Option Out):List D→List Sl→Option Out
 |[],ρ=>some (.nx ρ)
 |d::r,ρ=>do
  let ρ1 ←bind d ρ
  match ←body ρ1 with
  |.nx ρ2=>eV bind body r ρ2
  |.ct ρ2=>eV bind body r ρ2
  |.bk ρ2=>some (.nx ρ2)
  |o=>some o
noncomputable def rB(test:List Sl→Option D)(body:List Sl→Option Out):Nat→List Sl→Option Out
 | 0,_=>none
 |n+1,ρ=>do
  match ←test ρ with
  |.bl true=>(match ←body ρ with
   |.nx ρ2=>rB test body n ρ2
   |.ct ρ2=>rB test body n ρ2
   |.bk ρ2=>some (.nx ρ2)
   |o=>some o)
  |.bl false=>some (.nx ρ)
  |_=>none
noncomputable def SB(i:Nat)(ρ:List Sl):List Sl:=match ρ[i]? with
 |some (.mu d)=>ρ.set i (.im d)
 |_=>ρ
noncomputable def freeze:List Nat→List Sl→List Sl
 |[],ρ=>ρ
 |i::r,ρ=>freeze r (SB i ρ)
noncomputable def cU:Sl→Sl
 |.mu d=>.im d
 |s=>s
noncomputable def view(ρ:List Sl):List Sl:=ρ.map cU
noncomputable def xN:D→Bool
 |.non=>true
 |.bl _=>true
 |.int _=>true
 |.str _=>true
 |_=>false
noncomputable def fi(G:GS)(e:IE)(ρ:List Sl):Option D:=match ev G e ρ with
 |some d=>some d
 |none=>match ev G e (view ρ) with
  |some d=>if xN d then some d else none
  |none=>none
noncomputable def aHq(o:D)(i:Int)(d:D):Option D:=match o with
 |.lst ds=>(ixN ds.length i).map fun j=>.lst (ds.set j d)
 |.dct kvs=>if kvs.length<big then some (.dct (lF kvs i d)) else none
 |_=>none
noncomputable def ex(G:GS):IS→List Sl→Option Out
 |.nop,ρ=>some (.nx ρ)
 |.seq a b,ρ=>do
  match ←ex G a ρ with
  |.nx ρ'=>ex G b ρ'
  |o=>some o
 |.ret _ e,ρ=>(fi G e ρ).map .rt
 |.retm x,ρ=>match ρ[x]? with|some (.mu d)=>some (.rt d)|_=>none
 |.retn,_=>some (.rt .non)
 |.set x e,ρ=>(fi G e ρ).map fun d=>.nx (ρ.set x (.im d))
 |.setm x e,ρ=>do match ←ev G e ρ with | .lst ds=>some (.nx (ρ.set x (.mu (.lst ds))))|_=>none
 |.setd x,ρ=>some (.nx (ρ.set x (.mu (.dct []))))
 |.sett tg e,ρ=>do (bK tg true (←ev G e ρ) ρ).map .nx
 |.par x y a b,ρ=>do
  let u ←ev G a ρ
  let v ←ev G b ρ
  some (.nx ((ρ.set x (.im u)).set y (.im v)))
 |.iff c a b,ρ=>do match ←ev G c (view ρ) with | .bl true=>ex G a ρ | .bl false=>ex G b ρ|_=>none
 |.loop tg tp k src body,ρ=>do eV (bK tg tp) (ex G body) (←items k (←ev G src ρ)) ρ
 |.whl c body,ρ=>rB (fun ρ=>ev G c (view ρ)) (ex G body) 5000 ρ
 |.app x e,ρ=>do
  let d ←fi G e ρ
  match ρ[x]? with
  |some (.mu (.lst ds))=>if ds.length<big then some (.nx (ρ.set x (.mu (.lst (ds++[d]))))) else none
  |_=>none
 |.put x k e,ρ=>do
  let d ←fi G e ρ
  let i ←intOf (fi G k ρ)
  match ρ[x]? with
  |some (.mu o)=>(aHq o i d).map fun o=>.nx (ρ.set x (.mu o))
  |_=>none
 |.drop e,ρ=>match ev G e (view ρ) with
  |some _=>some (.nx ρ)
  |none=>match gm G e (view ρ) with
   |some (.er k)=>if G.xn k then some (.er k) else none
   |_=>none
 |.frz xs st,ρ=>ex G st (freeze xs ρ)
 |.rse c,_=>if G.xn c then some (.er c) else none
 |.tryx ce hc _ r,ρ=>match gm G ce (view ρ) with
  |some (.ok _)=>some (.nx ρ)
  |some (.er k)=>if G.xn k&&G.xn hc&&G.sub k hc then(gy G k r).map .rt else none
  |none=>none
noncomputable def iJ:IS→Bool
 |.seq a b=>iJ a&&iJ b
 |.ret fr _=>fr
 |.iff _ a b=>iJ a&&iJ b
 |.loop _ _ _ _ b=>iJ b
 |.whl _ b=>iJ b
 |.frz _ b=>iJ b
 |.tryx _ _ _ _=>true
 |_=>true
noncomputable def aU(G:GS)(n:Nat)(b:IS)(args:List D):Option Rs:=
 match ex G b (args.map .im++List.replicate (n-args.length) .un) with
 |some (.rt d)=>some (.ok d)
 |some (.nx _)=>some (.ok .non)
 |some (.er c)=>some (.er c)
 |_=>none
section
variable {G:GS}{ρ:List Sl}{a b e es src test elt:IE}{i j:Int}
theorem oE{k:Nat}:ev G (.var k) ρ=slot ρ k:=id rfl
theorem aAw{l:Lit}:ev G (.lit l) ρ=some l.d:=id rfl
theorem aAz{x:Str}:ev G (.glo x) ρ=G.cst x:=id rfl
theorem bT{o:O2}:ev G (.bin o a b) ρ=(ev G a ρ).bind fun x=>(ev G b ρ).bind fun y=>ah o x y:=id rfl
theorem aAu:ev G (.neg a) ρ=(ev G a ρ).bind fun x=>match x with | .int i=>some (.int (-i))|_=>none:=id rfl
theorem KR:ev G (.and a b) ρ=(ev G a ρ).bind fun x=>match x with | .bl true=>((ev G b ρ).bind fun y=>match y with | .bl k=>some (.bl k)|_=>none) | .bl false=>some (.bl false)|_=>none:=id rfl
theorem UX:ev G (.or a b) ρ=(ev G a ρ).bind fun x=>match x with | .bl false=>((ev G b ρ).bind fun y=>match y with | .bl k=>some (.bl k)|_=>none) | .bl true=>some (.bl true)|_=>none:=id rfl
theorem aAs:ev G (.not a) ρ=(ev G a ρ).bind fun x=>match x with | .bl k=>some (.bl (!k))|_=>none:=id rfl
theorem UW:ev G (.tr a) ρ=(ev G a ρ).bind fun x=>(dg x).map .bl:=id rfl
theorem tO{c:IE}:ev G (.ite c a b) ρ=(ev G c ρ).bind fun x=>match x with | .bl true=>ev G a ρ | .bl false=>ev G b ρ|_=>none:=id rfl
theorem wJ{o o':O2}{c:IE}:ev G (.chain o o' a b c) ρ=(ev G b ρ).bind fun y=>(ev G a ρ).bind fun x=>(ah o x y).bind fun w=>match w with | .bl true=>(ev G c ρ).bind fun z=>ah o' y z | .bl false=>some (.bl false)|_=>none:=id rfl
theorem aAt:ev G .nil ρ=some (.tup []):=id rfl
theorem bA:ev G (.cons e es) ρ=(ev G e ρ).bind fun d=>(ev G es ρ).bind fun t=>match t with | .tup ds=>some (.tup (d::ds))|_=>none:=id rfl
theorem yZ:ev G (.tup es) ρ=(bG (ev G es ρ)).map .tup:=id rfl
theorem aAv:ev G (.lst es) ρ=(bG (ev G es ρ)).map .lst:=id rfl
theorem aFa:ev G (.ix a b) ρ=(ev G a ρ).bind fun x=>(ev G b ρ).bind fun y=>(match x,y with
  |.lst xs,.int k=>atI xs k
  |.tup xs,.int k=>atI xs k
  |.frz xs,.int k=>atI xs k
  |.dct kvs,.int k=>dQ kvs k
  |_,_=>none):=id rfl
theorem iW{f:Str}:ev G (.fld a f) ρ=(ev G a ρ).bind fun x=>match x with | .obj c fs=>if (G.fl c).contains f then fs.lookup f else none|_=>none:=id rfl
theorem gA{f:Str}:ev G (.call f es) ρ=(bG (ev G es ρ)).bind fun as=>iI (G.fn f as):=id rfl
theorem CF{m:Str}:ev G (.meth a m es) ρ=(ev G a ρ).bind fun x=>match x with | .obj c fs=>(if (fs.lookup m).isNone then(bG (ev G es ρ)).bind fun as=>iI (G.me c m (.obj c fs::as)) else none)|_=>none:=id rfl
theorem KP{c:Str}:ev G (.mk c es) ρ=(bG (ev G es ρ)).bind fun as=>iI (G.mo c as):=id rfl
theorem oG{f:BF}:ev G (.bcall f es) ρ=(bG (ev G es ρ)).bind fun as=>bf f as:=id rfl
theorem aAy{t:Str}:ev G (.isi a t) ρ=(ev G a ρ).bind fun x=>(iS G t x).map .bl:=id rfl
theorem SX{k:Src}:ev G (.walk k a) ρ=(ev G a ρ).bind fun x=>(items k x).map .lst:=id rfl
theorem aAx{x:Nat}:ev G (.ixm x b) ρ=(lY ρ x).bind fun xs=>(intOf (ev G b ρ)).bind fun k=>atI xs k:=id rfl
theorem SY{x:Nat}:ev G (.lenm x) ρ=(lY ρ x).bind fun xs=>some (.int xs.length):=id rfl
theorem CD{bl bh:Bool}{lo hi:IE}:ev G (.sl a bl lo bh hi) ρ=(ev G a ρ).bind fun d=>(part bl (ev G lo ρ)).bind fun l=>(part bh (ev G hi ρ)).bind fun h=>(match d with
  |.lst xs=>some (.lst (cut xs l h))
  |.frz xs=>some (.lst (cut xs l h))
  |.tup xs=>if sIx xs.length 0 l=0∧sIx xs.length xs.length h=xs.length then none else some (.tup (cut xs l h))
  |_=>none):=id rfl
theorem tP{n:Nat}{fr:List (Nat×Nat)}{tg:List Nat}{tp:Bool}{k:Src}:ev G (.comp n fr tg tp k src test elt) ρ=(ev G src ρ).bind fun s=>(items k s).bind fun ds =>
  (bU (fun d=>(bK tg tp d (frame n fr ρ)).bind fun ρ1=>(ev G test ρ1).bind fun w=>match w with
   |.bl true=>(ev G elt ρ1).map some
   |.bl false=>some none
   |_=>none) ds).map .lst:=id rfl
theorem FZ{ds:List D}:bG (some (.tup ds))=some ds:=id rfl
theorem RA{d:D}:iI (some (.ok d))=some d:=id rfl
theorem aDG:ah .add (.int i) (.int j)=some (.int (i+j)):=id rfl
theorem aDD:ah .sub (.int i) (.int j)=some (.int (i-j)):=id rfl
theorem iG(h0:-1000000≤i)(h1:i≤1000000):ah .mul (.int i) (.int j)=some (.int (i*j)):=if_pos (.inl ⟨by lia,by lia⟩)
theorem lZ(h0:0<j)(h1:j<1000000):ah .fdiv (.int i) (.int j)=some (.int (i / j)):=if_pos ⟨h0,by lia⟩
theorem gO(h0:0<j):ah .mod (.int i) (.int j)=some (.int (i % j)):=if_pos h0
theorem aHr:ah .lt (.int i) (.int j)=some (.bl (decide (i<j))):=id rfl
theorem aHs:ah .le (.int i) (.int j)=some (.bl (decide (i≤j))):=id rfl
theorem aHt:ah .gt (.int i) (.int j)=some (.bl (decide (j<i))):=id rfl
theorem aHu:ah .ge (.int i) (.int j)=some (.bl (decide (j≤i))):=id rfl
theorem aHv:ah .eq (.int i) (.int j)=some (.bl (i == j)):=id rfl
theorem aDE:ah .ne (.int i) (.int j)=some (.bl (!(i == j))):=id rfl
theorem aDF{x y:Bool}:ah .is (.bl x) (.bl y)=some (.bl (x == y)):=id rfl
theorem ZI{x y:Bool}:ah .isnot (.bl x) (.bl y)=some (.bl (!(x == y))):=id rfl
theorem GR(h0:-1000000≤j)(h1:j≤1000000):dS j=true:=by
 unfold dS;rw[qv,rg,rg];lia
theorem yN{n:Nat}(h:n≤1000000):items .rng (.tup [.int (n:Int)])=some (cK 0 (n:Int)):=by
 have h1:(dS (n:Int)&&decide ((n:Int).toNat≤big))=true:=by
  rw[GR (by lia) (by lia),Bool.true_and,rg]
  unfold big;lia
 simp only[items,AK];rw[if_pos h1]
theorem slot0{d:D}{r:List Sl}:slot (.im d::r) 0=some d:=id rfl
theorem aCd{x:Sl}{r:List Sl}{k:Nat}:slot (x::r) (k+1)=slot r k:=id rfl
end
section
variable {G:GS}{ρ:List Sl}{a b:IS}{e c:IE}
theorem aX:ex G .nop ρ=some (.nx ρ):=id rfl
theorem KJ:ex G (.seq a b) ρ=(ex G a ρ).bind fun o=>match o with | .nx ρ'=>ex G b ρ'|o=>some o:=id rfl
theorem KM:ex G (.iff c a b) ρ=(ev G c (view ρ)).bind fun x=>match x with | .bl true=>ex G a ρ | .bl false=>ex G b ρ|_=>none:=id rfl
theorem oB{d:D}(h:ev G e ρ=some d):fi G e ρ=some d:=by unfold fi;rw[h]
theorem aZ{d:D}{f:Bool}(h:ev G e ρ=some d):ex G (.ret f e) ρ=some (.rt d):=by show (fi G e ρ).map Out.rt=_;rw[oB h];rfl
theorem aR{d:D}{x:Nat}(h:ev G e ρ=some d):ex G (.set x e) ρ=some (.nx (ρ.set x (.im d))):=by show (fi G e ρ).map _=_;rw[oB h];rfl
theorem kS{ds:List D}{x:Nat}(h:ev G e ρ=some (.lst ds)):ex G (.setm x e) ρ=some (.nx (ρ.set x (.mu (.lst ds)))):=by show (ev G e ρ).bind _=_;rw[h];rfl
theorem dB{tg:List Nat}{tp:Bool}{k:Src}{d:D}{ds:List D}(h1:ev G e ρ=some d)(h2:items k d=some ds):ex G (.loop tg tp k e a) ρ=eV (bK tg tp) (ex G a) ds ρ:=by show (ev G e ρ).bind _=_;rw[h1];show ((items k d).bind _)=_;rw[h2];rfl
end
theorem oM{f:D→Option (Option D)}{h:D→D}:∀{ds:List D},(∀d∈ds,f d=some (some (h d)))→bU f ds=some (ds.map h)
 |[],_=>rfl
 |d::r,e=>by
  unfold bU;rw[e d (ug),oM fun x hx=>e x (qt _ hx)]
  rfl
theorem nP{lo hi:Int}{d:D}(h:d∈cK lo hi):∃i:Int,d=.int i∧lo≤i∧i<hi:=by
 unfold cK at h;simp only[t8,uv]at h;obtain⟨k,hk,rfl⟩:=h;exact⟨_,rfl,by lia,by lia⟩
theorem jS{n:Nat}:cK 0 (n:Int)=(List.range n).map fun (k:Nat)=>D.int k:=by
 unfold cK;simp
theorem eK{bind:D→List Sl→Option (List Sl)}{body:List Sl→Option Out}(P:Nat→List Sl→Prop):∀{ds:List D} {k:Nat} {ρ:List Sl},P k ρ →
  (∀(i:Nat) (d:D) (ρ:List Sl),ds[i]?=some d→P (k+i) ρ→∃ρ1,bind d ρ=some ρ1∧∃ρ2,body ρ1=some (.nx ρ2)∧P (k+i+1) ρ2)→∃ρ',eV bind body ds ρ=some (.nx ρ')∧P (k+ds.length) ρ'
 |[],k,ρ,h,_=>⟨ρ,rfl,h⟩
 |d::r,k,ρ,h,st=>by
  obtain⟨ρ1,h1,ρ2,h2,h3⟩:=st 0 d ρ rfl h;obtain⟨ρ',h4,h5⟩:=eK P (ds:=r) (k:=k+1) h3 fun i d' ρ' e p=>by
   have:=st (i+1) d' ρ' (by simpa using e) (by rw[add_comm i 1,←Nat.add_assoc];exact p)
   rw[show k+1+i+1=k+(i+1)+1 by lia]
   exact this
  refine⟨ρ',?_,by rw[uj,show k+(r.length+1)=k+1+r.length by lia];exact h5⟩
  unfold eV;rw[h1];show ((body ρ1).bind _)=_
  rw[h2];exact h4
theorem lR{bind:D→List Sl→Option (List Sl)}{body:List Sl→Option Out}(P:List Sl→Prop){ds:List D}{ρ:List Sl}(h0:P ρ)(st:∀d∈ds,∀ρ,P ρ→∃ρ1,bind d ρ=some ρ1∧∃ρ2,body ρ1=some (.nx ρ2)∧P ρ2):∃ρ',eV bind body ds ρ=some (.nx ρ')∧P ρ':=
 eK (k:=0) (fun _=>P) h0 fun i d ρ e p=>st d (qh e) ρ p
theorem aP{G:GS}{n:Nat}{b:IS}{args:List D}{ρ:List Sl}{d:D}(h0:args.map .im++List.replicate (n-args.length) .un=ρ)(h:ex G b ρ=some (.rt d)):aU G n b args=some (.ok d):=by unfold aU;rw[h0,h]
theorem zQ{G:GS}{n:Nat}{b:IS}{args:List D}{ρ ρ':List Sl}(h0:args.map .im++List.replicate (n-args.length) .un=ρ)(h:ex G b ρ=some (.nx ρ')):aU G n b args=some (.ok .non):=by unfold aU;rw[h0,h]
theorem rM{G:GS}{n:Nat}{b:IS}{args:List D}{ρ:List Sl}{k:Str}(h0:args.map .im++List.replicate (n-args.length) .un=ρ)(h:ex G b ρ=some (.er k)):aU G n b args=some (.er k):=by unfold aU;rw[h0,h]
theorem wH{G:GS}{ρ:List Sl}{n:Nat}{fr:List (Nat×Nat)}{tg:List Nat}{tp:Bool}{k:Src}{src test elt:IE}{s:D}{ds:List D}(h:D→D)(h1:ev G src ρ=some s)(h2:items k s=some ds)
  (h3:∀d∈ds,∃ρ1,bK tg tp d (frame n fr ρ)=some ρ1∧ev G test ρ1=some (.bl true)∧ev G elt ρ1=some (h d)):ev G (.comp n fr tg tp k src test elt) ρ=some (.lst (ds.map h)):=by
 rw[tP,h1,ue,h2,ue,oM (h:=h)]
 ·rfl
 ·intro d hd;obtain⟨ρ1,e1,e2,e3⟩:=h3 d hd;rw[e1,ue,e2,ue];show Option.map some (ev G elt ρ1)=_
  rw[e3];rfl
theorem aV:view []=[]:=id rfl
theorem eO{d:D}{r:List Sl}:view (.im d::r)=.im d::view r:=id rfl
theorem zJ{r:List Sl}:view (.un::r)=.un::view r:=id rfl
theorem NT{d:D}{r:List Sl}:view (.mu d::r)=.im d::view r:=id rfl
theorem KL{G:GS}{ρ:List Sl}{c:Str}(h:G.xn c=true):ex G (.rse c) ρ=some (.er c):=if_pos h
theorem SU{G:GS}{ρ:List Sl}{ce:IE}{hc k:Str}{hb:Option Nat}{r:HR}(h:gm G ce (view ρ)=some (.er k)):ex G (.tryx ce hc hb r) ρ=(if G.xn k&&G.xn hc&&G.sub k hc then(gy G k r).map .rt else none):=by
 show (match gm G ce (view ρ) with|some (.ok _)=>some (Out.nx ρ)|some (.er k)=>_|none=>_)=_
 rw[h]
theorem wF{G:GS}{ρ:List Sl}{tg:List Nat}{e:IE}:ex G (.sett tg e) ρ=(ev G e ρ).bind fun d=>(bK tg true d ρ).map .nx:=id rfl
theorem aJ{G:GS}{ρ ρ':List Sl}{a b:IS}{o:Out}(h1:ex G a ρ=some (.nx ρ'))(h2:ex G b ρ'=some o):ex G (.seq a b) ρ=some o:=by rw[KJ,h1];exact h2
theorem gU{G:GS}{ρ:List Sl}{a b:IS}{o:Out}(h1:ex G a ρ=some o)(h2:∀ρ',o≠.nx ρ'):ex G (.seq a b) ρ=some o:=by
 rw[KJ,h1];cases o<;>first|rfl|exact absurd rfl (h2 _)
theorem jV{G:GS}{ρ:List Sl}{a b:IS}{c:IE}{o:Option Out}(h1:ev G c (view ρ)=some (.bl true))(h2:ex G a ρ=o):ex G (.iff c a b) ρ=o:=by rw[KM,h1];exact h2
theorem cX{G:GS}{ρ:List Sl}{a b:IS}{c:IE}{o:Option Out}(h1:ev G c (view ρ)=some (.bl false))(h2:ex G b ρ=o):ex G (.iff c a b) ρ=o:=by rw[KM,h1];exact h2
theorem cC{G:GS}{ρ:List Sl}{a b:IE}{x y:Bool}(ha:ev G a ρ=some (.bl x))(hb:x=false→ev G b ρ=some (.bl y)):ev G (.or a b) ρ=some (.bl (x || y)):=by
 rw[UX,ha];cases x with
 |true=>rfl
 |false=>show ((ev G b ρ).bind _)=_;rw[hb rfl];rfl
theorem CG{G:GS}{ρ:List Sl}{a b:IE}{x y:Bool}(ha:ev G a ρ=some (.bl x))(hb:x=true→ev G b ρ=some (.bl y)):ev G (.and a b) ρ=some (.bl (x&&y)):=by
 rw[KR,ha];cases x with
 |false=>rfl
 |true=>show ((ev G b ρ).bind _)=_;rw[hb rfl];rfl
theorem aEX{xs:List D}:bf .len [.lst xs]=some (.int xs.length):=id rfl
theorem aAq{xs:List D}:bf .len [.frz xs]=some (.int xs.length):=id rfl
theorem aAp{xs:List D}:bf .len [.tup xs]=some (.int xs.length):=id rfl
theorem aAo{xs:List D}:bf .list [.lst xs]=some (.lst xs):=id rfl
theorem SG{xs:List D}:bf .list [.tup xs]=some (.lst xs):=id rfl
theorem eM{α:Type}{xs:List α}{k:Nat}{x:α}(h:xs[k]?=some x):atI xs (k:Int)=some x:=by
 have hl:=(q8.mp h).1
 unfold atI ixN;rw[if_pos (by lia),if_pos (by lia)]
 simpa using h
theorem aA{α β:Type}{a:α}{f:α→Option β}:(some a).bind f=f a:=id rfl
theorem aB{α β:Type}{a:α}{f:α→β}:(some a).map f=some (f a):=id rfl
theorem aEH{i:Int}:(Lit.int i).d=.int i:=id rfl
theorem aHK{b:Bool}:(Lit.bl b).d=.bl b:=id rfl
theorem aEF{x:Str}:(Lit.str x).d=.str x:=id rfl
theorem aEG:(Lit.non).d=.non:=id rfl
theorem zz:(∀G ρ k,ev G (.var k) ρ=slot ρ k)∧(∀G ρ l,ev G (.lit l) ρ=some l.d)∧(∀G ρ x,ev G (.glo x) ρ=G.cst x)∧(∀G ρ o a b,ev G (.bin o a b) ρ=(ev G a ρ).bind fun x=>(ev G b ρ).bind fun y=>ah o x y) ∧
  (∀G ρ a,ev G (.neg a) ρ=(ev G a ρ).bind fun x=>match x with | .int i=>some (.int (-i))|_=>none) ∧
  (∀G ρ a b,ev G (.and a b) ρ=(ev G a ρ).bind fun x=>match x with | .bl true=>((ev G b ρ).bind fun y=>match y with | .bl k=>some (.bl k)|_=>none) | .bl false=>some (.bl false)|_=>none) ∧
  (∀G ρ a b,ev G (.or a b) ρ=(ev G a ρ).bind fun x=>match x with | .bl false=>((ev G b ρ).bind fun y=>match y with | .bl k=>some (.bl k)|_=>none) | .bl true=>some (.bl true)|_=>none) ∧
  (∀G ρ a,ev G (.not a) ρ=(ev G a ρ).bind fun x=>match x with | .bl k=>some (.bl (!k))|_=>none)∧(∀G ρ a,ev G (.tr a) ρ=(ev G a ρ).bind fun x=>(dg x).map .bl) ∧
  (∀G ρ c a b,ev G (.ite c a b) ρ=(ev G c ρ).bind fun x=>match x with | .bl true=>ev G a ρ | .bl false=>ev G b ρ|_=>none) ∧
  (∀G ρ o o' a b c,ev G (.chain o o' a b c) ρ=(ev G b ρ).bind fun y=>(ev G a ρ).bind fun x=>(ah o x y).bind fun w=>match w with | .bl true=>(ev G c ρ).bind fun z=>ah o' y z | .bl false=>some (.bl false)|_=>none) ∧
  (∀G ρ,ev G .nil ρ=some (.tup []))∧(∀G ρ e es,ev G (.cons e es) ρ=(ev G e ρ).bind fun d=>(ev G es ρ).bind fun t=>match t with | .tup ds=>some (.tup (d::ds))|_=>none) ∧
  (∀G ρ es,ev G (.tup es) ρ=(bG (ev G es ρ)).map .tup)∧(∀G ρ es,ev G (.lst es) ρ=(bG (ev G es ρ)).map .lst) ∧
  (∀G ρ a b,ev G (.ix a b) ρ=(ev G a ρ).bind fun x=>(ev G b ρ).bind fun y=>(match x,y with | .lst xs,.int k=>atI xs k | .tup xs,.int k=>atI xs k | .frz xs,.int k=>atI xs k | .dct kvs,.int k=>dQ kvs k|_,_=>none)) ∧
  (∀G ρ a f,ev G (.fld a f) ρ=(ev G a ρ).bind fun x=>match x with | .obj c fs=>if (G.fl c).contains f then fs.lookup f else none|_=>none) ∧
  (∀G ρ f es,ev G (.call f es) ρ=(bG (ev G es ρ)).bind fun as=>iI (G.fn f as)) ∧
  (∀G ρ a m es,ev G (.meth a m es) ρ=(ev G a ρ).bind fun x=>match x with | .obj c fs=>(if (fs.lookup m).isNone then(bG (ev G es ρ)).bind fun as=>iI (G.me c m (.obj c fs::as)) else none)|_=>none) ∧
  (∀G ρ c es,ev G (.mk c es) ρ=(bG (ev G es ρ)).bind fun as=>iI (G.mo c as))∧(∀G ρ f es,ev G (.bcall f es) ρ=(bG (ev G es ρ)).bind fun as=>bf f as) ∧
  (∀G ρ a t,ev G (.isi a t) ρ=(ev G a ρ).bind fun x=>(iS G t x).map .bl)∧(∀G ρ k a,ev G (.walk k a) ρ=(ev G a ρ).bind fun x=>(items k x).map .lst) ∧
  (∀G ρ x b,ev G (.ixm x b) ρ=(lY ρ x).bind fun xs=>(intOf (ev G b ρ)).bind fun k=>atI xs k)∧(∀G ρ x,ev G (.lenm x) ρ=(lY ρ x).bind fun xs=>some (.int xs.length)) ∧
  (∀G ρ a bl lo bh hi,ev G (.sl a bl lo bh hi) ρ=(ev G a ρ).bind fun d=>(part bl (ev G lo ρ)).bind fun l=>(part bh (ev G hi ρ)).bind fun h=>(match d with
   |.lst xs=>some (.lst (cut xs l h))
   |.frz xs=>some (.lst (cut xs l h))
   |.tup xs=>if sIx xs.length 0 l=0∧sIx xs.length xs.length h=xs.length then none else some (.tup (cut xs l h))
   |_=>none)):=
 ⟨fun _ _ _=>oE,fun _ _ _=>aAw,fun _ _ _=>aAz,fun _ _ _ _ _=>bT,fun _ _ _=>aAu,fun _ _ _ _=>KR,fun _ _ _ _=>UX,fun _ _ _=>aAs,fun _ _ _=>UW,fun _ _ _ _ _=>tO,fun _ _ _ _ _ _ _=>wJ,fun _ _=>aAt,fun _ _ _ _=>bA,fun _ _ _=>yZ,fun _ _ _=>aAv,fun _ _ _ _=>aFa,fun _ _ _ _=>iW,fun _ _ _ _=>gA,fun _ _ _ _ _=>CF,fun _ _ _ _=>KP,fun _ _ _ _=>oG,fun _ _ _ _=>aAy,fun _ _ _ _=>SX,fun _ _ _ _=>aAx,fun _ _ _=>SY,fun _ _ _ _ _ _ _=>CD⟩
theorem yy:(∀ds,bG (some (.tup ds))=some ds)∧(∀d,iI (some (.ok d))=some d)∧(∀i j,ah .add (.int i) (.int j)=some (.int (i+j)))∧(∀i j,ah .sub (.int i) (.int j)=some (.int (i-j)))∧(∀i j,ah .lt (.int i) (.int j)=some (.bl (decide (i<j))))∧(∀i j,ah .le (.int i) (.int j)=some (.bl (decide (i≤j)))) ∧
  (∀i j,ah .gt (.int i) (.int j)=some (.bl (decide (j<i))))∧(∀i j,ah .ge (.int i) (.int j)=some (.bl (decide (j≤i))))∧(∀i j,ah .eq (.int i) (.int j)=some (.bl (i == j)))∧(∀i j,ah .ne (.int i) (.int j)=some (.bl (!(i == j))))∧(∀x y,ah .is (.bl x) (.bl y)=some (.bl (x == y)))∧(∀x y,ah .isnot (.bl x) (.bl y)=some (.bl (!(x == y)))) ∧
  (∀d r,slot (.im d::r) 0=some d)∧(∀x r k,slot (x::r) (k+1)=slot r k)∧(view []=[])∧(∀d r,view (.im d::r)=.im d::view r)∧(∀r,view (.un::r)=.un::view r)∧(∀d r,view (.mu d::r)=.im d::view r) ∧
  (∀xs,bf .len [.lst xs]=some (.int xs.length))∧(∀xs,bf .len [.frz xs]=some (.int xs.length))∧(∀xs,bf .len [.tup xs]=some (.int xs.length))∧(∀xs,bf .list [.lst xs]=some (.lst xs))∧(∀xs,bf .list [.tup xs]=some (.lst xs)) ∧
  (∀i,(Lit.int i).d=.int i)∧(∀b,(Lit.bl b).d=.bl b)∧(∀x,(Lit.str x).d=.str x)∧((Lit.non).d=.non):=
 ⟨fun _=>FZ,fun _=>RA,fun _ _=>aDG,fun _ _=>aDD,fun _ _=>aHr,fun _ _=>aHs,fun _ _=>aHt,fun _ _=>aHu,fun _ _=>aHv,fun _ _=>aDE,fun _ _=>aDF,fun _ _=>ZI,fun _ _=>slot0,fun _ _ _=>aCd,aV,fun _ _=>eO,fun _=>zJ,fun _ _=>NT,fun _=>aEX,fun _=>aAq,fun _=>aAp,fun _=>aAo,fun _=>SG,fun _=>aEH,fun _=>aHK,fun _=>aEF,aEG⟩
namespace Pg
noncomputable def iA:IS:=(.ret true (.comp 4 [(2,0),(3,1)] [1] false .rng (.tup (.cons (.var 0) .nil)) (.lit (.bl true)) (.lst (.cons (.tup (.cons (.bin .add (.bin .mul (.var 3) (.var 2)) (.var 1)) (.cons (.lit (.bl false)) (.cons (.lit (.bl false)) .nil)))) .nil))))
noncomputable def UZ(i:Int)(e n:Bool):D:=.tup [.int i,.bl e,.bl n]
noncomputable def mM(c y:Nat):List D:=(List.range c).map fun x=>.lst [UZ (y*c+x:Nat) false false]
theorem vQ{G:GS}{c y:Nat}(hc:c≤64)(hy:y≤64):aU G 2 iA [.int c,.int y]=some (.ok (.lst (mM c y))):=by
 have e:=wH (G:=G) (ρ:=[.im (.int c),.im (.int y)]) (n:=4) (fr:=[(2,0),(3,1)]) (tg:=[1]) (tp:=false) (k:=.rng) (src:=.tup (.cons (.var 0) .nil)) (test:=.lit (.bl true)) (elt:=.lst (.cons (.tup (.cons (.bin .add (.bin .mul (.var 3) (.var 2)) (.var 1)) (.cons (.lit (.bl false)) (.cons (.lit (.bl false)) .nil)))) .nil))
  (fun d=>match d with | .int x=>.lst [UZ (y*c+x) false false]|_=>.non) (s:=.tup [.int c]) (by simp only[zz,yy,aA,aB]) (yN (by lia)) (fun d hd=>by
   obtain⟨x,rfl,h1,h2⟩:=nP hd;refine⟨[.un,.im (.int x),.im (.int c),.im (.int y)],rfl,by simp only[zz,yy,aA,aB],?_⟩
   simp only[zz,yy,aA,aB,iG (show (-1000000:Int)≤y by lia) (show (y:Int)≤1000000 by lia)]
   rfl)
 refine aP (ρ:=[.im (.int c),.im (.int y)]) rfl (aZ (e.trans ?_));rw[jS];simp[mM]
noncomputable def bN(c r w h:Int)(T F S:List D):D:=.obj "Pile" [("columns",.int c),("rows",.int r),("wide",.int w),("high",.int h),("table",.lst T),("folds",.tup F),("severed",.tup S)]
noncomputable def fL(c r:Nat):List D:=(List.range r).map fun y=>.lst (mM c y)
noncomputable def sC:IS:=(.seq (.iff (.or (.bin .lt (.var 0) (.lit (.int 1))) (.or (.bin .lt (.var 1) (.lit (.int 1))) (.bin .gt (.bin .mul (.var 0) (.var 1)) (.glo "MOST_CELLS")))) (.rse "NoSheet") .nop) (.seq (.set 2 (.comp 3 [(2,0)] [1] false .rng (.tup (.cons (.var 1) .nil)) (.lit (.bl true)) (.call "laid_row" (.cons (.var 2) (.cons (.var 1) .nil))))) (.ret false (.mk "Pile" (.cons (.var 0) (.cons (.var 1) (.cons (.var 2) (.cons (.tup .nil) (.cons (.tup .nil) .nil)))))))))
section
variable {G:GS}
theorem ES(hm:G.cst "MOST_CELLS" = some (.int 64)){c r:Int}{ρ:List Sl}(hmul:ah .mul (.int c) (.int r)=some (.int (c*r)))(h0:slot ρ 0=some (.int c))(h1:slot ρ 1=some (.int r)) :
  ev G (.or (.bin .lt (.var 0) (.lit (.int 1))) (.or (.bin .lt (.var 1) (.lit (.int 1))) (.bin .gt (.bin .mul (.var 0) (.var 1)) (.glo "MOST_CELLS")))) ρ=some (.bl (decide (c<1) || (decide (r<1) || decide (64<c*r)))):=by
 refine cC (by simp only[zz,yy,aA,aB,h0]) fun _=>cC (by simp only[zz,yy,aA,aB,h1]) fun _=>?_
 simp only[zz,yy,aA,aB,h0,h1,hmul,hm]
theorem RT(hm:G.cst "MOST_CELLS" = some (.int 64))(hrow:∀c y:Nat,c≤64→y≤64→G.fn "laid_row" [.int c,.int y]=some (.ok (.lst (mM c y))))
  (j8:∀(c r:Int) (T row:List D),T[0]?=some (.lst row)→G.mo "Pile" [.int c,.int r,.lst T,.tup [],.tup []]=some (.ok (bN c r row.length T.length T [] []))) {c r:Nat} (hc:1≤c) (hr:1≤r) (bb:c*r≤64) :
  aU G 3 sC [.int c,.int r]=some (.ok (bN c r c r (fL c r) [] [])):=by
 have f6:c≤64:=se (Nat.le_mul_of_pos_right c hr) bb
 have hr2:r≤64:=se (Nat.le_mul_of_pos_left r hc) bb
 have e:=wH (G:=G) (ρ:=[.im (.int c),.im (.int r),.un]) (n:=3) (fr:=[(2,0)]) (tg:=[1]) (tp:=false) (k:=.rng) (src:=.tup (.cons (.var 1) .nil)) (test:=.lit (.bl true)) (elt:=.call "laid_row" (.cons (.var 2) (.cons (.var 1) .nil)))
  (fun d=>match d with | .int y=>.lst (mM c y.toNat)|_=>.non) (s:=.tup [.int r]) (by simp only[zz,yy,aA,aB]) (yN (by lia)) (fun d hd=>by
   obtain⟨y,rfl,h1,h2⟩:=nP hd;obtain⟨k,rfl⟩:∃k:Nat,y=k:=⟨y.toNat,by lia⟩
   refine⟨[.un,.im (.int k),.im (.int c)],rfl,by simp only[zz,yy,aA,aB],?_⟩
   simp only[zz,yy,aA,aB,hrow c k f6 (by lia)]
   rfl)
 have e2:(cK 0 (r:Int)).map (fun d=>match d with | .int y=>D.lst (mM c y.toNat)|_=>.non)=fL c r:=by
  rw[jS];simp[fL]
 rw[e2]at e;have hmul:ah .mul (.int (c:Int)) (.int (r:Int))=some (.int (c*r)):=iG (by lia) (by lia)
 have ht:(fL c r)[0]?=some (.lst (mM c 0)):=by unfold fL;rw[qk,ui hr];rfl
 have e3:=j8 c r (fL c r) (mM c 0) ht
 have l1:(mM c 0).length=c:=by simp[mM]
 have l2:(fL c r).length=r:=by simp[fL]
 rw[l1,l2]at e3;refine aP (ρ:=[.im (.int c),.im (.int r),.un]) rfl (aJ (cX ?_ aX) (aJ (aR e) (aZ ?_)))
 ·rw[eO,eO,zJ,aV,ES hm hmul (by simp only[zz,yy,aA,aB]) (by simp only[zz,yy,aA,aB])]
  have h3:((c:Int)*r)≤64:=by exact_mod_cast bb
  rw[qp (show ¬(c:Int)<1 by lia),qp (show ¬(r:Int)<1 by lia),qp (show ¬64<(c:Int)*r by lia)]
  rfl
 ·show ev G _ [.im (.int c),.im (.int r),.im (.lst (fL c r))]=_
  simp only[zz,yy,aA,aB,e3]
end
noncomputable def cw:List Str:=["columns","rows","wide","high","table","folds","severed"]
section
variable {G:GS}{c r w h:Int}{T F S:List D}{ρ:List Sl}{a:IE}
theorem lJ(hf:G.fl "Pile" = cw)(e:ev G a ρ=some (bN c r w h T F S)):ev G (.fld a "columns") ρ=some (.int c):=by rw[iW,e];show (if (G.fl "Pile").contains _ then _ else _)=_;rw[hf];rfl
theorem xX(hf:G.fl "Pile" = cw)(e:ev G a ρ=some (bN c r w h T F S)):ev G (.fld a "rows") ρ=some (.int r):=by rw[iW,e];show (if (G.fl "Pile").contains _ then _ else _)=_;rw[hf];rfl
theorem hJ(hf:G.fl "Pile" = cw)(e:ev G a ρ=some (bN c r w h T F S)):ev G (.fld a "wide") ρ=some (.int w):=by rw[iW,e];show (if (G.fl "Pile").contains _ then _ else _)=_;rw[hf];rfl
theorem hU(hf:G.fl "Pile" = cw)(e:ev G a ρ=some (bN c r w h T F S)):ev G (.fld a "high") ρ=some (.int h):=by rw[iW,e];show (if (G.fl "Pile").contains _ then _ else _)=_;rw[hf];rfl
theorem rR(hf:G.fl "Pile" = cw)(e:ev G a ρ=some (bN c r w h T F S)):ev G (.fld a "table") ρ=some (.lst T):=by rw[iW,e];show (if (G.fl "Pile").contains _ then _ else _)=_;rw[hf];rfl
theorem AC(hf:G.fl "Pile" = cw)(e:ev G a ρ=some (bN c r w h T F S)):ev G (.fld a "folds") ρ=some (.tup F):=by rw[iW,e];show (if (G.fl "Pile").contains _ then _ else _)=_;rw[hf];rfl
theorem jG(hf:G.fl "Pile" = cw)(e:ev G a ρ=some (bN c r w h T F S)):ev G (.fld a "severed") ρ=some (.tup S):=by rw[iW,e];show (if (G.fl "Pile").contains _ then _ else _)=_;rw[hf];rfl
theorem xZ{m:Str}{es:IE}{ds:List D}{o:Option Rs}(hm:([("columns",D.int c),("rows",.int r),("wide",.int w),("high",.int h),("table",.lst T),("folds",.tup F),("severed",.tup S)]:List (Str×D)).lookup m=none)(e:ev G a ρ=some (bN c r w h T F S))(ea:ev G es ρ=some (.tup ds))(eo:G.me "Pile" m (bN c r w h T F S::ds)=o):ev G (.meth a m es) ρ=iI o:=by
 rw[CF,e];show (if (List.lookup m _).isNone=true then _ else _)=_
 rw[hm,ea];show iI (G.me "Pile" m (bN c r w h T F S::ds))=_
 rw[eo]
noncomputable def sD:IS:=(.seq (.iff (.or (.bin .lt (.var 1) (.lit (.int 0))) (.or (.bin .ge (.var 1) (.fld (.var 0) "wide")) (.or (.bin .lt (.var 2) (.lit (.int 0))) (.bin .ge (.var 2) (.fld (.var 0) "high"))))) (.rse "NoPlace") .nop) (.ret true (.bcall .list (.cons (.ix (.ix (.fld (.var 0) "table") (.var 2)) (.var 1)) .nil))))
theorem FA(hf:G.fl "Pile" = cw){x y:Int}:ev G (.or (.bin .lt (.var 1) (.lit (.int 0))) (.or (.bin .ge (.var 1) (.fld (.var 0) "wide")) (.or (.bin .lt (.var 2) (.lit (.int 0))) (.bin .ge (.var 2) (.fld (.var 0) "high"))))) [.im (bN c r w h T F S),.im (.int x),.im (.int y)] =
  some (.bl (decide (x<0) || (decide (w≤x) || (decide (y<0) || decide (h≤y))))):=by
 have e0:ev G (.var 0) [.im (bN c r w h T F S),.im (.int x),.im (.int y)]=some (bN c r w h T F S):=by simp only[zz,yy,aA,aB]
 refine cC (by simp only[zz,yy,aA,aB]) fun _=>cC ?_ fun _=>cC (by simp only[zz,yy,aA,aB]) fun _=>?_
 ·rw[bT,hJ hf e0];simp only[zz,yy,aA,aB]
 ·rw[bT,hU hf e0];simp only[zz,yy,aA,aB]
theorem SA(hf:G.fl "Pile" = cw){x y:Nat}{row hp:List D}(hw:(x:Int)<w)(hh:(y:Int)<h)(h1:T[y]?=some (.lst row))(h2:row[x]?=some (.lst hp)):aU G 3 sD [bN c r w h T F S,.int x,.int y]=some (.ok (.lst hp)):=by
 have e0:ev G (.var 0) [.im (bN c r w h T F S),.im (.int x),.im (.int y)]=some (bN c r w h T F S):=by simp only[zz,yy,aA,aB]
 refine aP (ρ:=[.im (bN c r w h T F S),.im (.int x),.im (.int y)]) rfl (aJ (cX ?_ aX) (aZ ?_))
 ·rw[eO,eO,eO,aV,FA hf];rw[qp (show ¬(x:Int)<0 by lia),qp (show ¬w≤(x:Int) by lia),qp (show ¬(y:Int)<0 by lia),qp (show ¬h≤(y:Int) by lia)]
  rfl
 ·simp only[zz,yy,aA,aB,rR hf e0,eM h1,eM h2]
noncomputable def jL:IS:=(.seq (.iff (.bin .lt (.var 1) (.bcall .len (.cons (.var 0) .nil))) (.ret false (.ix (.var 0) (.var 1))) .nop) (.ret false (.lit (.int 0))))
noncomputable def bg(ns:List Int)(k:Nat):Int:=ns.getD k 0
theorem zC{ns:List Int}{k:Nat}:aU G 2 jL [.frz (ns.map .int),.int k]=some (.ok (.int (bg ns k))):=by
 have e:ev G (.bin .lt (.var 1) (.bcall .len (.cons (.var 0) .nil))) [.im (.frz (ns.map .int)),.im (.int k)]=some (.bl (decide ((k:Int)<ns.length))):=by
  simp only[zz,yy,aA,aB,ql]
 by_cases hk:k<ns.length
 ·refine aP (ρ:=[.im (.frz (ns.map .int)),.im (.int k)]) rfl (gU (jV ?_ (aZ (d:=.int (bg ns k)) ?_)) (fun _ z=>by cases z))
  ·rw[eO,eO,aV,e,sv (by lia)]
  ·have:(ns.map D.int)[k]?=some (.int (bg ns k)):=by
    unfold bg;rw[qk,q9,qj hk];rfl
   simp only[zz,yy,aA,aB,eM this]
 ·refine aP (ρ:=[.im (.frz (ns.map .int)),.im (.int k)]) rfl (aJ (cX ?_ aX) (aZ ?_))
  ·rw[eO,eO,aV,e,qp (by lia)]
  ·have:bg ns k=0:=by
    unfold bg;rw[q9,List.getElem?_eq_none (by lia)];rfl
   simp only[zz,yy,aA,aB,this]
noncomputable def mY:IS:=(.ret false (.and (.isi (.var 0) "int") (.not (.tr (.isi (.var 0) "bool")))))
theorem vT{i:Int}:iS G "int" (.int i)=some true:=by simp only[iS];rw[if_pos trivial]
theorem rW{i:Int}:iS G "bool" (.int i)=some false:=by simp only[iS];rw[if_neg (by decide +kernel),if_pos (.inl trivial)]
theorem iR{b:Bool}:iS G "bool" (.bl b)=some true:=by simp only[iS];rw[if_pos (.inr trivial)]
theorem AM{xs:List D}:iS G "list" (.lst xs)=some true:=by simp only[iS];rw[if_pos trivial]
theorem AL{xs:List D}:iS G "tuple" (.tup xs)=some true:=by simp only[iS];rw[if_pos trivial]
theorem GF{i:Int}:aU G 1 mY [.int i]=some (.ok (.bl true)):=by
 refine aP (ρ:=[.im (.int i)]) rfl (aZ ?_);simp only[zz,yy,aA,aB,vT,rW,dg];rfl
end
end Pg
theorem wV{α:Type}{f:D→Option (Option D)}{enc:α→D}{g:α→D}:∀{L:List α},(∀a∈L,f (enc a)=some (some (g a)))→bU f (L.map enc)=some (L.map g)
 |[],_=>rfl
 |a::r,e=>by
  rw[su];unfold bU;rw[e a (ug),wV fun x hx=>e x (qt _ hx)]
  rfl
theorem dG{α:Type}{G:GS}{ρ:List Sl}{n:Nat}{fr:List (Nat×Nat)}{tg:List Nat}{tp:Bool}{k:Src}{src test elt:IE}{s:D}{L:List α}(enc g:α→D)(h1:ev G src ρ=some s)(h2:items k s=some (L.map enc))
  (h3:∀a∈L,∃ρ1,bK tg tp (enc a) (frame n fr ρ)=some ρ1∧ev G test ρ1=some (.bl true)∧ev G elt ρ1=some (g a)):ev G (.comp n fr tg tp k src test elt) ρ=some (.lst (L.map g)):=by
 rw[tP,h1,ue,h2,ue,wV (g:=g)]
 ·rfl
 ·intro a ha;obtain⟨ρ1,e1,e2,e3⟩:=h3 a ha;rw[e1,ue,e2,ue];show Option.map some (ev G elt ρ1)=_
  rw[e3];rfl
theorem eR{n:Nat}(h:n≤1000000):items .rng (.tup [.int (n:Int)])=some ((List.range n).map fun (k:Nat)=>D.int k):=by rw[yN h,jS]
theorem eA{xs:List D}:items .seq (.lst xs)=some xs:=id rfl
theorem yO{xs:List D}:items .rev (.lst xs)=some xs.reverse:=id rfl
namespace Pg
abbrev Cell:=Int×Bool×Bool
abbrev cR:=List Cell
abbrev aY:=List cR
abbrev Table:=List aY
noncomputable def di(c:Cell):D:=.tup [.int c.1,.bl c.2.1,.bl c.2.2]
noncomputable def hE(h:cR):D:=.lst (h.map di)
noncomputable def sE(s:aY):D:=.lst (s.map hE)
noncomputable def tE(T:Table):D:=.lst (T.map sE)
inductive Side|west|east|north|south deriving DecidableEq
noncomputable def Side.str:Side→Str
 |.west=>"west" | .east=>"east" | .north=>"north" | .south=>"south"
noncomputable def Side.up:Side→Bool
 |.west=>true | .east=>true | .north=>false | .south=>false
noncomputable def Side.near:Side→Bool
 |.west=>true | .east=>false | .north=>true | .south=>false
noncomputable def fU(up:Bool)(c:Cell):Cell:=if up then(c.1,!c.2.1,c.2.2) else(c.1,c.2.1,!c.2.2)
noncomputable def eE(up:Bool)(h:cR):cR:=h.reverse.map (fU up)
noncomputable def dR(up:Bool)(p:aY):aY:=p.map (eE up)
noncomputable def tog(u l:aY):aY:=(List.range (max u.length l.length)).map fun k=>u.getD k []++l.getD k []
noncomputable def bV(mv st:aY)(over:Bool):aY:=tog (if over then mv else st) (if over then st else mv)
noncomputable def cQ(sd:Side)(over:Bool)(c:Nat)(s:aY):aY:=
 if sd.near then bV (dR sd.up (s.take c).reverse) (s.drop c) over else(bV (dR sd.up (s.drop c)) (s.take c).reverse over).reverse
noncomputable def width(T:Table):Nat:=(T.getD 0 []).length
noncomputable def transp(T:Table):Table:=(List.range (width T)).map fun x=>T.map fun s=>s.getD x []
noncomputable def foldT(sd:Side)(over:Bool)(c:Nat)(T:Table):Table:=if sd.up then T.map (cQ sd over c) else transp ((transp T).map (cQ sd over c))
section
variable {G:GS}
noncomputable def cUP:D:=.tup [.str "west",.str "east"]
noncomputable def cLV:D:=.tup [.str "north",.str "south"]
noncomputable def cNR:D:=.tup [.str "west",.str "north"]
theorem yB{a:D}{ys:List D}{b:Bool}(hp:(plain a&&ys.all plain)=true)(hb:(ys.any fun y=>b6 y a)=b):ah .isin a (.tup ys)=some (.bl b):=by
 simp only[ah,oIn];rw[if_pos hp,hb]
theorem JU{sd:Side}:ah .isin (.str sd.str) cUP=some (.bl sd.up):=by cases sd<;>exact yB (by decide +kernel) (by decide +kernel)
theorem JV{sd:Side}:ah .isin (.str sd.str) cLV=some (.bl (!sd.up)):=by cases sd<;>exact yB (by decide +kernel) (by decide +kernel)
theorem aEL{sd:Side}:ah .isin (.str sd.str) cNR=some (.bl sd.near):=by cases sd<;>exact yB (by decide +kernel) (by decide +kernel)
noncomputable def jK:IS:=(.ret false (.ite (.bin .lt (.var 1) (.bcall .len (.cons (.var 0) .nil))) (.ix (.var 0) (.var 1)) (.lst .nil)))
theorem yR{p:aY}{k:Nat}:aU G 2 jK [sE p,.int k]=some (.ok (hE (p.getD k []))):=by
 refine aP (ρ:=[.im (sE p),.im (.int k)]) rfl (aZ ?_);have e:ev G (.bin .lt (.var 1) (.bcall .len (.cons (.var 0) .nil))) [.im (sE p),.im (.int k)]=some (.bl (decide ((k:Int)<p.length))):=by
  unfold sE;simp only[zz,yy,aA,aB,ql]
 by_cases hk:k<p.length
 ·have h1:(p.map hE)[k]?=some (hE (p.getD k [])):=by rw[qk,q9,qj hk];rfl
  rw[tO,e,sv (by lia)]
  unfold sE;simp only[zz,yy,aA,aB,eM h1]
 ·have h1:p.getD k []=[]:=by rw[q9,List.getElem?_eq_none (by lia)];rfl
  rw[tO,e,qp (by lia),h1]
  simp only[zz,yy,aA,aB];rfl
noncomputable def eT:IS:=(.seq (.iff (.bin .isin (.var 1) (.glo "UPRIGHT_SIDES")) (.ret true (.comp 4 [] [1,2,3] true .rev (.var 0) (.lit (.bl true)) (.tup (.cons (.var 1) (.cons (.not (.tr (.var 2))) (.cons (.var 3) .nil)))))) .nop) (.ret true (.comp 4 [] [1,2,3] true .rev (.var 0) (.lit (.bl true)) (.tup (.cons (.var 1) (.cons (.var 2) (.cons (.not (.tr (.var 3))) .nil)))))))
theorem nF(hc:G.cst "UPRIGHT_SIDES" = some cUP){h:cR}{sd:Side}:aU G 2 eT [hE h,.str sd.str]=some (.ok (hE (eE sd.up h))):=by
 have et:ev G (.bin .isin (.var 1) (.glo "UPRIGHT_SIDES")) (view [.im (hE h),.im (.str sd.str)])=some (.bl sd.up):=by simp only[zz,yy,aA,aB,hc,JU]
 have er:items .rev (hE h)=some (h.reverse.map di):=by unfold hE;rw[yO,List.map_reverse]
 cases hs:sd.up with
 |true =>
  refine aP (ρ:=[.im (hE h),.im (.str sd.str)]) rfl (gU (jV (et.trans (by rw[hs])) (aZ (d:=hE (eE true h)) ?_)) (fun _ z=>by cases z))
  have e:=dG (G:=G) (ρ:=[.im (hE h),.im (.str sd.str)]) (n:=4) (fr:=[]) (tg:=[1,2,3]) (tp:=true) (k:=.rev) (src:=.var 0) (test:=.lit (.bl true)) (elt:=.tup (.cons (.var 1) (.cons (.not (.tr (.var 2))) (.cons (.var 3) .nil)))) (L:=h.reverse) di (fun c=>di (fU true c)) (by simp only[zz,yy,aA,aB]) er (fun c _=>⟨[.un,.im (.int c.1),.im (.bl c.2.1),.im (.bl c.2.2)],rfl,by simp only[zz,yy,aA,aB],by simp only[zz,yy,aA,aB,dg];rfl⟩)
  rw[e];unfold hE eE;rw[uq];rfl
 |false =>
  refine aP (ρ:=[.im (hE h),.im (.str sd.str)]) rfl (aJ (cX (et.trans (by rw[hs])) aX) (aZ ?_))
  have e:=dG (G:=G) (ρ:=[.im (hE h),.im (.str sd.str)]) (n:=4) (fr:=[]) (tg:=[1,2,3]) (tp:=true) (k:=.rev) (src:=.var 0) (test:=.lit (.bl true)) (elt:=.tup (.cons (.var 1) (.cons (.var 2) (.cons (.not (.tr (.var 3))) .nil)))) (L:=h.reverse) di (fun c=>di (fU false c)) (by simp only[zz,yy,aA,aB]) er (fun c _=>⟨[.un,.im (.int c.1),.im (.bl c.2.1),.im (.bl c.2.2)],rfl,by simp only[zz,yy,aA,aB],by simp only[zz,yy,aA,aB,dg];rfl⟩)
  rw[e];unfold hE eE;rw[uq];rfl
noncomputable def eS:IS:=(.ret true (.comp 3 [(2,1)] [1] false .seq (.var 0) (.lit (.bl true)) (.call "turned_heap" (.cons (.var 1) (.cons (.var 2) .nil)))))
theorem nE(ht:∀(h:cR) (sd:Side),G.fn "turned_heap" [hE h,.str sd.str]=some (.ok (hE (eE sd.up h)))){p:aY}{sd:Side}:aU G 2 eS [sE p,.str sd.str]=some (.ok (sE (dR sd.up p))):=by
 refine aP (ρ:=[.im (sE p),.im (.str sd.str)]) rfl (aZ ?_);refine(dG (L:=p) hE (fun h=>hE (eE sd.up h)) (s:=sE p) (by simp only[zz,yy,aA,aB]) (by unfold sE;exact eA) (fun h _=>⟨[.un,.im (hE h),.im (.str sd.str)],rfl,by simp only[zz,yy,aA,aB],by simp only[zz,yy,aA,aB,ht]⟩)).trans ?_
 unfold sE dR;rw[uq];rfl
theorem aHJ{a b:Nat}:bf .max [.int (a:Int),.int (b:Int)]=some (.int ((max a b:Nat):Int)):=by
 simp only[bf,KI]
 by_cases h:(b:Int) > a
 ·rw[if_pos h];rw[Nat.max_eq_right (by lia)]
 ·rw[if_neg h];rw[Nat.max_eq_left (by lia)]
theorem aIc{a b:cR}(h:a.length+b.length≤1000000):ah .add (hE a) (hE b)=some (hE (a++b)):=by
 unfold hE;simp only[ah,RD];rw[if_pos (by simp only[ql];exact h),uk]
noncomputable def dJ:IS:=(.seq (.set 3 (.ite (.tr (.var 2)) (.var 0) (.var 1))) (.seq (.set 4 (.ite (.tr (.var 2)) (.var 1) (.var 0))) (.seq (.set 5 (.bcall .max (.cons (.bcall .len (.cons (.var 3) .nil)) (.cons (.bcall .len (.cons (.var 4) .nil)) .nil)))) (.ret true (.comp 4 [(2,4),(3,3)] [1] false .rng (.tup (.cons (.var 5) .nil)) (.lit (.bl true)) (.bin .add (.call "heap_at" (.cons (.var 3) (.cons (.var 1) .nil))) (.call "heap_at" (.cons (.var 2) (.cons (.var 1) .nil)))))))))
def Few(b:Nat)(p:aY):Prop:=∀h∈p,h.length≤b
theorem Few.at_{b:Nat}{p:aY}(h:Few b p)(k:Nat):(p.getD k []).length≤b:=by
 rw[q9];cases e:p[k]? with
 |none=>exact uw _
 |some x=>exact h x (qh e)
theorem lM(hh:∀(p:aY) (k:Nat),G.fn "heap_at" [sE p,.int k]=some (.ok (hE (p.getD k [])))){mv st:aY}{over:Bool}(l1:mv.length≤1000)(l2:st.length≤1000)(f1:Few 400000 mv)(f2:Few 400000 st):aU G 6 dJ [sE mv,sE st,.bl over]=some (.ok (sE (bV mv st over))):=by
 have key:∀u l:aY,u.length≤1000→l.length≤1000→Few 400000 u→Few 400000 l→∀s0 s1 s2,ex G (.seq (.set 5 (.bcall .max (.cons (.bcall .len (.cons (.var 3) .nil)) (.cons (.bcall .len (.cons (.var 4) .nil)) .nil)))) (.ret true (.comp 4 [(2,4),(3,3)] [1] false .rng (.tup (.cons (.var 5) .nil)) (.lit (.bl true)) (.bin .add (.call "heap_at" (.cons (.var 3) (.cons (.var 1) .nil))) (.call "heap_at" (.cons (.var 2) (.cons (.var 1) .nil)))))))
   [s0,s1,s2,.im (sE u),.im (sE l),.un]=some (.rt (sE (tog u l))):=fun u l a1 a2 b1 b2 s0 s1 s2=>by
  refine aJ (aR (d:=.int ((max u.length l.length:Nat):Int)) (by unfold sE;simp only[zz,yy,aA,aB,ql,aHJ])) (aZ ?_)
  show ev G _ [s0,s1,s2,.im (sE u),.im (sE l),.im (.int ((max u.length l.length:Nat):Int))]=_
  refine(dG (L:=List.range (max u.length l.length)) (fun k=>.int (k:Nat)) (fun k=>hE (u.getD k []++l.getD k [])) (s:=.tup [.int ((max u.length l.length:Nat):Int)]) (by simp only[zz,yy,aA,aB]) (eR (by lia)) (fun k _=>⟨[.un,.im (.int k),.im (sE l),.im (sE u)],rfl,by simp only[zz,yy,aA,aB],?_⟩)).trans ?_
  ·have:=b1.at_ k
   have:=b2.at_ k
   simp only[zz,yy,aA,aB,hh,aIc (show (u.getD k []).length+(l.getD k []).length≤1000000 by lia)]
  ·unfold tog sE;rw[uq];rfl
 cases over with
 |true=>exact aP (ρ:=[.im (sE mv),.im (sE st),.im (.bl true),.un,.un,.un]) rfl (aJ (aR (d:=sE mv) (by simp only[zz,yy,aA,aB,dg])) (aJ (aR (d:=sE st) (by simp only[List.set];simp only[zz,yy,aA,aB,dg])) (key mv st l1 l2 f1 f2 _ _ _)))
 |false=>exact aP (ρ:=[.im (sE mv),.im (sE st),.im (.bl false),.un,.un,.un]) rfl (aJ (aR (d:=sE st) (by simp only[zz,yy,aA,aB,dg])) (aJ (aR (d:=sE mv) (by simp only[List.set];simp only[zz,yy,aA,aB,dg])) (key st mv l2 l1 f2 f1 _ _ _)))
end
theorem LD{α:Type}{xs:List α}{c:Nat}:cut xs none (some (c:Int))=xs.take c:=by
 simp only[cut,sIx];rw[if_neg (by lia)]
 simp only[drop_zero,Nat.sub_zero,Int.toNat_natCast]
 by_cases h:c≤xs.length
 ·rw[min_eq_left h]
 ·rw[Nat.min_eq_right (by lia),List.take_of_length_le (by lia),List.take_of_length_le (by lia)]
theorem LF{α:Type}{xs:List α}{c:Nat}:cut xs (some (c:Int)) none=xs.drop c:=by
 simp only[cut,sIx];rw[if_neg (by lia)]
 simp only[Int.toNat_natCast]
 by_cases h:c≤xs.length
 ·rw[min_eq_left h,List.take_of_length_le (by rw[v3];exact qm _)]
 ·rw[Nat.min_eq_right (by lia),List.drop_of_length_le (by lia),List.drop_of_length_le (by lia),List.take_nil]
theorem Few.sub{b:Nat}{p q:aY}(h:Few b p)(s:∀x∈q,x∈p):Few b q:=fun x hx=>h x (s x hx)
theorem Few.turn{b:Nat}{p:aY}{u:Bool}(h:Few b p):Few b (dR u p):=by
 intro x hx;unfold dR at hx;obtain⟨y,hy,rfl⟩:=t8.mp hx;unfold eE;rw[ql,ux];exact h y hy
theorem rG{u l:aY}:(tog u l).length=max u.length l.length:=by unfold tog;simp
theorem gW{u l:aY}{over:Bool}:(bV u l over).length=max u.length l.length:=by
 unfold bV;cases over with
 |true=>exact rG
 |false=>rw[Nat.max_comm];exact rG
theorem gL{u:Bool}{p:aY}:(dR u p).length=p.length:=by unfold dR;simp
theorem FG{sd:Side}{over:Bool}{c:Nat}{s:aY}(h:c≤s.length):(cQ sd over c s).length=max c (s.length-c):=by
 unfold cQ;split
 ·rw[gW,gL,ux,tm,v3,min_eq_left h]
 ·rw[ux,gW,gL,ux,tm,v3,min_eq_left h,Nat.max_comm]
section
variable {G:GS}
noncomputable def eC:IS:=(.seq (.set 4 (.walk .rev (.sl (.var 0) false (.lit .non) true (.var 3)))) (.seq (.set 5 (.sl (.var 0) true (.var 3) false (.lit .non))) (.seq (.iff (.bin .isin (.var 1) (.glo "NEAR_SIDES")) (.ret false (.call "laid_together" (.cons (.call "turned_part" (.cons (.var 4) (.cons (.var 1) .nil))) (.cons (.var 5) (.cons (.var 2) .nil))))) .nop) (.seq (.set 6 (.call "laid_together" (.cons (.call "turned_part" (.cons (.var 5) (.cons (.var 1) .nil))) (.cons (.var 4) (.cons (.var 2) .nil))))) (.ret true (.walk .rev (.var 6)))))))
theorem mR(hc:G.cst "NEAR_SIDES" = some cNR)(ht:∀(p:aY) (sd:Side),G.fn "turned_part" [sE p,.str sd.str]=some (.ok (sE (dR sd.up p))))
  (hl:∀(mv st:aY) (over:Bool),mv.length≤1000→st.length≤1000→Few 400000 mv→Few 400000 st→G.fn "laid_together" [sE mv,sE st,.bl over]=some (.ok (sE (bV mv st over)))) {s:aY} {sd:Side} {over:Bool} {c:Nat} (ls:s.length≤1000) (hf:Few 400000 s) :
  aU G 7 eC [sE s,.str sd.str,.bl over,.int c]=some (.ok (sE (cQ sd over c s))):=by
 have a1:Few 400000 (s.take c).reverse:=hf.sub fun x hx=>mem_of_mem_take (mem_reverse.mp hx)
 have a2:Few 400000 (s.drop c):=hf.sub fun x hx=>mem_of_mem_drop hx
 have l1:(s.take c).reverse.length≤1000:=by rw[ux,tm];lia
 have l2:(s.drop c).length≤1000:=by rw[v3];lia
 have e1:ev G (.walk .rev (.sl (.var 0) false (.lit .non) true (.var 3))) [.im (sE s),.im (.str sd.str),.im (.bl over),.im (.int c),.un,.un,.un]=some (sE (s.take c).reverse):=by
  unfold sE;simp only[zz,yy,aA,aB,part,intOf];simp only[qr,if_false,if_true];simp only[zz,yy,aA,aB,LD,yO];rw[←List.map_take,←List.map_reverse]
 have e2:ev G (.sl (.var 0) true (.var 3) false (.lit .non)) [.im (sE s),.im (.str sd.str),.im (.bl over),.im (.int c),.im (sE (s.take c).reverse),.un,.un]=some (sE (s.drop c)):=by
  unfold sE;simp only[zz,yy,aA,aB,part,intOf];simp only[qr,if_false,if_true];simp only[zz,yy,aA,aB,LF];rw[←List.map_drop]
 have et:ev G (.bin .isin (.var 1) (.glo "NEAR_SIDES")) (view [.im (sE s),.im (.str sd.str),.im (.bl over),.im (.int c),.im (sE (s.take c).reverse),.im (sE (s.drop c)),.un])=some (.bl sd.near):=by simp only[zz,yy,aA,aB,hc,aEL]
 refine aP (ρ:=[.im (sE s),.im (.str sd.str),.im (.bl over),.im (.int c),.un,.un,.un]) rfl (aJ (aR e1) (aJ (aR e2) ?_));show ex G _ [.im (sE s),.im (.str sd.str),.im (.bl over),.im (.int c),.im (sE (s.take c).reverse),.im (sE (s.drop c)),.un]=_
 cases hn:sd.near with
 |true =>
  refine gU (jV (et.trans (by rw[hn])) (aZ ?_)) (fun _ z=>by cases z)
  unfold cQ;rw[if_pos hn];simp only[zz,yy,aA,aB,ht,hl (dR sd.up (s.take c).reverse) (s.drop c) over (by rw[gL];exact l1) l2 a1.turn a2]
 |false =>
  refine aJ (cX (et.trans (by rw[hn])) aX) (aJ (aR (d:=sE (bV (dR sd.up (s.drop c)) (s.take c).reverse over)) ?_) (aZ ?_))
  ·simp only[zz,yy,aA,aB,ht,hl (dR sd.up (s.drop c)) (s.take c).reverse over (by rw[gL];exact l2) l1 a2.turn a1]
  ·show ev G _ [.im (sE s),.im (.str sd.str),.im (.bl over),.im (.int c),.im (sE (s.take c).reverse),.im (sE (s.drop c)),.im (sE (bV (dR sd.up (s.drop c)) (s.take c).reverse over))]=_
   unfold cQ;rw[if_neg (by rw[hn];decide)]
   unfold sE;simp only[zz,yy,aA,aB,yO];rw[←List.map_reverse]
noncomputable def fY:IS:=(.ret true (.comp 3 [(2,1)] [1] false .seq (.var 0) (.lit (.bl true)) (.ix (.var 1) (.var 2))))
theorem tX{T:Table}{x:Nat}(h:∀s∈T,x<s.length):aU G 2 fY [tE T,.int x]=some (.ok (sE (T.map fun s=>s.getD x []))):=by
 refine aP (ρ:=[.im (tE T),.im (.int x)]) rfl (aZ ?_);refine(dG (L:=T) sE (fun s=>hE (s.getD x [])) (s:=tE T) (by simp only[zz,yy,aA,aB]) (by unfold tE;exact eA) (fun s hs=>⟨[.un,.im (sE s),.im (.int x)],rfl,by simp only[zz,yy,aA,aB],?_⟩)).trans ?_
 ·have h1:(s.map hE)[x]?=some (hE (s.getD x [])):=by rw[qk,q9,qj (h s hs)];rfl
  unfold sE;simp only[zz,yy,aA,aB,eM h1]
 ·unfold sE;rw[uq];rfl
structure Rect (T:Table) (w h:Nat):Prop where
 len:T.length=h
 row:∀s∈T,s.length=w
 h1:1≤h
 w1:1≤w
theorem Rect.width{T:Table}{w h:Nat}(r:Rect T w h):Pg.width T=w:=by
 obtain⟨len,row,h1,w1⟩:=r;unfold Pg.width;rw[q9,qj (by lia)]
 exact row _ (v5 _)
theorem Rect.transp{T:Table}{w h:Nat}(r:Rect T w h):Rect (transp T) h w:=by
 refine⟨?_,fun s hs=>?_,r.w1,r.h1⟩
 ·unfold Pg.transp;rw[ql,rh,r.width]
 ·unfold Pg.transp at hs;obtain⟨x,_,rfl⟩:=t8.mp hs;rw[ql,r.len]
noncomputable def fB:IS:=(.ret true (.comp 3 [(2,0)] [1] false .rng (.tup (.cons (.bcall .len (.cons (.ix (.var 0) (.lit (.int 0))) .nil)) .nil)) (.lit (.bl true)) (.call "column_of" (.cons (.var 2) (.cons (.var 1) .nil)))))
theorem oV(hc:∀(T:Table) (x:Nat),(∀s∈T,x<s.length)→G.fn "column_of" [tE T,.int x]=some (.ok (sE (T.map fun s=>s.getD x [])))){T:Table}{w h:Nat}(r:Rect T w h)(hw:w≤1000):aU G 1 fB [tE T]=some (.ok (tE (transp T))):=by
 refine aP (ρ:=[.im (tE T)]) rfl (aZ ?_);have h0:(T.map sE)[0]?=some (sE (T.getD 0 [])):=by
  have:=r.len;have:=r.h1
  rw[qk,q9,qj (by lia)];rfl
 have e0:atI (T.map sE) 0=some (sE (T.getD 0 [])):=eM (k:=0) h0
 refine(dG (L:=List.range (width T)) (fun k=>.int (k:Nat)) (fun x=>sE (T.map fun s=>s.getD x [])) (s:=.tup [.int (width T:Nat)]) ?_ (eR (by rw[r.width];lia)) (fun x hx=>⟨[.un,.im (.int x),.im (tE T)],rfl,by simp only[zz,yy,aA,aB],?_⟩)).trans ?_
 ·unfold tE;simp only[zz,yy,aA,aB,e0];unfold sE;simp only[zz,yy,aA,aB,ql];rfl
 ·have dt:x<w:=by rw[←r.width];exact uv.mp hx
  simp only[zz,yy,aA,aB,hc T x (fun s hs=>by rw[r.row s hs];exact dt)]
 ·unfold tE transp;rw[uq];rfl
def pG(b:Nat)(T:Table):Prop:=∀s∈T,Few b s
theorem pG.transp{b:Nat}{T:Table}(h:pG b T):pG b (transp T):=by
 intro s hs;unfold Pg.transp at hs;obtain⟨x,_,rfl⟩:=t8.mp hs;intro y hy;obtain⟨s,hs,rfl⟩:=t8.mp hy;exact(h s hs).at_ x
theorem Rect.fold{T:Table}{w h:Nat}{sd:Side}{over:Bool}{c:Nat}(r:Rect T w h)(h1:1≤c)(h2:c<w):Rect (T.map (cQ sd over c)) (max c (w-c)) h:=by
 refine⟨by rw[ql,r.len],fun s hs=>?_,r.h1,by lia⟩
 obtain⟨s',cz,rfl⟩:=t8.mp hs;rw[FG (by rw[r.row s' cz];lia),r.row s' cz]
theorem Rect.foldT{T:Table}{w h:Nat}{sd:Side}{over:Bool}{c:Nat}(r:Rect T w h)(h1:1≤c)(h2:c<if sd.up then w else h):Rect (foldT sd over c T) (if sd.up then max c (w-c) else w) (if sd.up then h else max c (h-c)):=by
 unfold Pg.foldT;cases hs:sd.up with
 |true=>rw[hs]at h2;exact r.fold h1 h2
 |false=>rw[hs]at h2;exact(r.transp.fold h1 h2).transp
noncomputable def eB:IS:=(.seq (.iff (.bin .isin (.var 1) (.glo "UPRIGHT_SIDES")) (.ret true (.comp 5 [(2,3),(3,2),(4,1)] [1] false .seq (.var 0) (.lit (.bl true)) (.call "folded_strip" (.cons (.var 1) (.cons (.var 4) (.cons (.var 3) (.cons (.var 2) .nil))))))) .nop) (.seq (.set 4 (.comp 5 [(2,3),(3,2),(4,1)] [1] false .seq (.call "transposed" (.cons (.var 0) .nil)) (.lit (.bl true)) (.call "folded_strip" (.cons (.var 1) (.cons (.var 4) (.cons (.var 3) (.cons (.var 2) .nil))))))) (.ret false (.call "transposed" (.cons (.var 4) .nil)))))
theorem mQ(hc:G.cst "UPRIGHT_SIDES" = some cUP)(ht:∀(T:Table) (w h:Nat),Rect T w h→w≤1000→G.fn "transposed" [tE T]=some (.ok (tE (transp T))))
  (hs:∀(s:aY) (sd:Side) (over:Bool) (c:Nat),s.length≤1000→Few 400000 s→G.fn "folded_strip" [sE s,.str sd.str,.bl over,.int c]=some (.ok (sE (cQ sd over c s)))) {T:Table} {w h:Nat} {sd:Side} {over:Bool} {c:Nat} (r:Rect T w h) (hw:w≤1000) (hh:h≤1000) (hf:pG 400000 T) (h1:1≤c) (h2:c<if sd.up then w else h) :
  aU G 5 eB [tE T,.str sd.str,.bl over,.int c]=some (.ok (tE (foldT sd over c T))):=by
 have et:ev G (.bin .isin (.var 1) (.glo "UPRIGHT_SIDES")) (view [.im (tE T),.im (.str sd.str),.im (.bl over),.im (.int c),.un])=some (.bl sd.up):=by simp only[zz,yy,aA,aB,hc,JU]
 cases hu:sd.up with
 |true =>
  refine aP (ρ:=[.im (tE T),.im (.str sd.str),.im (.bl over),.im (.int c),.un]) rfl (gU (jV (et.trans (by rw[hu])) (aZ ?_)) (fun _ z=>by cases z))
  refine(dG (L:=T) sE (fun s=>sE (cQ sd over c s)) (s:=tE T) (by simp only[zz,yy,aA,aB]) (by unfold tE;exact eA) (fun s cz=>⟨[.un,.im (sE s),.im (.int c),.im (.bl over),.im (.str sd.str)],rfl,by simp only[zz,yy,aA,aB],?_⟩)).trans ?_
  ·simp only[zz,yy,aA,aB,hs s sd over c (by rw[r.row s cz];exact hw) (hf s cz)]
  ·unfold tE foldT;rw[if_pos hu,uq];rfl
 |false =>
  rw[hu]at h2;have h2:c<h:=h2
  refine aP (ρ:=[.im (tE T),.im (.str sd.str),.im (.bl over),.im (.int c),.un]) rfl (aJ (cX (et.trans (by rw[hu])) aX) (aJ (aR (d:=tE ((transp T).map (cQ sd over c))) ?_) (aZ ?_)))
  ·refine(dG (L:=transp T) sE (fun s=>sE (cQ sd over c s)) (s:=tE (transp T)) (by simp only[zz,yy,aA,aB,ht T w h r hw]) (by unfold tE;exact eA) (fun s cz=>⟨[.un,.im (sE s),.im (.int c),.im (.bl over),.im (.str sd.str)],rfl,by simp only[zz,yy,aA,aB],?_⟩)).trans ?_
   ·simp only[zz,yy,aA,aB,hs s sd over c (by rw[r.transp.row s cz];exact hh) (hf.transp s cz)]
   ·unfold tE;rw[uq];rfl
  ·show ev G _ [.im (tE T),.im (.str sd.str),.im (.bl over),.im (.int c),.im (tE ((transp T).map (cQ sd over c)))]=_
   unfold foldT;rw[if_neg (by rw[hu];decide)]
   simp only[zz,yy,aA,aB,ht ((transp T).map (cQ sd over c)) (max c (h-c)) w (r.transp.fold h1 h2) (by lia)]
end
noncomputable def aL(c r w h:Nat)(T:Table)(F S:List D):D:=bN c r w h (T.map sE) F S
noncomputable def eZ(c r:Nat):Table:=(List.range r).map fun y=>(List.range c).map fun x=>[(((y*c+x:Nat):Int),false,false)]
theorem uN{c r:Nat}:fL c r=(eZ c r).map sE:=by
 unfold fL eZ mM;rw[uq]
 congr 1
 funext y
 show _=D.lst (((List.range c).map _).map hE)
 rw[uq];rfl
theorem FI{c r:Nat}(hc:1≤c)(hr:1≤r):Rect (eZ c r) c r:=by
 refine⟨by unfold eZ;simp,fun s hs=>?_,hr,hc⟩
 unfold eZ at hs;obtain⟨y,_,rfl⟩:=t8.mp hs;simp
section
variable {G:GS}{c r w h:Nat}{T:Table}{F S:List D}
noncomputable def dA:IS:=(.iff (.tr (.fld (.var 0) "severed")) (.rse "Severed") .nop)
theorem kH(hf:G.fl "Pile" = cw):aU G 1 dA [aL c r w h T F []]=some (.ok .non):=by
 have e0:ev G (.var 0) (view [.im (aL c r w h T F [])])=some (bN c r w h (T.map sE) F []):=by simp only[zz,yy,aA,aB];rfl
 refine zQ (ρ:=[.im (aL c r w h T F [])]) (ρ':=[.im (aL c r w h T F [])]) rfl (cX ?_ aX);rw[UW,jG hf e0];rfl
noncomputable def fE:IS:=(.seq (.iff (.bin .isin (.var 1) (.glo "UPRIGHT_SIDES")) (.ret false (.chain .le .lt (.lit (.int 1)) (.var 2) (.fld (.var 0) "wide"))) .nop) (.seq (.iff (.bin .isin (.var 1) (.glo "LEVEL_SIDES")) (.ret false (.chain .le .lt (.lit (.int 1)) (.var 2) (.fld (.var 0) "high"))) .nop) (.ret false (.lit (.bl false)))))
theorem wX{ρ:List Sl}{a:IE}{i j:Int}(h1:slot ρ 2=some (.int i))(h2:ev G a ρ=some (.int j)):ev G (.chain .le .lt (.lit (.int 1)) (.var 2) a) ρ=some (.bl (decide (1≤i)&&decide (i<j))):=by
 rw[wJ,oE,h1];simp only[zz,yy,aA,aB];cases hb:decide (1≤i) with
 |true=>rw[h2];simp only[zz,yy,aA,aB];rfl
 |false=>rfl
theorem oZ(hf:G.fl "Pile" = cw)(h1:G.cst "UPRIGHT_SIDES" = some cUP)(h2:G.cst "LEVEL_SIDES" = some cLV){sd:Side}{i:Int}:aU G 3 fE [aL c r w h T F S,.str sd.str,.int i]=some (.ok (.bl (decide (1≤i)&&decide (i<((if sd.up then w else h:Nat):Int))))):=by
 have e0:ev G (.var 0) [.im (aL c r w h T F S),.im (.str sd.str),.im (.int i)]=some (bN c r w h (T.map sE) F S):=by simp only[zz,yy,aA,aB];rfl
 have et:ev G (.bin .isin (.var 1) (.glo "UPRIGHT_SIDES")) (view [.im (aL c r w h T F S),.im (.str sd.str),.im (.int i)])=some (.bl sd.up):=by simp only[zz,yy,aA,aB,h1,JU]
 have el:ev G (.bin .isin (.var 1) (.glo "LEVEL_SIDES")) (view [.im (aL c r w h T F S),.im (.str sd.str),.im (.int i)])=some (.bl (!sd.up)):=by simp only[zz,yy,aA,aB,h2,JV]
 cases hu:sd.up with
 |true=>exact aP (ρ:=[.im (aL c r w h T F S),.im (.str sd.str),.im (.int i)]) rfl (gU (jV (et.trans (by rw[hu])) (aZ (wX (by simp only[zz,yy,aA,aB]) (hJ hf e0)))) (fun _ z=>by cases z))
 |false=>exact aP (ρ:=[.im (aL c r w h T F S),.im (.str sd.str),.im (.int i)]) rfl (aJ (cX (et.trans (by rw[hu])) aX) (gU (jV (el.trans (by rw[hu];rfl)) (aZ (wX (by simp only[zz,yy,aA,aB]) (hU hf e0)))) (fun _ z=>by cases z)))
noncomputable def eY(sd:Side)(over:Bool)(k:Nat):D:=.tup [.str sd.str,.bl over,.int k]
noncomputable def kO:IS:=(.seq (.drop (.call "refuse_severed" (.cons (.var 0) .nil))) (.seq (.iff (.not (.tr (.call "has_crease" (.cons (.var 0) (.cons (.var 1) (.cons (.var 3) .nil)))))) (.rse "NoFold") .nop) (.seq (.set 4 (.call "folded_table" (.cons (.fld (.var 0) "table") (.cons (.var 1) (.cons (.var 2) (.cons (.var 3) .nil)))))) (.seq (.set 5 (.bin .add (.fld (.var 0) "folds") (.tup (.cons (.tup (.cons (.var 1) (.cons (.var 2) (.cons (.var 3) .nil)))) .nil)))) (.ret false (.mk "Pile" (.cons (.fld (.var 0) "columns") (.cons (.fld (.var 0) "rows") (.cons (.var 4) (.cons (.var 5) (.cons (.fld (.var 0) "severed") .nil)))))))))))
theorem aFN{a b:List D}(h:a.length+b.length≤1000000):ah .add (.tup a) (.tup b)=some (.tup (a++b)):=by
 simp only[ah,RD];rw[if_pos (by unfold big;exact h)]
theorem CB{ρ:List Sl}{e:IE}{d:D}(h:ev G e (view ρ)=some d):ex G (.drop e) ρ=some (.nx ρ):=by
 show (match ev G e (view ρ) with|some _=>some (Out.nx ρ)|none=>_)=_
 rw[h]
theorem FE(hf:G.fl "Pile" = cw)(hsv:∀(c r w h:Nat) (T:Table) (F:List D),G.fn "refuse_severed" [aL c r w h T F []]=some (.ok .non))
  (bb:∀(c r w h:Nat) (T:Table) (F S:List D) (sd:Side) (i:Int),G.fn "has_crease" [aL c r w h T F S,.str sd.str,.int i]=some (.ok (.bl (decide (1≤i)&&decide (i<((if sd.up then w else h:Nat):Int))))))
  (hft:∀(T:Table) (w h:Nat) (sd:Side) (over:Bool) (k:Nat),Rect T w h→w≤1000→h≤1000→pG 400000 T→1≤k→(k<if sd.up then w else h)→G.fn "folded_table" [tE T,.str sd.str,.bl over,.int k]=some (.ok (tE (foldT sd over k T))))
  (j8:∀(c r:Int) (T row:List D) (F S:List D),T[0]?=some (.lst row)→G.mo "Pile" [.int c,.int r,.lst T,.tup F,.tup S]=some (.ok (bN c r row.length T.length T F S)))
  {sd:Side} {over:Bool} {k:Nat} (R:Rect T w h) (hw:w≤1000) (hh:h≤1000) (hfew:pG 400000 T) (h1:1≤k) (h2:k<if sd.up then w else h) (hF:F.length≤1000) :
  aU G 6 kO [aL c r w h T F [],.str sd.str,.bl over,.int k]=some (.ok (aL c r (if sd.up then max k (w-k) else w) (if sd.up then h else max k (h-k)) (foldT sd over k T) (F++[eY sd over k]) [])):=by
 have R':=R.foldT (over:=over) h1 h2
 have e0:∀s4 s5,ev G (.var 0) [.im (aL c r w h T F []),.im (.str sd.str),.im (.bl over),.im (.int k),s4,s5]=some (bN c r w h (T.map sE) F []):=fun _ _=>by simp only[zz,yy,aA,aB];rfl
 have ht:=hft T w h sd over k R hw hh hfew h1 h2
 unfold tE at ht;have em:=j8 c r ((foldT sd over k T).map sE) (((foldT sd over k T).getD 0 []).map hE) (F++[eY sd over k]) [] (by
  have:=R'.len;have:=R'.h1
  rw[qk,q9,qj (by lia)];rfl)
 rw[ql,ql,R'.len,show ((foldT sd over k T).getD 0 []).length=_ from R'.width]at em
 refine aP (ρ:=[.im (aL c r w h T F []),.im (.str sd.str),.im (.bl over),.im (.int k),.un,.un]) rfl ?_;refine aJ (CB (d:=.non) (by simp only[zz,yy,aA,aB,hsv])) (aJ (cX ?_ aX) (aJ (aR (d:=.lst ((foldT sd over k T).map sE)) ?_) (aJ (aR (d:=.tup (F++[eY sd over k])) ?_) (aZ ?_))))
 ·have hb:(decide ((1:Int)≤(k:Int))&&decide ((k:Int)<((if sd.up then w else h:Nat):Int)))=true:=by
   rw[qv,rg,rg];exact⟨by lia,by exact_mod_cast h2⟩
  simp only[zz,yy,aA,aB,bb,hb,dg,so]
 ·rw[gA,bA,rR hf (e0 _ _)];simp only[zz,yy,aA,aB,ht]
 ·show ev G _ [.im (aL c r w h T F []),.im (.str sd.str),.im (.bl over),.im (.int k),.im (.lst ((foldT sd over k T).map sE)),.un]=_
  rw[bT,AC hf (e0 _ _)];simp only[zz,yy,aA,aB,aFN (show F.length + [D.tup [.str sd.str,.bl over,.int k]].length≤1000000 by simp only[uj,List.length_nil];lia)]
  rfl
 ·show ev G _ [.im (aL c r w h T F []),.im (.str sd.str),.im (.bl over),.im (.int k),.im (.lst ((foldT sd over k T).map sE)),.im (.tup (F++[eY sd over k]))]=_
  rw[KP,bA,lJ hf (e0 _ _),bA,xX hf (e0 _ _)];simp only[zz,yy,aA,aB,jG hf (e0 _ _),em];rfl
noncomputable def gT:IS:=(.seq (.set 3 (.or (.bin .eq (.var 1) (.lit (.int 1))) (.and (.bin .gt (.var 2) (.lit (.int 1))) (.bin .eq (.bin .mod (.var 0) (.lit (.int 2))) (.lit (.int 1)))))) (.seq (.set 4 (.ite (.tr (.var 3)) (.var 2) (.var 1))) (.seq (.set 5 (.ite (.tr (.var 3)) (.lst (.cons (.lit (.str "north")) (.cons (.lit (.str "south")) .nil))) (.lst (.cons (.lit (.str "west")) (.cons (.lit (.str "east")) .nil))))) (.ret false (.tup (.cons (.ix (.var 5) (.bin .mod (.bin .fdiv (.var 0) (.lit (.int 2))) (.lit (.int 2)))) (.cons (.bin .eq (.bin .mod (.bin .fdiv (.var 0) (.lit (.int 4))) (.lit (.int 2))) (.lit (.int 1))) (.cons (.bin .add (.lit (.int 1)) (.bin .mod (.bin .fdiv (.var 0) (.lit (.int 8))) (.bin .sub (.var 4) (.lit (.int 1))))) .nil))))))))
theorem mod2(i:Int):i % 2=0∨i % 2=1:=by lia
theorem yW{cell:Int}(hw:1≤w)(hh:1≤h)(hwh:1<w*h):∃(sd:Side) (over:Bool) (k:Nat),1≤k∧(k<if sd.up then w else h)∧aU G 6 gT [.int cell,.int w,.int h]=some (.ok (eY sd over k)):=by
 have m2:∀i:Int,ah .mod (.int i) (.int 2)=some (.int (i % 2)):=fun i=>gO (by decide)
 have d2:∀i:Int,ah .fdiv (.int i) (.int 2)=some (.int (i / 2)):=fun i=>lZ (by decide) (by decide)
 have d4:∀i:Int,ah .fdiv (.int i) (.int 4)=some (.int (i / 4)):=fun i=>lZ (by decide) (by decide)
 have d8:∀i:Int,ah .fdiv (.int i) (.int 8)=some (.int (i / 8)):=fun i=>lZ (by decide) (by decide)
 have e3:ev G (.or (.bin .eq (.var 1) (.lit (.int 1))) (.and (.bin .gt (.var 2) (.lit (.int 1))) (.bin .eq (.bin .mod (.var 0) (.lit (.int 2))) (.lit (.int 1))))) [.im (.int cell),.im (.int w),.im (.int h),.un,.un,.un]=some (.bl (((w:Int) == 1) || (decide (1<(h:Int))&&(cell % 2 == 1)))):=
  cC (by simp only[zz,yy,aA,aB]) fun _=>CG (by simp only[zz,yy,aA,aB]) fun _=>by simp only[zz,yy,aA,aB,m2]
 have s01:∀{a b:D},atI [a,b] 0=some a:=fun {a b}=>eM (k:=0) rfl
 have gd:∀{a b:D},atI [a,b] 1=some b:=fun {a b}=>eM (k:=1) rfl
 have fin:∀(lv:Bool) (ext:Nat) (a b:Side),(((w:Int) == 1) || (decide (1<(h:Int))&&(cell % 2 == 1)))=lv→ext=(if lv then h else w)→2≤ext→(a=if lv then .north else .west)→(b=if lv then .south else .east) →
   ∃(sd:Side) (over:Bool) (k:Nat),1≤k∧(k<if sd.up then w else h)∧aU G 6 gT [.int cell,.int w,.int h]=some (.ok (eY sd over k)):=by
  intro lv ext a b h1 h2 h3 ha hb;have mx:ah .mod (.int (cell / 8)) (.int ((ext:Int)-1))=some (.int (cell / 8 % ((ext:Int)-1))):=gO (by lia)
  have r0:=Int.emod_nonneg (cell / 8) (show ((ext:Int)-1)≠0 by lia)
  have r1:=Int.emod_lt_of_pos (cell / 8) (show (0:Int)<(ext:Int)-1 by lia)
  have hk:(((1+cell / 8 % ((ext:Int)-1)).toNat:Nat):Int)=1+cell / 8 % ((ext:Int)-1):=by lia
  have up_a:(if a.up then w else h)=ext:=by subst ha h2;cases lv<;>rfl
  have up_b:(if b.up then w else h)=ext:=by subst hb h2;cases lv<;>rfl
  have e4:ev G (.ite (.tr (.var 3)) (.var 2) (.var 1)) [.im (.int cell),.im (.int w),.im (.int h),.im (.bl lv),.un,.un]=some (.int ext):=by subst h2;cases lv<;>simp only[zz,yy,aA,aB,dg]<;>rfl
  have e5:ev G (.ite (.tr (.var 3)) (.lst (.cons (.lit (.str "north")) (.cons (.lit (.str "south")) .nil))) (.lst (.cons (.lit (.str "west")) (.cons (.lit (.str "east")) .nil)))) [.im (.int cell),.im (.int w),.im (.int h),.im (.bl lv),.im (.int ext),.un]=some (.lst [.str a.str,.str b.str]):=by subst ha hb;cases lv<;>simp only[zz,yy,aA,aB,dg]<;>rfl
  rcases mod2 (cell / 2) with q|q
  ·refine⟨a,(cell / 4 % 2 == 1),(1+cell / 8 % ((ext:Int)-1)).toNat,by lia,by rw[up_a];lia,?_⟩
   refine aP (ρ:=[.im (.int cell),.im (.int w),.im (.int h),.un,.un,.un]) rfl (aJ (aR (e3.trans (by rw[h1]))) (aJ (aR e4) (aJ (aR e5) (aZ ?_))))
   show ev G _ [.im (.int cell),.im (.int w),.im (.int h),.im (.bl lv),.im (.int ext),.im (.lst [.str a.str,.str b.str])]=_
   simp only[zz,yy,aA,aB,d2,m2,q,s01,d4,d8,mx];unfold eY;rw[hk]
  ·refine⟨b,(cell / 4 % 2 == 1),(1+cell / 8 % ((ext:Int)-1)).toNat,by lia,by rw[up_b];lia,?_⟩
   refine aP (ρ:=[.im (.int cell),.im (.int w),.im (.int h),.un,.un,.un]) rfl (aJ (aR (e3.trans (by rw[h1]))) (aJ (aR e4) (aJ (aR e5) (aZ ?_))))
   show ev G _ [.im (.int cell),.im (.int w),.im (.int h),.im (.bl lv),.im (.int ext),.im (.lst [.str a.str,.str b.str])]=_
   simp only[zz,yy,aA,aB,d2,m2,q,gd,d4,d8,mx];unfold eY;rw[hk]
 cases hb:(((w:Int) == 1) || (decide (1<(h:Int))&&(cell % 2 == 1))) with
 |true =>
  refine fin true h .north .south hb rfl ?_ rfl rfl;rw[or_eq_true,qv,t7,rg]at hb
  rcases hb with hb|hb
  ·have:w=1:=by lia
   subst this;lia
  ·lia
 |false =>
  refine fin false w .west .east hb rfl ?_ rfl rfl;rw[Bool.or_eq_false_iff]at hb;have:(w:Int)≠1:=by simpa using hb.1
  lia
end
end Pg
theorem bX{s:Sl}{r:List Sl}:view (s::r)=cU s::view r:=id rfl
theorem KN{G:GS}{ρ:List Sl}{f:Str}{es:IE}{as:List D}{k:Str}(ha:bG (ev G es (view ρ))=some as)(h:G.fn f as=some (.er k))(hx:G.xn k=true):ex G (.drop (.call f es)) ρ=some (.er k):=by
 show (match ev G (.call f es) (view ρ) with|some _=>some (Out.nx ρ)|none=>match gm G (.call f es) (view ρ) with|some (.er k)=>if G.xn k then some (Out.er k) else none|_=>none)=_
 rw[gA,ha];show (match iI (G.fn f as) with|some _=>some (Out.nx ρ)|none=>match (bG (ev G es (view ρ))).bind (G.fn f) with|some (.er k)=>if G.xn k then some (Out.er k) else none|_=>none)=_
 rw[ha,h];show (match G.fn f as with|some (.er k)=>if G.xn k then some (Out.er k) else none|_=>none)=_
 rw[h];exact if_pos hx
namespace Pg
def Full(s:aY):Prop:=∀h∈s,h≠[]
def jR(T:Table):Prop:=∀s∈T,Full s
theorem getD_mem{s:aY}{k:Nat}(h:k<s.length):s.getD k []∈s:=by
 rw[q9,qj h];exact v5 h
theorem Full.turn{s:aY}{u:Bool}(h:Full s):Full (dR u s):=by
 intro x hx;unfold dR at hx;obtain⟨y,hy,rfl⟩:=t8.mp hx;unfold eE;intro z;exact h y hy (by simpa using z)
theorem Full.tog{u l:aY}(h1:Full u)(h2:Full l):Full (tog u l):=by
 intro x hx;unfold Pg.tog at hx;obtain⟨k,hk,rfl⟩:=t8.mp hx;have hk:=uv.mp hk
 intro z;have z:=List.append_eq_nil_iff.mp z
 by_cases e:k<u.length
 ·exact h1 _ (getD_mem e) z.1
 ·exact h2 _ (getD_mem (by lia)) z.2
theorem Full.sub{s t:aY}(h:Full s)(q:∀x∈t,x∈s):Full t:=fun x hx=>h x (q x hx)
theorem yX{sd:Side}{over:Bool}{c:Nat}{s:aY}(h:Full s):Full (cQ sd over c s):=by
 have a1:Full (s.take c).reverse:=h.sub fun x hx=>mem_of_mem_take (mem_reverse.mp hx)
 have a2:Full (s.drop c):=h.sub fun x hx=>mem_of_mem_drop hx
 have t:∀{u l:aY},Full u→Full l→Full (bV u l over):=fun {u l} p q=>by
  unfold bV;cases over with
  |true=>exact p.tog q
  |false=>exact q.tog p
 unfold cQ;split
 ·exact t a1.turn a2
 ·exact(t a2.turn a1).sub fun x hx=>mem_reverse.mp hx
theorem jR.transp{T:Table}{w h:Nat}(r:Rect T w h)(f:jR T):jR (transp T):=by
 intro s hs;unfold Pg.transp at hs;obtain⟨x,hx,rfl⟩:=t8.mp hs;have hx:=uv.mp hx
 intro y hy;obtain⟨t,ht,rfl⟩:=t8.mp hy;exact f t ht _ (getD_mem (by rw[r.row t ht,←r.width];exact hx))
theorem jR.foldT{T:Table}{w h:Nat}{sd:Side}{over:Bool}{c:Nat}(r:Rect T w h)(f:jR T)(h1:1≤c)(h2:c<if sd.up then w else h):jR (foldT sd over c T):=by
 have g:∀{U:Table},jR U→jR (U.map (cQ sd over c)):=fun {U} q s hs=>by
  obtain⟨s',cz,rfl⟩:=t8.mp hs;exact yX (q s' cz)
 unfold Pg.foldT;cases hu:sd.up with
 |true=>exact g f
 |false =>
  rw[hu]at h2;exact(g (f.transp r)).transp (r.transp.fold h1 h2)
theorem FJ{c r:Nat}:jR (eZ c r):=by
 intro s hs;unfold eZ at hs;obtain⟨y,_,rfl⟩:=t8.mp hs;intro h hh;obtain⟨x,_,rfl⟩:=t8.mp hh;exact List.cons_ne_nil _ _
structure Spot where
 x:Nat
 y:Nat
 z:Int
 e:Bool
 n:Bool
noncomputable def aj(T:Table)(x y:Nat):cR:=(T.getD y []).getD x []
noncomputable def bq(sp:List Spot)(k:Int):Int:=match sp[k.toNat]? with
 |some s=>s.z
 |none=>0
structure Lk (T:Table) (sp:List Spot):Prop where
 mem:∀(x y:Nat) (c:Cell),c∈aj T x y↔∃(i:Nat) (s:Spot),sp[i]?=some s∧s.x=x∧s.y=y∧c=((i:Int),s.e,s.n)
 ord:∀x y:Nat,(aj T x y).Pairwise (fun a b=>bq sp b.1<bq sp a.1)
noncomputable def Spot.al(up:Bool)(s:Spot):Nat:=if up then s.x else s.y
noncomputable def Spot.ac(up:Bool)(s:Spot):Nat:=if up then s.y else s.x
noncomputable def sH(c p:Nat):Nat:=if c≤p then p-c else c-1-p
noncomputable def dX(nr:Bool)(c gr p:Nat):Nat:=if nr then sH c p else gr-1-sH c p
noncomputable def moves(nr:Bool)(c p:Nat):Bool:=decide (c≤p) != nr
noncomputable def cP(sd:Side)(over:Bool)(c gr:Nat)(top low:Int)(s:Spot):Spot:=
 {x:=if sd.up then dX sd.near c gr (s.al sd.up) else s.x
  y:=if sd.up then s.y else dX sd.near c gr (s.al sd.up)
  z:=if moves sd.near c (s.al sd.up) then(if over then 2*top+1-s.z else 2*low-1-s.z) else s.z
  e:=if moves sd.near c (s.al sd.up)&&sd.up then !s.e else s.e
  n:=if moves sd.near c (s.al sd.up)&&!sd.up then !s.n else s.n }
theorem kD{sd:Side}{over:Bool}{c gr:Nat}{top low:Int}{s:Spot}:(cP sd over c gr top low s).al sd.up=dX sd.near c gr (s.al sd.up):=by
 unfold cP Spot.al;cases sd.up<;>rfl
theorem nJ{sd:Side}{over:Bool}{c gr:Nat}{top low:Int}{s:Spot}:(cP sd over c gr top low s).ac sd.up=s.ac sd.up:=by
 unfold cP Spot.ac;cases sd.up<;>rfl
noncomputable def hA(up:Bool)(T:Table)(p q:Nat):cR:=if up then aj T p q else aj T q p
theorem getD_map{α β:Type}{f:α→β}{l:List α}{k:Nat}{d:β}{d':α}(h:f d'=d):(l.map f).getD k d=f (l.getD k d'):=by
 rw[q9,q9,qk];cases l[k]?<;>simp[h]
theorem getD_none{α:Type}{l:List α}{k:Nat}{d:α}(h:l.length≤k):l.getD k d=d:=by
 rw[q9,List.getElem?_eq_none h];rfl
theorem pJ{u:Bool}:eE u []=[]:=rfl
theorem uW{s:aY}{c k:Nat}(hc:c≤s.length):(s.take c).reverse.getD k []=if k<c then s.getD (c-1-k) [] else []:=by
 by_cases h:k<c
 ·rw[if_pos h,q9,List.getElem?_reverse (by rw[tm];lia),tm,min_eq_left hc,List.getElem?_take,if_pos (by lia),q9]
 ·rw[if_neg h];exact getD_none (by rw[ux,tm];lia)
theorem cM{s:aY}{c k:Nat}:(s.drop c).getD k []=s.getD (c+k) []:=by
 rw[q9,getElem?_drop,q9]
theorem GK{u l:aY}{k:Nat}:(tog u l).getD k []=u.getD k []++l.getD k []:=by
 by_cases h:k<max u.length l.length
 ·unfold tog;rw[q9,qk,ui h];rfl
 ·rw[getD_none (by rw[rG];lia),getD_none (by lia),getD_none (by lia)];rfl
noncomputable def qB(over:Bool)(m s:cR):cR:=if over then m++s else s++m
theorem lW{m s:aY}{over:Bool}{k:Nat}:(bV m s over).getD k []=qB over (m.getD k []) (s.getD k []):=by
 unfold bV qB;cases over
 ·exact GK
 ·exact GK
theorem uM{u:Bool}{p:aY}{k:Nat}:(dR u p).getD k []=eE u (p.getD k []):=by unfold dR;exact getD_map pJ
noncomputable def dh(c g:Nat)(s:Nat→cR):cR:=if g<c then s (c-1-g) else []
noncomputable def yC(sd:Side)(over:Bool)(c g:Nat)(s:Nat→cR):cR:=qB over (eE sd.up (if sd.near then dh c g s else s (c+g))) (if sd.near then s (c+g) else dh c g s)
theorem KC{sd:Side}{over:Bool}{c:Nat}{s:aY}(hc:c≤s.length){k:Nat}(hk:k<max c (s.length-c)) :
  (cQ sd over c s).getD k []=yC sd over c (if sd.near then k else max c (s.length-c)-1-k) fun j=>s.getD j []:=by
 unfold cQ yC dh;cases hn:sd.near with
 |true =>
  simp only[if_true];rw[lW,uM,uW hc,cM]
 |false =>
  simp only[qr,if_false];have hl:(bV (dR sd.up (s.drop c)) (s.take c).reverse over).length=max c (s.length-c):=by
   rw[gW,gL,ux,tm,v3,min_eq_left hc,Nat.max_comm]
  rw[q9,List.getElem?_reverse (by rw[hl];exact hk),hl,←q9,lW,uM,uW hc,cM]
theorem pL{T:Table}{w h:Nat}(r:Rect T w h){x y:Nat}:aj (transp T) x y=aj T y x:=by
 unfold aj
 by_cases hy:y<w
 ·have e1:(transp T).getD y []=T.map fun s=>s.getD y []:=by
   unfold transp;rw[r.width,q9,qk,ui hy];rfl
  rw[e1];exact getD_map (f:=fun s:aY=>s.getD y []) (by simp)
 ·rw[show (transp T).getD y []=[] from getD_none (by unfold transp;rw[ql,rh,r.width];lia)]
  rw[show ([]:aY).getD x []=[] by simp]
  by_cases hx:x<T.length
  ·have hm:T.getD x []∈T:=by rw[q9,qj hx];exact v5 hx
   rw[getD_none (by rw[r.row _ hm];lia)]
  ·rw[getD_none (l:=T) (by lia)];simp
noncomputable def ext(sd:Side)(w h:Nat):Nat:=if sd.up then w else h
theorem yS{T:Table}{w h:Nat}(r:Rect T w h){sd:Side}{p q:Nat}(hp:ext sd w h≤p):hA sd.up T p q=[]:=by
 unfold hA;unfold ext at hp;unfold aj;cases hu:sd.up with
 |true =>
  rw[hu]at hp;simp only[if_true]at hp ⊢
  by_cases hq:q<T.length
  ·have hm:T.getD q []∈T:=by rw[q9,qj hq];exact v5 hq
   exact getD_none (by rw[r.row _ hm];exact hp)
  ·rw[getD_none (l:=T) (by lia)];simp
 |false =>
  rw[hu]at hp;simp only[qr,if_false]at hp ⊢;rw[getD_none (l:=T) (by rw[r.len];exact hp)];simp
theorem AV{T:Table}{w h:Nat}(r:Rect T w h){sd:Side}{over:Bool}{c:Nat}(h1:1≤c)(h2:c<ext sd w h){p q:Nat}(hp:p<max c (ext sd w h-c)) :
  hA sd.up (foldT sd over c T) p q=yC sd over c (if sd.near then p else max c (ext sd w h-c)-1-p) fun j=>hA sd.up T j q:=by
 have key:∀{U:Table} {w h:Nat},Rect U w h→c<w→∀{p q:Nat},p<max c (w-c)→aj (U.map (cQ sd over c)) p q=yC sd over c (if sd.near then p else max c (w-c)-1-p) fun j=>aj U j q:=by
  intro U w h r h2 p q hp;unfold aj
  by_cases hq:q<U.length
  ·have hm:U.getD q []∈U:=by rw[q9,qj hq];exact v5 hq
   have hw:=r.row _ hm
   have e1:(U.map (cQ sd over c)).getD q []=cQ sd over c (U.getD q []):=by
    rw[q9,qk,q9,qj hq];rfl
   rw[e1,KC (by lia) (by rw[hw];exact hp),hw]
  ·rw[getD_none (l:=U.map (cQ sd over c)) (by rw[ql];lia),getD_none (l:=U) (by lia)]
   unfold yC dh qB;simp[pJ]
 unfold hA foldT;unfold ext at h2 hp ⊢;cases hu:sd.up with
 |true =>
  rw[hu]at h2 hp;simp only[if_true]at h2 hp ⊢;exact key r h2 hp
 |false =>
  rw[hu]at h2 hp;simp only[qr,if_false]at h2 hp ⊢;rw[pL (r.transp.fold h1 h2),key r.transp h2 hp]
  congr 1
  funext j
  exact pL r
theorem yU{c p ex:Nat}(h1:1≤c)(hp:p<ex):sH c p<max c (ex-c):=by
 unfold sH;split<;>lia
theorem place_lt{nr:Bool}{c p ex:Nat}(h1:1≤c)(hp:p<ex):dX nr c (max c (ex-c)) p<max c (ex-c):=by
 have:=yU h1 hp
 unfold dX;split<;>lia
theorem rF{u:Bool}{c:Cell}:(fU u c).1=c.1:=by unfold fU;cases u<;>rfl
theorem vP{u:Bool}{h:cR}{c:Cell}:c∈eE u h↔fU u c∈h:=by
 have inv:∀d:Cell,fU u (fU u d)=d:=fun d=>by unfold fU;cases u<;>simp
 unfold eE;rw[t8];constructor
 ·rintro⟨d,hd,rfl⟩;rw[inv];exact mem_reverse.mp hd
 ·intro hc;exact⟨_,mem_reverse.mpr hc,inv c⟩
theorem zH{sp:List Spot}{f:Spot→Spot}{i:Nat}{s:Spot}(h:sp[i]?=some s):bq (sp.map f) (i:Int)=(f s).z:=by
 unfold bq;rw[Int.toNat_natCast,qk,h];rfl
theorem qY{sp:List Spot}{i:Nat}{s:Spot}(h:sp[i]?=some s):bq sp (i:Int)=s.z:=by
 unfold bq;rw[Int.toNat_natCast,h]
section
variable {T:Table}{w h:Nat}{sp:List Spot}
theorem Lk.memA(L:Lk T sp)(up:Bool){p q:Nat}{c:Cell}:c∈hA up T p q↔∃(i:Nat) (s:Spot),sp[i]?=some s∧s.al up=p∧s.ac up=q∧c=((i:Int),s.e,s.n):=by
 unfold hA Spot.al Spot.ac;cases up with
 |true=>exact L.mem p q c
 |false =>
  refine(L.mem q p c).trans ⟨fun⟨i,s,a,b,d,e⟩=>⟨i,s,a,d,b,e⟩,fun⟨i,s,a,b,d,e⟩=>⟨i,s,a,d,b,e⟩⟩
theorem Lk.of{up:Bool}(h1:∀(p q:Nat) (c:Cell),c∈hA up T p q↔∃(i:Nat) (s:Spot),sp[i]?=some s∧s.al up=p∧s.ac up=q∧c=((i:Int),s.e,s.n))(h2:∀p q:Nat,(hA up T p q).Pairwise (fun a b=>bq sp b.1<bq sp a.1)):Lk T sp:=by
 cases up with
 |true=>exact⟨h1,h2⟩
 |false=>exact⟨fun x y c=>(h1 y x c).trans ⟨fun⟨i,s,a,b,d,e⟩=>⟨i,s,a,d,b,e⟩,fun⟨i,s,a,b,d,e⟩=>⟨i,s,a,d,b,e⟩⟩,fun x y=>h2 y x⟩
theorem Lk.al_lt(L:Lk T sp)(r:Rect T w h)(sd:Side){i:Nat}{s:Spot}(e:sp[i]?=some s):s.al sd.up<ext sd w h:=by
 refine Nat.lt_of_not_le fun z=>?_
 have:=(L.memA sd.up (p:=s.al sd.up) (q:=s.ac sd.up) (c:=((i:Int),s.e,s.n))).mpr ⟨i,s,e,rfl,rfl,rfl⟩
 rw[yS r z]at this;cases this
theorem Lk.fold(L:Lk T sp)(r:Rect T w h){sd:Side}{over:Bool}{c:Nat}{top low:Int}(h1:1≤c)(h2:c<ext sd w h)(ht:∀s∈sp,s.z≤top)(hl:∀s∈sp,low≤s.z) :
  Lk (foldT sd over c T) (sp.map (cP sd over c (max c (ext sd w h-c)) top low)):=by
 have get:∀{i:Nat} {s':Spot},(sp.map (cP sd over c (max c (ext sd w h-c)) top low))[i]?=some s'→∃s,sp[i]?=some s∧s'=cP sd over c (max c (ext sd w h-c)) top low s:=fun {i s'} e=>by
  rw[qk]at e;obtain⟨s,a,b⟩:=qx.mp e;exact⟨s,a,b.symm⟩
 have mvP:∀{p' p:Nat},p'<ext sd w h→dX sd.near c (max c (ext sd w h-c)) p'=p→moves sd.near c p'=true→p<max c (ext sd w h-c) →
   p'=(if sd.near then c-1-p else c+(max c (ext sd w h-c)-1-p))∧(sd.near=true→p<c):=by
  intro p' p q0 q1 q2 q3;have:=yU h1 q0
  unfold moves at q2;unfold dX at q1;cases hn:sd.near with
  |true =>
   rw[hn]at q1 q2;simp only[if_true]at q1 ⊢;simp only[bne_iff_ne,ne_eq,rg]at q2;unfold sH at q1;rw[if_neg q2]at q1;exact⟨by lia,fun _=>by lia⟩
  |false =>
   rw[hn]at q1 q2;simp only[qr,if_false]at q1 ⊢;simp only[bne_iff_ne,ne_eq,decide_eq_false_iff_not,Classical.not_not]at q2;unfold sH at q1 this;rw[if_pos q2]at q1 this;exact⟨by lia,fun z=>absurd z (by decide)⟩
 have stP:∀{p' p:Nat},p'<ext sd w h→dX sd.near c (max c (ext sd w h-c)) p'=p→moves sd.near c p'=false→p<max c (ext sd w h-c) →
   p'=(if sd.near then c+p else c-1-(max c (ext sd w h-c)-1-p))∧(sd.near=false→max c (ext sd w h-c)-1-p<c):=by
  intro p' p q0 q1 q2 q3;have:=yU h1 q0
  unfold moves at q2;unfold dX at q1;cases hn:sd.near with
  |true =>
   rw[hn]at q1 q2;simp only[if_true]at q1 ⊢;simp only[bne_eq_false_iff_eq,rg]at q2;unfold sH at q1;rw[if_pos q2]at q1;exact⟨by lia,fun z=>absurd z (by decide)⟩
  |false =>
   rw[hn]at q1 q2;simp only[qr,if_false]at q1 ⊢;simp only[bne_eq_false_iff_eq,decide_eq_false_iff_not]at q2;unfold sH at q1 this;rw[if_neg q2]at q1 this;exact⟨by lia,fun _=>by lia⟩
 have bk:∀{p' p:Nat},p<max c (ext sd w h-c)→p'<ext sd w h→(p'=(if sd.near then c-1-p else c+(max c (ext sd w h-c)-1-p))∧(sd.near=true→p<c)→moves sd.near c p'=true∧dX sd.near c (max c (ext sd w h-c)) p'=p) ∧
   (p'=(if sd.near then c+p else c-1-(max c (ext sd w h-c)-1-p))∧(sd.near=false→max c (ext sd w h-c)-1-p<c)→moves sd.near c p'=false∧dX sd.near c (max c (ext sd w h-c)) p'=p):=by
  intro p' p q3 q0;unfold moves dX sH;cases hn:sd.near with
  |true =>
   simp only[if_true];refine⟨fun⟨a,b⟩=>?_,fun⟨a,b⟩=>?_⟩
   ·have:=b trivial
    have z:¬c≤p':=by lia
    rw[qp z,if_neg z];exact⟨rfl,by lia⟩
   ·have z:c≤p':=by lia
    rw[sv z,if_pos z];exact⟨rfl,by lia⟩
  |false =>
   simp only[qr,if_false];refine⟨fun⟨a,b⟩=>?_,fun⟨a,b⟩=>?_⟩
   ·have z:c≤p':=by lia
    rw[sv z,if_pos z];exact⟨rfl,by lia⟩
   ·have:=b trivial
    have z:¬c≤p':=by lia
    rw[qp z,if_neg z];exact⟨rfl,by lia⟩
 have mvI:∀{p q:Nat} {d:Cell},p<max c (ext sd w h-c)→(d∈(if sd.near then dh c (if sd.near then p else max c (ext sd w h-c)-1-p) (fun j=>hA sd.up T j q) else hA sd.up T (c+(if sd.near then p else max c (ext sd w h-c)-1-p)) q) ↔
   ∃(i:Nat) (s:Spot),sp[i]?=some s∧moves sd.near c (s.al sd.up)=true∧dX sd.near c (max c (ext sd w h-c)) (s.al sd.up)=p∧s.ac sd.up=q∧d=((i:Int),s.e,s.n)):=by
  intro p q d hp;constructor
  ·intro hd;have:∃p',d∈hA sd.up T p' q∧p'=(if sd.near then c-1-p else c+(max c (ext sd w h-c)-1-p))∧(sd.near=true→p<c):=by
    cases hn:sd.near with
    |true =>
     rw[hn]at hd;simp only[if_true,dh]at hd
     by_cases hq:p<c
     ·rw[if_pos hq]at hd;exact⟨_,hd,rfl,fun _=>hq⟩
     ·rw[if_neg hq]at hd;cases hd
    |false =>
     rw[hn]at hd;simp only[qr,if_false]at hd;exact⟨_,hd,rfl,fun z=>absurd z (by decide)⟩
   obtain⟨p',hd,e1,e2⟩:=this;obtain⟨i,s,a1,a2,a3,a4⟩:=(L.memA sd.up).mp hd;have b:=(bk (p':=p') hp (by rw[←a2];exact L.al_lt r sd a1)).1 ⟨e1,e2⟩
   rw[←a2]at b;exact⟨i,s,a1,b.1,b.2,a3,a4⟩
  ·rintro⟨i,s,a1,a2,a3,a4,a5⟩;have b:=mvP (L.al_lt r sd a1) a3 a2 hp
   have hd:=(L.memA sd.up (p:=s.al sd.up) (q:=q) (c:=d)).mpr ⟨i,s,a1,rfl,a4,a5⟩
   rw[b.1]at hd;cases hn:sd.near with
   |true =>
    rw[hn]at hd b;simp only[if_true,dh]at hd ⊢;rw[if_pos (b.2 rfl)];exact hd
   |false =>
    rw[hn]at hd;simp only[qr,if_false]at hd ⊢;exact hd
 have stI:∀{p q:Nat} {d:Cell},p<max c (ext sd w h-c)→(d∈(if sd.near then hA sd.up T (c+(if sd.near then p else max c (ext sd w h-c)-1-p)) q else dh c (if sd.near then p else max c (ext sd w h-c)-1-p) (fun j=>hA sd.up T j q)) ↔
   ∃(i:Nat) (s:Spot),sp[i]?=some s∧moves sd.near c (s.al sd.up)=false∧dX sd.near c (max c (ext sd w h-c)) (s.al sd.up)=p∧s.ac sd.up=q∧d=((i:Int),s.e,s.n)):=by
  intro p q d hp;constructor
  ·intro hd;have:∃p',d∈hA sd.up T p' q∧p'=(if sd.near then c+p else c-1-(max c (ext sd w h-c)-1-p))∧(sd.near=false→max c (ext sd w h-c)-1-p<c):=by
    cases hn:sd.near with
    |true =>
     rw[hn]at hd;simp only[if_true]at hd;exact⟨_,hd,rfl,fun z=>absurd z (by decide)⟩
    |false =>
     rw[hn]at hd;simp only[qr,if_false,dh]at hd
     by_cases hq:max c (ext sd w h-c)-1-p<c
     ·rw[if_pos hq]at hd;exact⟨_,hd,rfl,fun _=>hq⟩
     ·rw[if_neg hq]at hd;cases hd
   obtain⟨p',hd,e1,e2⟩:=this;obtain⟨i,s,a1,a2,a3,a4⟩:=(L.memA sd.up).mp hd;have b:=(bk (p':=p') hp (by rw[←a2];exact L.al_lt r sd a1)).2 ⟨e1,e2⟩
   rw[←a2]at b;exact⟨i,s,a1,b.1,b.2,a3,a4⟩
  ·rintro⟨i,s,a1,a2,a3,a4,a5⟩;have b:=stP (L.al_lt r sd a1) a3 a2 hp
   have hd:=(L.memA sd.up (p:=s.al sd.up) (q:=q) (c:=d)).mpr ⟨i,s,a1,rfl,a4,a5⟩
   rw[b.1]at hd;cases hn:sd.near with
   |true =>
    rw[hn]at hd;simp only[if_true]at hd ⊢;exact hd
   |false =>
    rw[hn]at hd b;simp only[qr,if_false,dh]at hd ⊢;rw[if_pos (b.2 rfl)];exact hd
 refine Lk.of (up:=sd.up) (fun p q d=>?_) fun p q=>?_
 ·by_cases hp:p<max c (ext sd w h-c)
  ·rw[AV r h1 h2 hp];unfold yC qB;have sw:∀a b:cR,d∈(if over then a++b else b++a)↔d∈a∨d∈b:=fun a b=>by cases over<;>simp[or_comm]
   rw[sw,vP,mvI hp,stI hp];constructor
   ·rintro (⟨i,s,a1,a2,a3,a4,a5⟩|⟨i,s,a1,a2,a3,a4,a5⟩)
    ·refine⟨i,cP sd over c (max c (ext sd w h-c)) top low s,by rw[qk,a1];rfl,by rw[kD];exact a3,by rw[nJ];exact a4,?_⟩
     have inv:d=fU sd.up (fU sd.up d):=by unfold fU;cases sd.up<;>simp
     rw[inv,a5];unfold fU cP;dsimp only;rw[a2];cases sd.up<;>rfl
    ·refine⟨i,cP sd over c (max c (ext sd w h-c)) top low s,by rw[qk,a1];rfl,by rw[kD];exact a3,by rw[nJ];exact a4,?_⟩
     rw[a5];unfold cP;dsimp only;rw[a2];rfl
   ·rintro⟨i,s',a1,a2,a3,a4⟩;obtain⟨s,e1,rfl⟩:=get a1;rw[kD]at a2;rw[nJ]at a3;cases hm:moves sd.near c (s.al sd.up) with
    |true =>
     refine .inl ⟨i,s,e1,hm,a2,a3,?_⟩;rw[a4];unfold fU cP;dsimp only;rw[hm];cases sd.up<;>simp
    |false =>
     refine .inr ⟨i,s,e1,hm,a2,a3,?_⟩;rw[a4];unfold cP;dsimp only;rw[hm];rfl
  ·constructor
   ·intro hd;have r':=r.foldT (over:=over) h1 h2
    rw[yS r' (by unfold ext;unfold ext at hp;cases hu:sd.up<;>rw[hu]at hp<;>simp only[if_true,qr,if_false]at hp ⊢<;>lia)]at hd
    cases hd
   ·rintro⟨i,s',a1,a2,a3,a4⟩;obtain⟨s,e1,rfl⟩:=get a1;rw[kD]at a2;exact absurd (a2 ▸ place_lt h1 (L.al_lt r sd e1)) hp
 ·by_cases hp:p<max c (ext sd w h-c)
  ·rw[AV r h1 h2 hp];unfold yC;have ordA:∀j,(hA sd.up T j q).Pairwise (fun a b=>bq sp b.1<bq sp a.1):=fun j=>by
    unfold hA;cases sd.up
    ·exact L.ord q j
    ·exact L.ord j q
   have ordL:∀g,(dh c g fun j=>hA sd.up T j q).Pairwise (fun a b=>bq sp b.1<bq sp a.1):=fun g=>by
    unfold dh;split
    ·exact ordA _
    ·exact List.Pairwise.nil
   have mvZ:∀{d:Cell},d∈(if sd.near then dh c (if sd.near then p else max c (ext sd w h-c)-1-p) (fun j=>hA sd.up T j q) else hA sd.up T (c+(if sd.near then p else max c (ext sd w h-c)-1-p)) q) →
     bq (sp.map (cP sd over c (max c (ext sd w h-c)) top low)) d.1=(if over then 2*top+1-bq sp d.1 else 2*low-1-bq sp d.1)∧bq sp d.1≤top∧low≤bq sp d.1:=fun {d} hd=>by
    obtain⟨i,s,a1,a2,a3,a4,a5⟩:=(mvI hp).mp hd;rw[a5];dsimp only;rw[zH a1,qY a1];refine⟨?_,ht s (qh a1),hl s (qh a1)⟩;unfold cP;dsimp only;rw[a2];rfl
   have stZ:∀{d:Cell},d∈(if sd.near then hA sd.up T (c+(if sd.near then p else max c (ext sd w h-c)-1-p)) q else dh c (if sd.near then p else max c (ext sd w h-c)-1-p) (fun j=>hA sd.up T j q)) →
     bq (sp.map (cP sd over c (max c (ext sd w h-c)) top low)) d.1=bq sp d.1∧bq sp d.1≤top∧low≤bq sp d.1:=fun {d} hd=>by
    obtain⟨i,s,a1,a2,a3,a4,a5⟩:=(stI hp).mp hd;rw[a5];dsimp only;rw[zH a1,qY a1];refine⟨?_,ht s (qh a1),hl s (qh a1)⟩;unfold cP;dsimp only;rw[a2];rfl
   have mvO:(if sd.near then dh c (if sd.near then p else max c (ext sd w h-c)-1-p) (fun j=>hA sd.up T j q) else hA sd.up T (c+(if sd.near then p else max c (ext sd w h-c)-1-p)) q).Pairwise (fun a b=>bq sp b.1<bq sp a.1):=by
    split
    ·exact ordL _
    ·exact ordA _
   have stO:(if sd.near then hA sd.up T (c+(if sd.near then p else max c (ext sd w h-c)-1-p)) q else dh c (if sd.near then p else max c (ext sd w h-c)-1-p) (fun j=>hA sd.up T j q)).Pairwise (fun a b=>bq sp b.1<bq sp a.1):=by
    split
    ·exact ordA _
    ·exact ordL _
   generalize (if sd.near then dh c (if sd.near then p else max c (ext sd w h-c)-1-p) (fun j=>hA sd.up T j q) else hA sd.up T (c+(if sd.near then p else max c (ext sd w h-c)-1-p)) q)=mv at *
   generalize (if sd.near then hA sd.up T (c+(if sd.near then p else max c (ext sd w h-c)-1-p)) q else dh c (if sd.near then p else max c (ext sd w h-c)-1-p) (fun j=>hA sd.up T j q))=st at *
   have mvO':(eE sd.up mv).Pairwise (fun a b=>bq (sp.map (cP sd over c (max c (ext sd w h-c)) top low)) b.1<bq (sp.map (cP sd over c (max c (ext sd w h-c)) top low)) a.1):=by
    unfold eE;rw[pairwise_map,List.pairwise_reverse];refine mvO.imp_of_mem fun {a b} ha hb k=>?_
    rw[rF,rF,(mvZ ha).1,(mvZ hb).1];split<;>lia
   have stO':st.Pairwise (fun a b=>bq (sp.map (cP sd over c (max c (ext sd w h-c)) top low)) b.1<bq (sp.map (cP sd over c (max c (ext sd w h-c)) top low)) a.1):=
    stO.imp_of_mem fun {a b} ha hb k=>by rw[(stZ ha).1,(stZ hb).1];exact k
   have mvM:∀{d:Cell},d∈eE sd.up mv→bq (sp.map (cP sd over c (max c (ext sd w h-c)) top low)) d.1=(if over then 2*top+1-bq sp d.1 else 2*low-1-bq sp d.1)∧bq sp d.1≤top∧low≤bq sp d.1:=fun {d} hd=>by
    have:=mvZ (vP.mp hd)
    rw[rF]at this;exact this
   unfold qB;cases over with
   |true =>
    refine v8.mpr ⟨mvO',stO',fun a ha b hb=>?_⟩
    have k1:=mvM ha
    have k2:=stZ hb
    rw[k1.1,k2.1];simp only[if_true];lia
   |false =>
    refine v8.mpr ⟨stO',mvO',fun a ha b hb=>?_⟩
    have k1:=mvM hb
    have k2:=stZ ha
    rw[k1.1,k2.1];simp only[qr,if_false];lia
  ·have r':=r.foldT (over:=over) h1 h2
   rw[yS r' (by unfold ext;unfold ext at hp;cases hu:sd.up<;>rw[hu]at hp<;>simp only[if_true,qr,if_false]at hp ⊢<;>lia)]
   exact List.Pairwise.nil
end
end Pg
theorem dI{x y:Int×Int}:cv x y=true↔x.1<y.1∨(x.1=y.1∧x.2<y.2):=by
 unfold cv;simp only[or_eq_true,qv,rg,t7]
theorem mT{x y:Int×Int}:cv x y=false↔¬(x.1<y.1∨(x.1=y.1∧x.2<y.2)):=by rw[←dI,Bool.not_eq_true]
theorem lO(x:Int×Int):∀l:List (Int×Int),(yQ x l).Perm (x::l)
 |[]=>List.Perm.refl _
 |y::r=>by
  unfold yQ;split
  ·exact List.Perm.refl _
  ·exact((lO x r).cons y).trans (List.Perm.swap x y r)
theorem gX:∀l:List (Int×Int),(iL l).Perm l
 |[]=>List.Perm.refl _
 |x::r=>(lO x _).trans ((gX r).cons x)
theorem mI{x:Int×Int}:∀{l:List (Int×Int)},l.Pairwise (fun a b=>cv a b=true)→x∉l→(yQ x l).Pairwise (fun a b=>cv a b=true)
 |[],_,_=>by unfold yQ;simp
 |y::r,h,n=>by
  obtain⟨h1,h2⟩:=v7.mp h;unfold yQ;split
  ·rename_i e;refine v7.mpr ⟨fun z hz=>?_,h⟩
   rcases sg.mp hz with rfl|hz
   ·exact e
   ·have:=h1 z hz
    rw[dI]at this e ⊢;lia
  ·rename_i e;rw[Bool.not_eq_true]at e;refine v7.mpr ⟨fun z hz=>?_,mI h2 fun z=>n (qt _ z)⟩
   rcases sg.mp ((lO x r).mem_iff.mp hz) with rfl|hz
   ·have ie:z≠y:=fun q=>n (by rw[q];simp)
    rw[mT]at e;rw[dI];have:¬(z.1=y.1∧z.2=y.2):=fun q=>ie (Prod.ext q.1 q.2)
    lia
   ·exact h1 z hz
theorem kE:∀{l:List (Int×Int)},l.Nodup→(iL l).Pairwise (fun a b=>cv a b=true)
 |[],_=>List.Pairwise.nil
 |x::r,h=>by
  obtain⟨h1,h2⟩:=nodup_cons.mp h;exact mI (kE h2) fun z=>h1 ((gX r).mem_iff.mp z)
theorem nK{l m:List (Int×Int)}(p:m.Perm l)(h:m.Pairwise (fun a b=>cv a b=true)):m=iL l:=by
 have nd:m.Nodup:=h.imp fun {a b} e q=>by subst q;rw[dI]at e;lia
 exact List.Perm.eq_of_pairwise (fun a b _ _ e1 e2=>by rw[dI]at e1 e2;lia) h (kE (p.nodup_iff.mp nd)) (p.trans (gX l).symm)
theorem pZ:∀(r:List Int) (m:Int),(lL m r=m∨lL m r∈r)∧m≤lL m r∧∀a∈r,a≤lL m r
 |[],m=>⟨.inl rfl,Int.le_refl _,fun a h=>by simp at h⟩
 |x::r,m=>by
  obtain⟨h1,h2,h3⟩:=pZ r (if x > m then x else m)
  show (lL (if x > m then x else m) r=m∨_)∧m≤lL (if x > m then x else m) r∧_
  have e:lL m (x::r)=lL (if x > m then x else m) r:=rfl
  rw[e];refine⟨?_,?_,fun a ha=>?_⟩
  ·rcases h1 with h|h
   ·split at h
    ·rename_i hx;rw[if_pos hx,h];exact .inr (by simp)
    ·rename_i hx;rw[if_neg hx,h];exact .inl rfl
   ·exact .inr (qt _ h)
  ·split at h2
   ·rename_i hx;rw[if_pos hx];lia
   ·rename_i hx;rw[if_neg hx];exact h2
  ·rcases sg.mp ha with rfl|ha
   ·split at h2
    ·rename_i hx;rw[if_pos hx];exact h2
    ·rename_i hx;rw[if_neg hx];lia
   ·exact h3 a ha
namespace Pg
noncomputable def iU(c r:Nat):List Spot:=(List.range (c*r)).map fun k=>⟨k % c,k / c,0,false,false⟩
section
variable {G:GS}
theorem AW{c r x y:Nat}:aj (eZ c r) x y=if x<c∧y<r then [(((y*c+x:Nat):Int),false,false)] else []:=by
 unfold aj eZ
 by_cases hy:y<r
 ·have e1:((List.range r).map fun y=>(List.range c).map fun x=>[(((y*c+x:Nat):Int),false,false)]).getD y []=(List.range c).map fun x=>[(((y*c+x:Nat):Int),false,false)]:=by
   rw[q9,qk,ui hy];rfl
  rw[e1]
  by_cases hx:x<c
  ·rw[if_pos ⟨hx,hy⟩,q9,qk,ui hx];rfl
  ·rw[if_neg (fun z=>hx z.1)]
   exact getD_none (by rw[ql,rh];lia)
 ·rw[if_neg (fun z=>hy z.2),getD_none (l:=List.map _ _) (by rw[ql,rh];lia)]
  simp
theorem SE{c r:Nat}(hc:1≤c):Lk (eZ c r) (iU c r):=by
 have get:∀{i:Nat} {s:Spot},(iU c r)[i]?=some s↔i<c*r∧s=⟨i % c,i / c,0,false,false⟩:=fun {i s}=>by
  unfold iU;rw[qk]
  by_cases hi:i<c*r
  ·rw[ui hi];simp only[ud,qg,hi,true_and];exact eq_comm
  ·rw[List.getElem?_eq_none (by rw[rh];lia)]
   simp[hi]
 refine⟨fun x y d=>?_,fun x y=>?_⟩
 ·rw[AW];constructor
  ·intro h;split at h
   ·rename_i eu;have e:d=(((y*c+x:Nat):Int),false,false):=by simpa using h
    have h1:(y*c+x) % c=x:=by rw[add_comm,Nat.add_mul_mod_self_right];exact Nat.mod_eq_of_lt eu.1
    have h2:(y*c+x) / c=y:=by rw[add_comm,Nat.add_mul_div_right _ _ (by lia),Nat.div_eq_of_lt eu.1];lia
    refine⟨y*c+x,_,get.mpr ⟨?_,rfl⟩,h1,h2,e⟩;have:(y+1)*c≤r*c:=Nat.mul_le_mul_right c (by lia)
    rw[Nat.add_mul,Nat.one_mul]at this;rw[Nat.mul_comm c r];lia
   ·cases h
  ·rintro⟨i,s,a1,rfl,rfl,a4⟩;obtain⟨hi,rfl⟩:=get.mp a1;have h1:i % c<c:=Nat.mod_lt _ (by lia)
   have h2:i / c<r:=by rw[Nat.div_lt_iff_lt_mul (by lia),Nat.mul_comm];exact hi
   rw[if_pos ⟨h1,h2⟩,a4];have:=Nat.div_add_mod i c
   rw[Nat.mul_comm]at this;simp[this]
 ·rw[AW];split
  ·simp
  ·exact List.Pairwise.nil
theorem nW{c r:Nat}:(iU c r).length=c*r:=by unfold iU;simp
theorem wK{a b:Bool}:ah .eq (.bl a) (.bl b)=some (.bl (a == b)):=by cases a<;>cases b<;>rfl
end
section
variable {G:GS}
theorem ints_map{α:Type}{f:α→Int}:∀{l:List α},gS (l.map fun a=>D.int (f a))=some (l.map f)
 |[]=>rfl
 |a::l=>by
  simp only[su,gS];rw[ints_map];rfl
theorem zF{α:Type}{a b c:α}:atI [a,b,c] 0=some a∧atI [a,b,c] 1=some b∧atI [a,b,c] 2=some c:=⟨rfl,rfl,rfl⟩
noncomputable def isAt(x y:Nat)(s:Spot):Bool:=(s.x == x)&&(s.y == y)
noncomputable def rV(sp:List Spot)(x y i:Nat):Option (Int×Int):=match sp[i]? with
 |some s=>if isAt x y s then some (0-s.z,(i:Int)) else none
 |none=>none
noncomputable def lay(sp:List Spot)(x y k:Nat):List (Int×Int):=(List.range k).filterMap (rV sp x y)
theorem JF{sp:List Spot}{x y k:Nat}:lay sp x y (k+1)=lay sp x y k++(rV sp x y k).toList:=by
 unfold lay;rw[List.range_succ,List.filterMap_append]
 congr 1
noncomputable def EV(sp:List Spot)(c:Cell):Int×Int:=(0-bq sp c.1,c.1)
theorem RQ{sp:List Spot}{x y:Nat}{p:Int×Int}:p∈lay sp x y sp.length↔∃(i:Nat) (s:Spot),sp[i]?=some s∧s.x=x∧s.y=y∧p=(0-s.z,(i:Int)):=by
 unfold lay;rw[mem_filterMap];constructor
 ·rintro⟨i,hi,e⟩;unfold rV at e;split at e
  ·rename_i s hs;split at e
   ·rename_i eu;cases e;unfold isAt at eu;rw[qv,t7,t7]at eu;exact⟨i,s,hs,eu.1,eu.2,rfl⟩
   ·cases e
  ·cases e
 ·rintro⟨i,s,hs,rfl,rfl,rfl⟩;refine⟨i,uv.mpr (q8.mp hs).1,?_⟩;unfold rV isAt;rw[hs];simp
theorem ER{sp:List Spot}{x y k:Nat}:(lay sp x y k).Nodup:=by
 have h2:∀{i:Nat} {p:Int×Int},rV sp x y i=some p→p.2=i:=fun {i p} e=>by
  unfold rV at e;split at e
  ·split at e
   ·cases e;rfl
   ·cases e
  ·cases e
 induction k with
 |zero=>exact List.nodup_nil
 |succ k ih =>
  rw[JF];refine List.nodup_append.mpr ⟨ih,?_,fun a ha b hb=>?_⟩
  ·cases rV sp x y k<;>simp
  ·have de:rV sp x y k=some b:=by simpa using hb
   unfold lay at ha;obtain⟨i,hi,e⟩:=mem_filterMap.mp ha;intro z;have q1:=h2 e
   have q2:=h2 de
   rw[z]at q1;have:=uv.mp hi
   lia
theorem JG{T:Table}{sp:List Spot}(L:Lk T sp){x y:Nat}:iL (lay sp x y sp.length)=(aj T x y).map (EV sp):=by
 have pw:((aj T x y).map (EV sp)).Pairwise (fun a b=>cv a b=true):=by
  rw[pairwise_map];refine(L.ord x y).imp fun {a b} h=>?_
  rw[dI];unfold EV;exact .inl (by dsimp only;lia)
 have nd:((aj T x y).map (EV sp)).Nodup:=pw.imp fun {a b} e q=>by subst q;rw[dI]at e;lia
 refine(nK ?_ pw).symm;refine(List.perm_ext_iff_of_nodup nd ER).mpr fun p=>?_
 rw[RQ,t8];constructor
 ·rintro⟨c,hc,rfl⟩;obtain⟨i,s,a1,a2,a3,a4⟩:=(L.mem x y c).mp hc;refine⟨i,s,a1,a2,a3,?_⟩;subst a4;unfold EV;dsimp only;rw[qY a1]
 ·rintro⟨i,s,a1,a2,a3,rfl⟩;refine⟨((i:Int),s.e,s.n),(L.mem x y _).mpr ⟨i,s,a1,a2,a3,rfl⟩,?_⟩;unfold EV;dsimp only;rw[qY a1]
theorem RS{T:Table}{sp:List Spot}(L:Lk T sp){x y:Nat}:(lay sp x y sp.length).length=(aj T x y).length:=by
 rw[←(gX _).length_eq,JG L,ql]
theorem jW{ρ:List Sl}{x:Nat}{e:IE}{d:D}{ds:List D}(h1:ev G e ρ=some d)(h2:ρ[x]?=some (.mu (.lst ds)))(h3:ds.length<1000000):ex G (.app x e) ρ=some (.nx (ρ.set x (.mu (.lst (ds++[d]))))):=by
 show (fi G e ρ).bind _=_
 rw[oB h1];show (match ρ[x]? with|some (.mu (.lst ds))=>_|_=>_)=_
 rw[h2];exact if_pos h3
theorem ne_self{d:D}(h1:plain d=true)(h2:b6 d d=true):ah .ne d d=some (.bl false):=by
 show oNe d d=_
 unfold oNe;rw[h1,h2];rfl
theorem cJ{b:Bool}:dg (.bl b)=some b:=rfl
structure Fold where
 sd:Side
 over:Bool
 k:Nat
noncomputable def Fold.d(f:Fold):D:=eY f.sd f.over f.k
end
structure Sits (T:Table) (w h:Nat) (sp:List Spot):Prop where
 lk:Lk T sp
 rect:Rect T w h
 full:jR T
 w64:w≤64
 h64:h≤64
 len:sp.length≤64
section
variable {G:GS}{T:Table}{w h:Nat}{sp:List Spot}
theorem Sits.xlt(S:Sits T w h sp){s:Spot}(hs:s∈sp):s.x<w:=by
 obtain⟨i,hi,rfl⟩:=getElem_of_mem hs;exact S.lk.al_lt S.rect .west (qj hi)
theorem Sits.ylt(S:Sits T w h sp){s:Spot}(hs:s∈sp):s.y<h:=by
 obtain⟨i,hi,rfl⟩:=getElem_of_mem hs;exact S.lk.al_lt S.rect .north (qj hi)
theorem Sits.some_at(S:Sits T w h sp){x y:Nat}(hx:x<w)(hy:y<h):∃s∈sp,s.x=x∧s.y=y:=by
 have cb:y<T.length:=by rw[S.rect.len];exact hy
 have hm:T.getD y []∈T:=by rw[q9,qj cb];exact v5 cb
 have ie:aj T x y≠[]:=S.full _ hm _ (getD_mem (by rw[S.rect.row _ hm];exact hx))
 cases e:aj T x y with
 |nil=>exact absurd e ie
 |cons c r =>
  obtain⟨i,s,a1,a2,a3,_⟩:=(S.lk.mem x y c).mp (by rw[e];simp)
  exact⟨s,qh a1,a2,a3⟩
theorem Sits.ne(S:Sits T w h sp):sp≠[]:=by
 have:=S.rect.w1
 have:=S.rect.h1
 obtain⟨s,hs,_⟩:=S.some_at (x:=0) (y:=0) (by lia) (by lia)
 intro z;rw[z]at hs;cases hs
theorem Lk.short(L:Lk T sp){x y:Nat}:(aj T x y).length≤sp.length:=by
 rw[←RS L];unfold lay;have:=List.length_filterMap_le (rV sp x y) (List.range sp.length)
 rwa [rh]at this
theorem Sits.few(S:Sits T w h sp):pG 64 T:=by
 intro s hs hp hm;obtain⟨y,hy,rfl⟩:=getElem_of_mem hs;obtain⟨x,hx,rfl⟩:=getElem_of_mem hm;have e:aj T x y=T[y][x]:=by
  unfold aj;rw[q9 (l:=T),qj hy];simp[hx]
 rw[←e];exact se S.lk.short S.len
theorem Sits.fold(S:Sits T w h sp){sd:Side}{over:Bool}{c:Nat}{top low:Int}(h1:1≤c)(h2:c<ext sd w h)(ht:∀s∈sp,s.z≤top)(hl:∀s∈sp,low≤s.z) :
  Sits (foldT sd over c T) (if sd.up then max c (w-c) else w) (if sd.up then h else max c (h-c)) (sp.map (cP sd over c (max c (ext sd w h-c)) top low)):=by
 have a:=S.w64
 have b:=S.h64
 have gk:c<if sd.up then w else h:=h2
 refine⟨S.lk.fold S.rect h1 h2 ht hl,S.rect.foldT h1 h2,S.full.foldT S.rect h1 h2,?_,?_,by rw[ql];exact S.len⟩
 ·split
  ·rename_i hu;rw[if_pos hu]at gk;lia
  ·exact a
 ·split
  ·exact b
  ·rename_i hu;rw[if_neg hu]at gk;lia
theorem FH{c r:Nat}(hc:1≤c)(hr:1≤r)(bb:c*r≤64):Sits (eZ c r) c r (iU c r):=
 ⟨SE hc,FI hc hr,FJ,se (Nat.le_mul_of_pos_right c hr) bb,se (Nat.le_mul_of_pos_left r hc) bb,by rw[nW];exact bb⟩
end
end Pg
theorem dP{i k:Int}{d:D}{r:List (Int×D)}:dQ ((i,d)::r) k=if i=k then some d else dQ r k:=by
 unfold dQ
 by_cases e:i=k
 ·rw[List.find?_cons_of_pos (by simpa using e),if_pos e];rfl
 ·rw[List.find?_cons_of_neg (by simpa using e),if_neg e]
theorem uK{k:Int}:∀{kvs:List (Int×D)},(kvs.any fun kv=>decide (kv.1=k))=(dQ kvs k).isSome
 |[]=>rfl
 | (i,d)::r=>by
  rw[any_cons,dP,uK (kvs:=r)]
  by_cases e:i=k
  ·rw[if_pos e,sv e];rfl
  ·rw[if_neg e,qp e];rfl
theorem nC{k j:Int}{d:D}:∀{kvs:List (Int×D)},dQ (kvs.map fun kv=>if kv.1=k then(kv.1,d) else kv) j=if j=k then(dQ kvs j).map fun _=>d else dQ kvs j
 |[]=>by
  show none=_
  split<;>rfl
 | (i,e)::r=>by
  rw[su]
  by_cases h:i=k
  ·rw[if_pos h,dP,dP,nC (kvs:=r)]
   by_cases g:i=j
   ·rw[if_pos g,if_pos g,if_pos (g.symm.trans h)];rfl
   ·rw[if_neg g,if_neg g]
  ·rw[if_neg h,dP,dP,nC (kvs:=r)]
   by_cases g:i=j
   ·rw[if_pos g,if_pos g,if_neg (fun z=>h (g.trans z))]
   ·rw[if_neg g,if_neg g]
theorem pI{k j:Int}{d:D}:∀{kvs:List (Int×D)},dQ (kvs++[(k,d)]) j=(dQ kvs j).or (if k=j then some d else none)
 |[]=>by
  rw[nil_append,dP];split<;>rfl
 | (i,e)::r=>by
  rw[List.cons_append,dP,dP,pI (kvs:=r)];split<;>rfl
theorem uJ{kvs:List (Int×D)}{k j:Int}{d:D}:dQ (lF kvs k d) j=if j=k then some d else dQ kvs j:=by
 unfold lF;rw[uK]
 by_cases h:(dQ kvs k).isSome=true
 ·rw[if_pos h,nC]
  by_cases e:j=k
  ·subst e;rw[if_pos rfl,if_pos rfl];obtain⟨x,hx⟩:=Option.isSome_iff_exists.mp h;rw[hx];rfl
  ·rw[if_neg e,if_neg e]
 ·rw[if_neg h,pI]
  by_cases e:j=k
  ·subst e;rw[if_pos rfl,if_pos rfl,Option.not_isSome_iff_eq_none.mp h];rfl
  ·rw[if_neg e,if_neg (Ne.symm e)];cases dQ kvs j<;>rfl
theorem HK{kvs:List (Int×D)}{k:Int}{d:D}:(lF kvs k d).length≤kvs.length+1:=by
 unfold lF;split
 ·rw[ql];lia
 ·rw[sk];exact qm _
theorem SW{G:GS}{ρ:List Sl}{x:Nat}{k e:IE}{d:D}{i:Int}{kvs:List (Int×D)}(h1:ev G e ρ=some d)(h2:ev G k ρ=some (.int i))(h3:ρ[x]?=some (.mu (.dct kvs)))(h4:kvs.length<1000000):ex G (.put x k e) ρ=some (.nx (ρ.set x (.mu (.dct (lF kvs i d))))):=by
 show (fi G e ρ).bind (fun d=>(intOf (fi G k ρ)).bind fun i=>_)=_
 rw[oB h1,oB h2];show (match ρ[x]? with|some (.mu o)=>_|_=>_)=_
 rw[h3];show Option.map _ (if kvs.length<big then some (D.dct (lF kvs i d)) else none)=_
 rw[if_pos (by unfold big;exact h4)];rfl
theorem SV{G:GS}{ρ:List Sl}{x:Nat}:ex G (.setd x) ρ=some (.nx (ρ.set x (.mu (.dct [])))):=id rfl
theorem jN{G:GS}{ρ:List Sl}{x:Nat}{d:D}(h:ρ[x]?=some (.mu d)):ex G (.retm x) ρ=some (.rt d):=by
 show (match ρ[x]? with|some (.mu d)=>some (Out.rt d)|_=>none)=_
 rw[h]
namespace Pg
section
variable {G:GS}{T:Table}{w h:Nat}{sp:List Spot}
noncomputable def CI(s:Spot):Int:=if s.e then s.x else s.x+1
noncomputable def AG(s:Spot):Int:=if s.n then s.y else s.y+1
noncomputable def iP(s:Spot):D:=.tup [.int (CI s),.int (AG s)]
noncomputable def zE:IS:=(.put 1 (.var 4) (.tup (.cons (.ite (.tr (.var 5)) (.var 3) (.bin .add (.var 3) (.lit (.int 1)))) (.cons (.ite (.tr (.var 6)) (.var 2) (.bin .add (.var 2) (.lit (.int 1)))) .nil))))
noncomputable def CU:IS:=(.loop [4,5,6] true .seq (.meth (.var 0) "heap" (.cons (.var 3) (.cons (.var 2) .nil))) zE)
noncomputable def uA:IS:=(.loop [3] false .rng (.tup (.cons (.fld (.var 0) "wide") .nil)) CU)
noncomputable def fF:IS:=(.seq (.setd 1) (.seq (.loop [2] false .rng (.tup (.cons (.fld (.var 0) "high") .nil)) uA) (.retm 1)))
structure Lines (sp:List Spot) (kvs:List (Int×D)) (n:Nat) (P:Nat→Spot→Prop):Prop where
 ok:∀(k:Int) (d:D),dQ kvs k=some d→∃(i:Nat) (s:Spot),k=i∧sp[i]?=some s∧d=iP s
 has:∀(i:Nat) (s:Spot),sp[i]?=some s→P i s→(dQ kvs i).isSome=true
 len:kvs.length≤n
theorem Lines.put{kvs:List (Int×D)}{n:Nat}{P Q:Nat→Spot→Prop}(L:Lines sp kvs n P){i:Nat}{s:Spot}(hs:sp[i]?=some s)(h:∀j t,sp[j]?=some t→Q j t→P j t∨j=i):Lines sp (lF kvs i (iP s)) (n+1) Q:=by
 refine⟨fun k d e=>?_,fun j t ht hq=>?_,se HK (Nat.succ_le_succ L.len)⟩
 ·rw[uJ]at e
  by_cases z:k=i
  ·rw[if_pos z]at e;cases e;exact⟨i,s,z,hs,rfl⟩
  ·rw[if_neg z]at e;exact L.ok k d e
 ·rw[uJ]
  by_cases z:(j:Int)=i
  ·rw[if_pos z];rfl
  ·rw[if_neg z]
   rcases h j t ht hq with g|g
   ·exact L.has j t ht g
   ·exact absurd (by rw[g]) z
theorem Lines.mono{kvs:List (Int×D)}{n m:Nat}{P Q:Nat→Spot→Prop}(L:Lines sp kvs n P)(hm:n≤m)(h:∀j t,sp[j]?=some t→Q j t→P j t):Lines sp kvs m Q:=
 ⟨L.ok,fun i s hs hq=>L.has i s hs (h i s hs hq),se L.len hm⟩
theorem Lines.at_{kvs:List (Int×D)}{n:Nat}{P:Nat→Spot→Prop}(L:Lines sp kvs n P){i:Nat}{s:Spot}(hs:sp[i]?=some s)(hp:P i s):dQ kvs i=some (iP s):=by
 obtain⟨d,hd⟩:=Option.isSome_iff_exists.mp (L.has i s hs hp);obtain⟨j,t,e,ht,rfl⟩:=L.ok _ _ hd;have:j=i:=by exact_mod_cast e.symm
 subst this;rw[hs]at ht;cases ht;exact hd
noncomputable def dO(P:D)(kvs:List (Int×D))(a b c d e:Sl):List Sl:=[.im P,.mu (.dct kvs),a,b,c,d,e]
theorem pA(hf:G.fl "Pile" = cw)
  (hhp:∀(c r w h:Nat) (T:Table) (F S:List D) (x y:Nat),Rect T w h→x<w→y<h→G.me "Pile" "heap" [aL c r w h T F S,.int x,.int y]=some (.ok (hE (aj T x y))))
  {c r:Nat} {F C:List D} (S:Sits T w h sp):∃kvs,aU G 7 fF [aL c r w h T F C]=some (.ok (.dct kvs))∧∀(i:Nat) (s:Spot),sp[i]?=some s→dQ kvs i=some (iP s):=by
 have w64:=S.w64
 have h64:=S.h64
 have e0:∀r',ev G (.var 0) (.im (aL c r w h T F C)::r')=some (bN c r w h (T.map sE) F C):=fun _=>by simp only[zz,yy];rfl
 have cells:∀(x y n:Nat) (kvs:List (Int×D)) (P:Nat→Spot→Prop) (s4 s5 s6:Sl),x<w→y<h→n+64<1000000→Lines sp kvs n P →
   ∃ρ',eV (bK [4,5,6] true) (ex G zE) ((aj T x y).map di) (dO (aL c r w h T F C) kvs (.im (.int y)) (.im (.int x)) s4 s5 s6)=some (.nx ρ')∧∃ao t4 t5 t6,ρ'=dO (aL c r w h T F C) ao (.im (.int y)) (.im (.int x)) t4 t5 t6∧Lines sp ao (n+64) (fun i s=>P i s∨(s.x=x∧s.y=y)):=by
  intro x y n kvs P s4 s5 s6 hx hy hn L;have hl:(aj T x y).length≤64:=se S.lk.short S.len
  obtain⟨ρ',a,ao,t4,t5,t6,b,L'⟩:=eK (bind:=bK [4,5,6] true) (body:=ex G zE) (fun k ρ=>∃ao t4 t5 t6,ρ=dO (aL c r w h T F C) ao (.im (.int y)) (.im (.int x)) t4 t5 t6∧Lines sp ao (n+k) (fun i s=>P i s∨((i:Int),s.e,s.n)∈(aj T x y).take k))
   (ds:=(aj T x y).map di) (k:=0) (ρ:=dO (aL c r w h T F C) kvs (.im (.int y)) (.im (.int x)) s4 s5 s6) ⟨kvs,s4,s5,s6,rfl,L.mono (by lia) fun j t _ q=>q.elim id fun z=>by simp at z⟩ (by
    rintro k d ρ hd ⟨ao,t4,t5,t6,rfl,L'⟩;rw[qk]at hd;obtain⟨cl,az,rfl⟩:=qx.mp hd;have hk:k<(aj T x y).length:=(q8.mp az).1
    obtain⟨i,s,hs,sx,sy,rfl⟩:=(S.lk.mem x y cl).mp (qh az);refine⟨dO (aL c r w h T F C) ao (.im (.int y)) (.im (.int x)) (.im (.int i)) (.im (.bl s.e)) (.im (.bl s.n)),rfl,_,SW (kvs:=ao) (i:=i) (d:=iP s) ?_ ?_ rfl (by have:=L'.len;lia),lF ao i (iP s),_,_,_,rfl,?_⟩
    ·unfold dO iP CI AG;rw[sx,sy];cases s.e<;>cases s.n<;>(simp only[zz,yy,aA,aB,cJ];rfl)
    ·unfold dO;simp only[zz,yy]
    ·refine(L'.put hs fun j t ht q=>?_).mono (by lia) fun _ _ _ q=>q
     rcases q with q|q
     ·exact .inl (.inl q)
     ·rw[sj,um,az]at q
      rcases v9.mp q with q|q
      ·exact .inl (.inr (by rw[sj];exact q))
      ·refine .inr ?_;have q:((j:Int),t.e,t.n)=((i:Int),s.e,s.n):=by simpa using q
       have q:(j:Int)=i:=congrArg (·.1) q
       exact_mod_cast q)
  refine⟨ρ',a,ao,t4,t5,t6,b,L'.mono (by rw[ql];lia) fun j t ht q=>q.imp id fun⟨q1,q2⟩=>?_⟩
  rw[ql,sj,uy];exact(S.lk.mem x y _).mpr ⟨j,t,ht,q1,q2,rfl⟩
 have row:∀(y n:Nat) (kvs:List (Int×D)) (P:Nat→Spot→Prop) (s3 s4 s5 s6:Sl),y<h→n+64*64+64<1000000→Lines sp kvs n P →
   ∃ρ',ex G uA (dO (aL c r w h T F C) kvs (.im (.int y)) s3 s4 s5 s6)=some (.nx ρ')∧∃ao t3 t4 t5 t6,ρ'=dO (aL c r w h T F C) ao (.im (.int y)) t3 t4 t5 t6∧Lines sp ao (n+64*64) (fun i s=>P i s∨s.y=y):=by
  intro y n kvs P s3 s4 s5 s6 hy hn L;obtain⟨ρ',a,ao,t3,t4,t5,t6,b,L'⟩:=eK (bind:=bK [3] false) (body:=ex G CU) (fun k ρ=>∃ao t3 t4 t5 t6,ρ=dO (aL c r w h T F C) ao (.im (.int y)) t3 t4 t5 t6∧Lines sp ao (n+k*64) (fun i s=>P i s∨(s.y=y∧s.x<k)))
   (ds:=(List.range w).map fun (k:Nat)=>D.int k) (k:=0) (ρ:=dO (aL c r w h T F C) kvs (.im (.int y)) s3 s4 s5 s6) ⟨kvs,s3,s4,s5,s6,rfl,L.mono (by lia) fun j t _ q=>q.elim id fun z=>by lia⟩ (by
    rintro x d ρ hd ⟨ao,t3,t4,t5,t6,rfl,L'⟩;rw[qk]at hd;obtain⟨x',dt,rfl⟩:=qx.mp hd;have hx:x<w:=by have:=(q8.mp dt).1;rwa [rh]at this
    obtain rfl:x=x':=by rw[ui hx]at dt;exact qw dt
    rw[sj]at L';have bx:n+x*64+64<1000000:=by have:x*64≤64*64:=Nat.mul_le_mul_right 64 (by lia);lia
    obtain⟨ρ2,l2,kvs2,u4,u5,u6,rfl,L2⟩:=cells x y _ ao _ t4 t5 t6 hx hy bx L';refine⟨dO (aL c r w h T F C) ao (.im (.int y)) (.im (.int x)) t4 t5 t6,rfl,_,(dB (d:=hE (aj T x y)) ?_ eA).trans l2,kvs2,_,u4,u5,u6,rfl,L2.mono (by lia) fun j t ht q=>?_⟩
    ·exact xZ (c:=c) (r:=r) (w:=w) (h:=h) (T:=T.map sE) (F:=F) (S:=C) (ds:=[.int x,.int y]) rfl (e0 _) (by simp only[zz,yy,aA,aB]) (hhp c r w h T F C x y S.rect hx hy)
    ·rcases q with q|⟨q1,q2⟩
     ·exact .inl (.inl q)
     ·by_cases z:t.x=x
      ·exact .inr ⟨z,q1⟩
      ·exact .inl (.inr ⟨q1,by lia⟩))
  refine⟨ρ',(dB (d:=.tup [.int ((w:Nat):Int)]) ?_ (eR (by lia))).trans a,ao,t3,t4,t5,t6,b,L'.mono ?_ fun j t ht q=>q.imp id fun q=>⟨q,?_⟩⟩
  ·unfold dO;rw[yZ,bA,hJ hf (e0 _)];simp only[zz,yy,aA,aB]
  ·rw[ql,rh];have:(0+w)*64≤64*64:=Nat.mul_le_mul_right 64 (by lia)
   lia
  ·rw[ql,rh,sj];exact S.xlt (qh ht)
 obtain⟨ρ',a,ao,t2,t3,t4,t5,t6,rfl,L'⟩:=eK (bind:=bK [2] false) (body:=ex G uA) (fun k ρ=>∃ao t2 t3 t4 t5 t6,ρ=dO (aL c r w h T F C) ao t2 t3 t4 t5 t6∧Lines sp ao (k*(64*64)) (fun i s=>s.y<k))
  (ds:=(List.range h).map fun (k:Nat)=>D.int k) (k:=0) (ρ:=dO (aL c r w h T F C) [] .un .un .un .un .un) ⟨[],.un,.un,.un,.un,.un,rfl,⟨fun _ _ z=>(nomatch (show none=some _ from z)),fun _ _ _ z=>absurd z (Nat.not_lt_zero _),uw _⟩⟩ (by
   rintro y d ρ hd ⟨ao,t2,t3,t4,t5,t6,rfl,L'⟩;rw[qk]at hd;obtain⟨y',cb,rfl⟩:=qx.mp hd;have hy:y<h:=by have:=(q8.mp cb).1;rwa [rh]at this
   obtain rfl:y=y':=by rw[ui hy]at cb;exact qw cb
   rw[sj]at L';have by_:y*(64*64)+64*64+64<1000000:=by have:y*(64*64)≤64*(64*64):=Nat.mul_le_mul_right _ (by lia);lia
   obtain⟨ρ2,l2,kvs2,u3,u4,u5,u6,rfl,L2⟩:=row y _ ao _ t3 t4 t5 t6 hy by_ L';exact⟨dO (aL c r w h T F C) ao (.im (.int y)) t3 t4 t5 t6,rfl,_,l2,kvs2,_,u3,u4,u5,u6,rfl,L2.mono (by lia) fun j t ht q=>by lia⟩)
 refine⟨ao,aP (ρ:=[.im (aL c r w h T F C),.un,.un,.un,.un,.un,.un]) rfl (aJ SV (aJ ((dB (d:=.tup [.int ((h:Nat):Int)]) ?_ (eR (by lia))).trans a) (jN rfl))),fun i s hs=>L'.at_ hs ?_⟩
 ·simp only[List.set];rw[yZ,bA,hU hf (e0 _)];simp only[zz,yy,aA,aB]
 ·rw[ql,rh,sj];exact S.ylt (qh hs)
end
end Pg
theorem GV{α:Type}{l:List α}{x:Nat}{a:α}(h:l[x]?=some a):l.set x a=l:=by
 apply List.ext_getElem?;intro i
 by_cases e:x=i
 ·subst e;rw[rj (q8.mp h).1,h]
 ·rw[rn e]
theorem wG{G:GS}{ρ:List Sl}{x:Nat}{t e:IE}{b:Bool}{d:D}{ds:List D}(ht:ev G t (view ρ)=some (.bl b))(he:ev G e ρ=some d)(hx:ρ[x]?=some (.mu (.lst ds)))(hl:ds.length<1000000):ex G (.iff t (.app x e) .nop) ρ=some (.nx (ρ.set x (.mu (.lst (ds++if b then [d] else []))))):=by
 cases b with
 |true=>exact jV ht (Pg.jW he hx hl)
 |false =>
  rw[cX ht aX,if_neg (by decide),sq,GV hx]
theorem FD{bind:D→List Sl→Option (List Sl)}{body:List Sl→Option Out}(P:Nat→List Sl→Prop){n:Nat}{ρ:List Sl}(h0:P 0 ρ)(st:∀k,k<n→∀ρ,P k ρ→∃ρ1,bind (.int (k:Nat)) ρ=some ρ1∧∃ρ2,body ρ1=some (.nx ρ2)∧P (k+1) ρ2) :
  ∃ρ',eV bind body ((List.range n).map fun (k:Nat)=>D.int k) ρ=some (.nx ρ')∧P n ρ':=by
 obtain⟨ρ',a,b⟩:=eK (bind:=bind) (body:=body) P (ds:=(List.range n).map fun (k:Nat)=>D.int k) (k:=0) h0 fun k d ρ hd hp=>by
  rw[qk]at hd;obtain⟨k',ij,rfl⟩:=qx.mp hd;have hk:k<n:=by have:=(q8.mp ij).1;rwa [rh]at this
  obtain rfl:k=k':=by rw[ui hk]at ij;exact qw ij
  rw[sj]at hp ⊢;exact st k hk ρ hp
 exact⟨ρ',a,by rw[ql,rh,sj]at b;exact b⟩
theorem fK{α:Type}{enc:α→D}{bind:D→List Sl→Option (List Sl)}{body:List Sl→Option Out}(P:Nat→List Sl→Prop){L:List α}{ρ:List Sl}(h0:P 0 ρ)(st:∀k a,L[k]?=some a→∀ρ,P k ρ→∃ρ1,bind (enc a) ρ=some ρ1∧∃ρ2,body ρ1=some (.nx ρ2)∧P (k+1) ρ2) :
  ∃ρ',eV bind body (L.map enc) ρ=some (.nx ρ')∧P L.length ρ':=by
 obtain⟨ρ',a,b⟩:=eK (bind:=bind) (body:=body) P (ds:=L.map enc) (k:=0) h0 fun k d ρ hd hp=>by
  rw[qk]at hd;obtain⟨x,hx,rfl⟩:=qx.mp hd;rw[sj]at hp ⊢;exact st k x hx ρ hp
 exact⟨ρ',a,by rw[ql,sj]at b;exact b⟩
namespace Pg
section
variable {G:GS}{T:Table}{w h:Nat}{sp:List Spot}
noncomputable def b8(c n k:Nat):List (Nat×Nat×Bool):=(if decide (k % c<c-1) then [(k,k+1,false)] else [])++(if decide (k+c<n) then [(k,k+c,true)] else [])
noncomputable def dy(c n k:Nat):List (Nat×Nat×Bool):=(List.range k).flatMap (b8 c n)
theorem vJ{c n k:Nat}:dy c n (k+1)=dy c n k++b8 c n k:=by
 unfold dy;rw[List.range_succ,List.flatMap_append,List.flatMap_cons,List.flatMap_nil,sq]
theorem RG{c n k:Nat}:(b8 c n k).length≤2:=by
 unfold b8;rw[sk];split<;>split<;>simp
theorem kK{c n:Nat}:∀k,(dy c n k).length≤2*k
 | 0=>uw _
 |k+1=>by
  rw[vJ,sk];have:=kK (c:=c) (n:=n) k
  have:=RG (c:=c) (n:=n) (k:=k)
  lia
theorem ZJ{c n k:Nat}{j:Nat×Nat×Bool}(h:j∈dy c n k):j.1<k:=by
 unfold dy at h;obtain⟨i,hi,hj⟩:=List.mem_flatMap.mp h;have hi:=uv.mp hi
 unfold b8 at hj
 rcases v9.mp hj with q|q<;>(split at q<;>first|(simp only[sf]at q;rw[q];exact hi)|(simp at q))
theorem mS{α:Type}{a b:α}:atI [a,b] 0=some a∧atI [a,b] 1=some b:=⟨rfl,rfl⟩
noncomputable def jh(j:Nat×Nat×Bool):D:=.tup [.int j.1,.int j.2.1,.bl j.2.2]
noncomputable def RO(sp:List Spot)(k:Nat)(l:Bool):Int:=match sp[k]? with
 |some s=>if l then AG s else CI s
 |none=>0
noncomputable def jD(sp:List Spot)(j:Nat×Nat×Bool):D:=.tup [.int j.1,.int j.2.1,.bl j.2.2,.int (RO sp j.1 j.2.2)]
noncomputable def jsE(sp:List Spot)(c r:Nat):D:=.lst ((dy c (c*r) (c*r)).map (jD sp))
theorem RF{c n k:Nat}{α:Type}{f:Nat×Nat×Bool→α}:(b8 c n k).map f=(if decide (k % c<c-1) then [f (k,k+1,false)] else [])++(if decide (k+c<n) then [f (k,k+c,true)] else []):=by
 unfold b8;rw[uk];cases decide (k % c<c-1)<;>cases decide (k+c<n)<;>rfl
noncomputable def fC:IS:=(.seq (.set 2 (.bin .mul (.var 0) (.var 1))) (.seq (.setm 3 (.lst .nil)) (.seq (.loop [4] false .rng (.tup (.cons (.var 2) .nil)) (.seq (.iff (.bin .lt (.bin .mod (.var 4) (.var 0)) (.bin .sub (.var 0) (.lit (.int 1)))) (.app 3 (.tup (.cons (.var 4) (.cons (.bin .add (.var 4) (.lit (.int 1))) (.cons (.lit (.bl false)) .nil))))) .nop) (.iff (.bin .lt (.bin .add (.var 4) (.var 0)) (.var 2)) (.app 3 (.tup (.cons (.var 4) (.cons (.bin .add (.var 4) (.var 0)) (.cons (.lit (.bl true)) .nil))))) .nop))) (.retm 3))))
theorem RM{a b:Nat}(h:0<b):ah .mod (.int (a:Int)) (.int (b:Int))=some (.int ((a % b:Nat):Int)):=(gO (by lia)).trans (by rw[Int.natCast_emod])
theorem mV{a b:Nat}(h:a≤1000000):ah .mul (.int (a:Int)) (.int (b:Int))=some (.int ((a*b:Nat):Int)):=(iG (by lia) (by lia)).trans (by rw[Int.natCast_mul])
theorem TB{a b:Nat}(hb:1≤b):decide ((a:Int)<(b:Int)-1)=decide (a<b-1):=decide_eq_decide.mpr (by lia)
theorem oX{c r:Nat}(hc:1≤c)(bb:c*r≤64)(i5:c≤64):aU G 5 fC [.int c,.int r]=some (.ok (.lst ((dy c (c*r) (c*r)).map jh))):=by
 refine aP (ρ:=[.im (.int c),.im (.int r),.un,.un,.un]) rfl ?_;refine aJ (aR (d:=.int ((c*r:Nat):Int)) (by simp only[zz,yy,aA,aB,mV (show c≤1000000 by lia)])) (aJ (kS (ds:=[]) (by simp only[zz,yy,aB])) ?_)
 simp only[List.set];obtain⟨ρ',l,s4,rfl⟩:=FD (bind:=bK [4] false) (body:=ex G (.seq (.iff (.bin .lt (.bin .mod (.var 4) (.var 0)) (.bin .sub (.var 0) (.lit (.int 1)))) (.app 3 (.tup (.cons (.var 4) (.cons (.bin .add (.var 4) (.lit (.int 1))) (.cons (.lit (.bl false)) .nil))))) .nop) (.iff (.bin .lt (.bin .add (.var 4) (.var 0)) (.var 2)) (.app 3 (.tup (.cons (.var 4) (.cons (.bin .add (.var 4) (.var 0)) (.cons (.lit (.bl true)) .nil))))) .nop)))
  (fun k ρ=>∃s4,ρ=[.im (.int c),.im (.int r),.im (.int ((c*r:Nat):Int)),.mu (.lst ((dy c (c*r) k).map jh)),s4]) (n:=c*r) (ρ:=[.im (.int c),.im (.int r),.im (.int ((c*r:Nat):Int)),.mu (.lst []),.un]) ⟨_,rfl⟩ (by
   rintro k hk ρ ⟨s4,rfl⟩;have hl:=kK (c:=c) (n:=c*r) k
   refine⟨_,rfl,_,aJ (wG (b:=decide (k % c<c-1)) (d:=jh (k,k+1,false)) ?_ ?_ rfl (by rw[ql];lia)) (wG (b:=decide (k+c<c*r)) (d:=jh (k,k+c,true)) ?_ ?_ rfl ?_),.im (.int k),?_⟩
   ·simp only[List.set];simp only[zz,yy,aA,aB,RM hc,TB hc]
   ·simp only[List.set];simp only[zz,yy,aA,aB];rfl
   ·simp only[List.set];simp only[zz,yy,aA,aB];exact congrArg (fun b=>some (D.bl b)) (decide_eq_decide.mpr (by lia))
   ·simp only[List.set];simp only[zz,yy,aA,aB];rfl
   ·rw[sk,ql];split<;>simp<;>lia
   ·simp only[List.set,vJ,uk,qy,RF])
 exact aJ ((dB (d:=.tup [.int ((c*r:Nat):Int)]) (by simp only[zz,yy,aA,aB]) (eR (by lia))).trans l) (jN rfl)
noncomputable def aFl:IS:=(.app 2 (.tup (.cons (.var 3) (.cons (.var 4) (.cons (.var 5) (.cons (.ite (.tr (.var 5)) (.ix (.ix (.var 1) (.var 3)) (.lit (.int 1))) (.ix (.ix (.var 1) (.var 3)) (.lit (.int 0)))) .nil))))))
noncomputable def fG:IS:=(.seq (.set 1 (.call "edge_lines" (.cons (.var 0) .nil))) (.seq (.setm 2 (.lst .nil)) (.seq (.loop [3,4,5] true .seq (.call "neighbours" (.cons (.fld (.var 0) "columns") (.cons (.fld (.var 0) "rows") .nil))) aFl) (.retm 2))))
theorem RN{k:Nat}{s:Spot}{l:Bool}(h:sp[k]?=some s):RO sp k l=if l then AG s else CI s:=by unfold RO;rw[h]
theorem pF(hf:G.fl "Pile" = cw){c r:Nat}{F C:List D}{kvs:List (Int×D)}(hel:G.fn "edge_lines" [aL c r w h T F C]=some (.ok (.dct kvs)))(hk:∀(i:Nat) (s:Spot),sp[i]?=some s→dQ kvs i=some (iP s))
  (hnb:G.fn "neighbours" [.int c,.int r]=some (.ok (.lst ((dy c (c*r) (c*r)).map jh)))) (bb:c*r≤64) (br:sp.length=c*r):aU G 6 fG [aL c r w h T F C]=some (.ok (jsE sp c r)):=by
 have e0:∀r',ev G (.var 0) (.im (aL c r w h T F C)::r')=some (bN c r w h (T.map sE) F C):=fun _=>by simp only[zz,yy];rfl
 refine aP (ρ:=[.im (aL c r w h T F C),.un,.un,.un,.un,.un]) rfl ?_;refine aJ (aR (d:=.dct kvs) (by simp only[zz,yy,aA,aB,hel])) (aJ (kS (ds:=[]) (by simp only[zz,yy,aB])) ?_)
 simp only[List.set];have hl:=kK (c:=c) (n:=c*r) (c*r)
 obtain⟨ρ',l,s3,s4,s5,rfl⟩:=fK (enc:=jh) (bind:=bK [3,4,5] true) (body:=ex G aFl) (fun k ρ=>∃s3 s4 s5,ρ=[.im (aL c r w h T F C),.im (.dct kvs),.mu (.lst (((dy c (c*r) (c*r)).take k).map (jD sp))),s3,s4,s5])
  (L:=dy c (c*r) (c*r)) (ρ:=[.im (aL c r w h T F C),.im (.dct kvs),.mu (.lst []),.un,.un,.un]) ⟨_,_,_,rfl⟩ (by
   rintro k j hj ρ ⟨s3,s4,s5,rfl⟩;have ha:j.1<sp.length:=by rw[br];exact ZJ (qh hj)
   have hs:=qj ha
   refine⟨[.im (aL c r w h T F C),.im (.dct kvs),.mu (.lst (((dy c (c*r) (c*r)).take k).map (jD sp))),.im (.int j.1),.im (.int j.2.1),.im (.bl j.2.2)],rfl,_,jW (d:=jD sp j) ?_ rfl (by rw[ql,tm];lia),.im (.int j.1),.im (.int j.2.1),.im (.bl j.2.2),?_⟩
   ·have hv:=hk j.1 _ hs
    unfold jD;rw[RN hs];cases hb:j.2.2
    ·simp only[zz,yy,aA,aB,cJ,hv,iP,mS.1,mS.2];rfl
    ·simp only[zz,yy,aA,aB,cJ,hv,iP,mS.1,mS.2];rfl
   ·rw[um,hj,uk];rfl)
 rw[uy]at l;refine aJ ((dB (d:=.lst ((dy c (c*r) (c*r)).map jh)) ?_ eA).trans l) (jN rfl);rw[gA,bA,lJ hf (e0 _),bA,xX hf (e0 _)];simp only[zz,yy,aA,aB,hnb]
noncomputable def kN:IS:=(.ret true (.comp 3 [(2,0)] [1] false .seq (.call "all_joints" (.cons (.var 0) .nil)) (.bin .notin (.sl (.var 1) false (.lit .non) true (.lit (.int 2))) (.fld (.var 2) "severed")) (.var 1)))
end
end Pg
theorem wW{α:Type}{f:D→Option (Option D)}{enc g:α→D}{p:α→Bool}:∀{L:List α},(∀a∈L,f (enc a)=some (if p a then some (g a) else none))→bU f (L.map enc)=some ((L.filter p).map g)
 |[],_=>rfl
 |a::r,e=>by
  rw[su];unfold bU;rw[e a (ug),wW fun x hx=>e x (qt _ hx)]
  cases h:p a
  ·rw[List.filter_cons_of_neg (by simp[h])];rfl
  ·rw[List.filter_cons_of_pos (by simp[h])];rfl
theorem wI{α:Type}{G:GS}{ρ:List Sl}{n:Nat}{fr:List (Nat×Nat)}{tg:List Nat}{tp:Bool}{k:Src}{src test elt:IE}{s:D}{L:List α}(enc g:α→D)(p:α→Bool)(h1:ev G src ρ=some s)(h2:items k s=some (L.map enc))
  (h3:∀a∈L,∃ρ1,bK tg tp (enc a) (frame n fr ρ)=some ρ1∧ev G test ρ1=some (.bl (p a))∧ev G elt ρ1=some (g a)):ev G (.comp n fr tg tp k src test elt) ρ=some (.lst ((L.filter p).map g)):=by
 rw[tP,h1,ue,h2,ue,wW (g:=g) (p:=p)]
 ·rfl
 ·intro a ha;obtain⟨ρ1,e1,e2,e3⟩:=h3 a ha;rw[e1,ue,e2,ue];cases p a
  ·rfl
  ·show Option.map some (ev G elt ρ1)=_
   rw[e3];rfl
theorem oH{α:Type}{f:α→D}:∀{L:List α},(∀a,b6 (f a) (f a)=true)→jX (L.map f) (L.map f)=true
 |[],_=>by rw[map_nil,jX]
 |a::r,h=>by rw[su,jX,h a,oH (L:=r) h];rfl
theorem pW{α:Type}{f:α→D}{L:List α}(h:∀a,flat 7 (f a)=true):plain (.lst (L.map f))=true:=by
 show (L.map f).all (flat 7)=true
 rw[List.all_map];exact all_eq_true.mpr fun a _=>h a
theorem CL{xs ys:List D}:b6 (.lst xs) (.lst ys)=jX xs ys:=by rw[b6]
namespace Pg
section
variable {G:GS}
noncomputable def AS:IS:=(.seq (.set 3 (.ite (.tr (.var 1)) (.fld (.var 0) "high") (.fld (.var 0) "wide"))) (.seq (.iff (.or (.bin .lt (.var 2) (.lit (.int 0))) (.bin .gt (.var 2) (.var 3))) (.rse "NoPlace") .nop) (.seq (.set 4 (.comp 4 [(2,1),(3,2)] [1] false .seq (.call "joints" (.cons (.var 0) .nil)) (.bin .eq (.sl (.var 1) true (.lit (.int 2)) false (.lit .non)) (.tup (.cons (.var 2) (.cons (.var 3) .nil)))) (.sl (.var 1) false (.lit .non) true (.lit (.int 2))))) (.ret false (.mk "Pile" (.cons (.fld (.var 0) "columns") (.cons (.fld (.var 0) "rows") (.cons (.fld (.var 0) "table") (.cons (.fld (.var 0) "folds") (.cons (.bin .add (.fld (.var 0) "severed") (.bcall .tuple (.cons (.var 4) .nil))) .nil))))))))))
theorem pM{a b c d:D}:cut [a,b,c,d] (some 2) none=[c,d]:=rfl
theorem SZ{a b:Bool}{i j:Int}:ah .eq (.tup [.bl a,.int i]) (.tup [.bl b,.int j])=some (.bl ((a == b)&&(i == j))):=by
 show oEq _ _=_
 unfold oEq;rw[show (plain (.tup [.bl a,.int i])&&plain (.tup [.bl b,.int j]))=true from rfl]
 simp[b6,jX]
noncomputable def GO(p:Table×Nat×Nat)(f:Fold):Table×Nat×Nat:=(foldT f.sd f.over f.k p.1,if f.sd.up then max f.k (p.2.1-f.k) else p.2.1,if f.sd.up then p.2.2 else max f.k (p.2.2-f.k))
noncomputable def runs(c r:Nat)(fs:List Fold):Table×Nat×Nat:=fs.foldl GO (eZ c r,c,r)
theorem lC{c r:Nat}{fs:List Fold}{f:Fold}:runs c r (fs++[f])=GO (runs c r fs) f:=by unfold runs;rw[List.foldl_append];rfl
noncomputable def dM(c r:Nat)(fs:List Fold):D:=aL c r (runs c r fs).2.1 (runs c r fs).2.2 (runs c r fs).1 (fs.map Fold.d) []
structure Stg (c r:Nat) (fs:List Fold) (sp:List Spot):Prop where
 sits:Sits (runs c r fs).1 (runs c r fs).2.1 (runs c r fs).2.2 sp
 len:sp.length=c*r
def Fits(c r:Nat)(fs:List Fold)(f:Fold):Prop:=1≤f.k∧f.k<ext f.sd (runs c r fs).2.1 (runs c r fs).2.2
theorem Stg.fold{c r:Nat}{fs:List Fold}{sp:List Spot}(S:Stg c r fs sp){f:Fold}{top low:Int}(ok:Fits c r fs f)(ht:∀s∈sp,s.z≤top)(hl:∀s∈sp,low≤s.z) :
  Stg c r (fs++[f]) (sp.map (cP f.sd f.over f.k (max f.k (ext f.sd (runs c r fs).2.1 (runs c r fs).2.2-f.k)) top low)):=by
 refine⟨?_,by rw[ql];exact S.len⟩
 rw[lC];exact S.sits.fold ok.1 ok.2 ht hl
structure Stgs (c r:Nat) (fs:List Fold) (sps:List (List Spot)):Prop where
 len:sps.length=fs.length+1
 at_:∀i sp,sps[i]?=some sp→Stg c r (fs.take i) sp
 ok:∀i f,fs[i]?=some f→Fits c r (fs.take i) f
theorem FF(oy:∀(c r w h:Nat) (T:Table) (F:List D) (sd:Side) (over:Bool) (k:Nat),Rect T w h→w≤1000→h≤1000→pG 400000 T→1≤k→(k<if sd.up then w else h)→F.length≤1000 →
   G.fn "folded" [aL c r w h T F [],.str sd.str,.bl over,.int k]=some (.ok (aL c r (if sd.up then max k (w-k) else w) (if sd.up then h else max k (h-k)) (foldT sd over k T) (F++[eY sd over k]) [])))
  {c r:Nat} {fs:List Fold} {sp:List Spot} (S:Stg c r fs sp) {f:Fold} (ok:Fits c r fs f) (hl:fs.length≤1000):G.fn "folded" [dM c r fs,.str f.sd.str,.bl f.over,.int f.k]=some (.ok (dM c r (fs++[f]))):=by
 have a:=S.sits.w64
 have b:=S.sits.h64
 unfold dM;rw[oy c r _ _ _ _ f.sd f.over f.k S.sits.rect (by lia) (by lia) (fun s hs x hx=>se (S.sits.few s hs x hx) (by decide)) ok.1 ok.2 (by rw[ql];exact hl),lC,uk]
 rfl
end
section
variable {G:GS}
noncomputable def pD(p:Nat×Nat):D:=.tup [.int p.1,.int p.2]
noncomputable def pairOf(j:Nat×Nat×Bool):Nat×Nat:=(j.1,j.2.1)
noncomputable def left(c n:Nat)(ak:List (Nat×Nat)):List (Nat×Nat×Bool):=(dy c n n).filter fun j=>!ak.contains (pairOf j)
noncomputable def IJ(sp:List Spot)(l:Bool)(n:Int)(j:Nat×Nat×Bool):Bool:=(j.2.2 == l)&&(RO sp j.1 j.2.2 == n)
noncomputable def fS(c n:Nat)(sp:List Spot)(ak:List (Nat×Nat))(l:Bool)(k:Int):List (Nat×Nat):=((left c n ak).filter (IJ sp l k)).map pairOf
theorem aAC{p q:Nat×Nat}:b6 (pD p) (pD q)=(p == q):=by
 unfold pD;obtain⟨a,b⟩:=p;obtain⟨c,d⟩:=q;simp only[b6,jX,Bool.and_true];rw[Bool.eq_iff_iff];simp;lia
theorem EH{p:Nat×Nat}{ak:List (Nat×Nat)}:ah .notin (pD p) (.tup (ak.map pD))=some (.bl (!ak.contains p)):=by
 show (if (plain (pD p)&&(ak.map pD).all plain)=true then some (D.bl (!(ak.map pD).any fun y=>b6 y (pD p))) else none)=_
 rw[if_pos]
 ·congr 2
  rw[List.any_map]
  congr 1
  rw[List.contains_eq_any_beq]
  congr 1
  funext q
  show b6 (pD q) (pD p)=(p == q)
  rw[aAC,Bool.beq_comm]
 ·rw[qv];exact⟨rfl,all_eq_true.mpr fun x hx=>by obtain⟨y,_,rfl⟩:=t8.mp hx;rfl⟩
theorem yM(hf:G.fl "Pile" = cw){c r w h:Nat}{T:Table}{F:List D}{sp:List Spot}{ak:List (Nat×Nat)}(haj:G.fn "all_joints" [aL c r w h T F (ak.map pD)]=some (.ok (jsE sp c r))) :
  aU G 1 kN [aL c r w h T F (ak.map pD)]=some (.ok (.lst ((left c (c*r) ak).map (jD sp)))):=by
 refine aP (ρ:=[.im (aL c r w h T F (ak.map pD))]) rfl (aZ ?_);refine wI (jD sp) (jD sp) (fun j=>!ak.contains (pairOf j)) (s:=jsE sp c r) (by simp only[zz,yy,aA,aB,haj]) eA fun j _=>⟨[.un,.im (jD sp j),.im (aL c r w h T F (ak.map pD))],rfl,?_,by simp only[zz,yy]⟩
 rw[bT,jG (c:=c) (r:=r) (w:=w) (h:=h) (T:=T.map sE) (F:=F) (S:=ak.map pD) hf (by simp only[zz,yy];rfl),CD,oE]
 unfold jD;simp only[zz,yy,aA,aB,part,intOf];exact EH (p:=pairOf j)
theorem TC(hf:G.fl "Pile" = cw){c r w h:Nat}{T:Table}{F:List D}{sp:List Spot}{ak:List (Nat×Nat)}(R:Rect T w h)(hjo:G.fn "joints" [aL c r w h T F (ak.map pD)]=some (.ok (.lst ((left c (c*r) ak).map (jD sp)))))
  (j8:∀(c r:Int) (T row:List D) (F S:List D),T[0]?=some (.lst row)→G.mo "Pile" [.int c,.int r,.lst T,.tup F,.tup S]=some (.ok (bN c r row.length T.length T F S)))
  {l:Bool} {n:Int} (h0:0≤n) (h1:n≤((if l then h else w:Nat):Int)) (hlen:ak.length+c*r*2≤1000000) :
  aU G 5 AS [aL c r w h T F (ak.map pD),.bl l,.int n]=some (.ok (aL c r w h T F ((ak++fS c (c*r) sp ak l n).map pD))):=by
 have e0:∀r',ev G (.var 0) (.im (aL c r w h T F (ak.map pD))::r')=some (bN c r w h (T.map sE) F (ak.map pD)):=fun _=>by simp only[zz,yy];rfl
 have em:=j8 c r (T.map sE) ((T.getD 0 []).map hE) F ((ak++fS c (c*r) sp ak l n).map pD) (by
  have:=R.len;have:=R.h1
  rw[qk,q9,qj (by lia)];rfl)
 rw[ql,ql,R.len,show (T.getD 0 []).length=_ from R.width]at em
 refine aP (ρ:=[.im (aL c r w h T F (ak.map pD)),.im (.bl l),.im (.int n),.un,.un]) rfl ?_;refine aJ (aR (d:=.int ((if l then h else w:Nat):Int)) ?_) (aJ (cX ?_ aX) (aJ (aR (d:=.lst ((fS c (c*r) sp ak l n).map pD)) ?_) (aZ ?_)))
 ·rw[tO];cases l
  ·simp only[zz,yy,aA,aB,cJ,hJ hf (e0 _)];rfl
  ·simp only[zz,yy,aA,aB,cJ,hU hf (e0 _)];rfl
 ·simp only[List.set];simp only[zz,yy,aA,aB];rw[qp (show ¬n<0 by lia),qp (show ¬((if l then h else w:Nat):Int)<n by lia)]
 ·simp only[List.set];have e:=wI (G:=G) (L:=left c (c*r) ak) (jD sp) (fun j=>pD (pairOf j)) (IJ sp l n) (n:=4) (fr:=[(2,1),(3,2)]) (tg:=[1]) (tp:=false) (k:=.seq) (src:=.call "joints" (.cons (.var 0) .nil))
   (test:=.bin .eq (.sl (.var 1) true (.lit (.int 2)) false (.lit .non)) (.tup (.cons (.var 2) (.cons (.var 3) .nil)))) (elt:=.sl (.var 1) false (.lit .non) true (.lit (.int 2))) (ρ:=[.im (aL c r w h T F (ak.map pD)),.im (.bl l),.im (.int n),.im (.int ((if l then h else w:Nat):Int)),.un]) (s:=.lst ((left c (c*r) ak).map (jD sp)))
   (by simp only[zz,yy,aA,aB,hjo]) eA fun j _=>⟨[.un,.im (jD sp j),.im (.bl l),.im (.int n)],rfl,by
    unfold jD;rw[bT,CD,oE];simp only[zz,yy,aA,aB,part,intOf];exact SZ,by
    unfold jD;rw[CD,oE];simp only[zz,yy,aA,aB,part,intOf];rfl⟩
  rw[e];unfold fS;rw[uq];rfl
 ·simp only[List.set];rw[KP,bA,lJ hf (e0 _),bA,xX hf (e0 _),bA,rR hf (e0 _),bA,AC hf (e0 _),bA,bT,jG hf (e0 _)];simp only[zz,yy,aA,aB];rw[show bf .tuple [.lst ((fS c (c*r) sp ak l n).map pD)]=some (.tup ((fS c (c*r) sp ak l n).map pD)) from rfl]
  have az:(fS c (c*r) sp ak l n).length≤c*r*2:=by
   unfold fS left;rw[ql];refine se (List.length_filter_le _ _) (se (List.length_filter_le _ _) ?_);have:=kK (c:=c) (n:=c*r) (c*r)
   lia
  simp only[aA,aFN (a:=ak.map pD) (b:=(fS c (c*r) sp ak l n).map pD) (by rw[ql,ql];lia),←uk,zz,yy,em]
  rfl
end
section
variable {G:GS}
theorem md{i n:Int}(h:0<n):ah .mod (.int i) (.int n)=some (.int (i % n)):=gO h
theorem dv{i n:Int}(h:0<n)(h':n<1000000):ah .fdiv (.int i) (.int n)=some (.int (i / n)):=lZ h h'
theorem rT(i:Int)(n:Nat)(h:0<n):∃k:Nat,k<n∧i % (n:Int)=k:=by
 have h0:=Int.emod_nonneg i (show (n:Int)≠0 by lia)
 have h1:=Int.emod_lt_of_pos i (show (0:Int)<n by lia)
 exact⟨(i % (n:Int)).toNat,by lia,by lia⟩
end
end Pg
namespace K02
open Pg
section
variable {G:GS}
end
end K02
namespace Pg
section
variable {G:GS}
theorem uE:∀sp:List Spot,∃top low:Int,(∀s∈sp,s.z≤top)∧(∀s∈sp,low≤s.z)
 |[]=>⟨0,0,fun _ h=>(nomatch h),fun _ h=>(nomatch h)⟩
 |s::sp=>by
  obtain⟨t,l,h1,h2⟩:=uE sp;refine⟨max t s.z,min l s.z,fun u hu=>?_,fun u hu=>?_⟩
  ·rcases sg.mp hu with e|hu
   ·rw[e];lia
   ·have:=h1 u hu;lia
  ·rcases sg.mp hu with e|hu
   ·rw[e];lia
   ·have:=h2 u hu;lia
theorem Stg.fold'{c r:Nat}{fs:List Fold}{sp:List Spot}(S:Stg c r fs sp){f:Fold}(ok:Fits c r fs f):∃k9,Stg c r (fs++[f]) k9:=by
 obtain⟨t,l,h1,h2⟩:=uE sp;exact⟨_,S.fold ok h1 h2⟩
noncomputable def zD:IS:=(.iff (.bin .gt (.bin .mul (.fld (.var 3) "wide") (.fld (.var 3) "high")) (.lit (.int 1))) (.seq (.set 5 (.bin .add (.call "_law_cell_at" (.cons (.var 2) (.cons (.bin .add (.lit (.int 3)) (.bin .mod (.var 4) (.lit (.int 12)))) .nil))) (.bin .mul (.lit (.int 11)) (.bin .fdiv (.var 4) (.lit (.int 12)))))) (.seq (.set 6 (.call "_law_fold_by" (.cons (.var 5) (.cons (.fld (.var 3) "wide") (.cons (.fld (.var 3) "high") .nil))))) (.set 3 (.call "folded" (.cons (.var 3) (.cons (.ix (.var 6) (.lit (.int 0))) (.cons (.ix (.var 6) (.lit (.int 1))) (.cons (.ix (.var 6) (.lit (.int 2))) .nil)))))))) .nop)
noncomputable def rY:IS:=(.seq (.set 3 (.call "laid" (.cons (.var 0) (.cons (.var 1) .nil)))) (.seq (.loop [4] false .rng (.tup (.cons (.bin .add (.var 0) (.var 1)) .nil)) zD) (.ret false (.var 3))))
noncomputable def gu(ns:List Int)(c r:Nat)(fs:List Fold)(s4 s5 s6:Sl):List Sl:=[.im (.int c),.im (.int r),.im (.frz (ns.map .int)),.im (dM c r fs),s4,s5,s6]
theorem OL(hf:G.fl "Pile" = cw){ns:List Int}{c r:Nat}(hc:1≤c)(hr:1≤r)(bb:c*r≤64)(kf:∀k:Nat,G.fn "_law_cell_at" [.frz (ns.map .int),.int k]=some (.ok (.int (bg ns k))))
  (hl:G.fn "laid" [.int c,.int r]=some (.ok (aL c r c r (eZ c r) [] [])))
  (hfb:∀(w h:Nat) (cell:Int),1≤w→1≤h→1<w*h→∃(sd:Side) (over:Bool) (k:Nat),1≤k∧(k<if sd.up then w else h)∧G.fn "_law_fold_by" [.int cell,.int w,.int h]=some (.ok (eY sd over k)))
  (hfp:∀(fs:List Fold) (sp:List Spot) (f:Fold),Stg c r fs sp→Fits c r fs f→fs.length≤1000→G.fn "folded" [dM c r fs,.str f.sd.str,.bl f.over,.int f.k]=some (.ok (dM c r (fs++[f])))) :
  ∃fs sp,Stg c r fs sp∧(runs c r fs).2.1=1∧(runs c r fs).2.2=1∧aU G 7 rY [.int c,.int r,.frz (ns.map .int)]=some (.ok (dM c r fs)):=by
 have c64:c≤64:=se (Nat.le_mul_of_pos_right c hr) bb
 have r64:r≤64:=se (Nat.le_mul_of_pos_left r hc) bb
 have S0:Stg c r [] (iU c r):=⟨FH hc hr bb,nW⟩
 have go:∀(k:Nat),k<c+r→∀ρ,(∃fs sp s4 s5 s6,Stg c r fs sp∧fs.length≤k∧(((runs c r fs).2.1=1∧(runs c r fs).2.2=1)∨(runs c r fs).2.1+(runs c r fs).2.2+k≤c+r)∧ρ=gu ns c r fs s4 s5 s6) →
   ∃ρ1,bK [4] false (.int (k:Nat)) ρ=some ρ1∧∃ρ2,ex G zD ρ1=some (.nx ρ2)∧∃fs sp s4 s5 s6,Stg c r fs sp∧fs.length≤k+1∧(((runs c r fs).2.1=1∧(runs c r fs).2.2=1)∨(runs c r fs).2.1+(runs c r fs).2.2+(k+1)≤c+r)∧ρ2=gu ns c r fs s4 s5 s6:=by
  rintro k hk ρ ⟨fs,sp,s4,s5,s6,S,hlen,hw,rfl⟩;refine⟨gu ns c r fs (.im (.int (k:Nat))) s5 s6,rfl,?_⟩;have w1:=S.sits.rect.w1
  have h1:=S.sits.rect.h1
  have w64:=S.sits.w64
  have h64:=S.sits.h64
  have ew:∀{ρ:List Sl} {a:IE},ev G a ρ=some (dM c r fs)→ev G (.fld a "wide") ρ=some (.int (runs c r fs).2.1):=fun e=>hJ hf e
  have eh:∀{ρ:List Sl} {a:IE},ev G a ρ=some (dM c r fs)→ev G (.fld a "high") ρ=some (.int (runs c r fs).2.2):=fun e=>hU hf e
  have et:ev G (.bin .gt (.bin .mul (.fld (.var 3) "wide") (.fld (.var 3) "high")) (.lit (.int 1))) (view (gu ns c r fs (.im (.int (k:Nat))) s5 s6))=some (.bl (decide (1<(runs c r fs).2.1*(runs c r fs).2.2))):=by
   rw[bT,bT,ew rfl,eh rfl];simp only[zz,yy,aA,aB,mV (show (runs c r fs).2.1≤1000000 by lia)]
   exact congrArg (fun b=>some (D.bl b)) (decide_eq_decide.mpr (by lia))
  by_cases hb:1<(runs c r fs).2.1*(runs c r fs).2.2
  ·obtain⟨cell,hcell⟩:∃cell,cell=bg ns (3+k % 12)+11*((k:Int) / 12):=⟨_,rfl⟩;obtain⟨sd,over,kk,k1,k2,efb⟩:=hfb _ _ cell w1 h1 hb;have ok:Fits c r fs ⟨sd,over,kk⟩:=⟨k1,k2⟩
   have efp:=hfp fs sp ⟨sd,over,kk⟩ S ok (by lia)
   obtain⟨k9,S'⟩:=S.fold' ok;have ec:G.fn "_law_cell_at" [.frz (ns.map .int),.int (3+(k:Int) % 12)]=some (.ok (.int (bg ns (3+k % 12)))):=kf (3+k % 12)
   refine⟨gu ns c r (fs++[⟨sd,over,kk⟩]) (.im (.int (k:Nat))) (.im (.int cell)) (.im (eY sd over kk)),jV (et.trans (by rw[sv hb])) (aJ (aR (d:=.int cell) ?_) (aJ (aR (d:=eY sd over kk) ?_) ((aR (d:=dM c r (fs++[⟨sd,over,kk⟩])) ?_).trans rfl))),fs++[⟨sd,over,kk⟩],k9,_,_,_,S',by rw[sk];exact Nat.succ_le_succ hlen,?_,rfl⟩
   ·unfold gu;rw[hcell];simp only[zz,yy,aA,aB,gO (i:=(k:Int)) (j:=12) (by decide),lZ (i:=(k:Int)) (j:=12) (by decide) (by decide),ec,iG (i:=11) (by decide) (by decide)]
   ·rw[gA,bA,bA,ew rfl,bA,eh rfl];unfold gu;simp only[List.set];simp only[zz,yy,aA,aB,efb]
   ·unfold gu;simp only[List.set];simp only[zz,yy,aA,aB,eY,zF.1,zF.2.1,zF.2.2,efp]
   ·rw[lC];have kb:kk<if sd.up then(runs c r fs).2.1 else(runs c r fs).2.2:=k2
    have lz:1≤kk:=k1
    refine .inr ?_;unfold GO;dsimp only
    rcases hw with ⟨e1,e2⟩|hw
    ·rw[e1,e2]at hb;lia
    ·cases hu:sd.up with
     |true=>rw[hu]at kb;simp only[if_true]at kb ⊢;lia
     |false=>rw[hu]at kb;simp only[qr,if_false]at kb ⊢;lia
  ·refine⟨_,cX (et.trans (by rw[qp hb])) aX,fs,sp,_,_,_,S,le_succ_of_le hlen,.inl ?_,rfl⟩
   have a:(runs c r fs).2.1≤(runs c r fs).2.1*(runs c r fs).2.2:=Nat.le_mul_of_pos_right _ h1
   have b:(runs c r fs).2.2≤(runs c r fs).2.1*(runs c r fs).2.2:=Nat.le_mul_of_pos_left _ w1
   exact⟨by lia,by lia⟩
 obtain⟨ρ',l,fs,sp,s4,s5,s6,S,hlen,hw,rfl⟩:=fK (enc:=fun k:Nat=>D.int k) (bind:=bK [4] false) (body:=ex G zD) (fun k ρ=>∃fs sp s4 s5 s6,Stg c r fs sp∧fs.length≤k∧(((runs c r fs).2.1=1∧(runs c r fs).2.2=1)∨(runs c r fs).2.1+(runs c r fs).2.2+k≤c+r)∧ρ=gu ns c r fs s4 s5 s6) (L:=List.range (c+r)) (ρ:=gu ns c r [] .un .un .un) ⟨[],iU c r,_,_,_,S0,qm _,.inr (qm _),rfl⟩
  (fun k a hk ρ h=>by
   have h1:=(q8.mp hk).1
   rw[rh]at h1;have h2:a=k:=by rw[ui h1]at hk;exact(qw hk).symm
   subst h2;exact go a h1 ρ h)
 rw[rh]at hw;have w1:=S.sits.rect.w1
 have h1:=S.sits.rect.h1
 have ji:(runs c r fs).2.1=1∧(runs c r fs).2.2=1:=hw.elim id fun z=>by lia
 refine⟨fs,sp,S,ji.1,ji.2,aP (ρ:=[.im (.int c),.im (.int r),.im (.frz (ns.map .int)),.un,.un,.un,.un]) rfl (aJ (aR (d:=dM c r []) ?_) (aJ ((dB (d:=.tup [.int ((c+r:Nat):Int)]) ?_ (eR (by lia))).trans l) (aZ (by unfold gu;simp only[zz,yy]))))⟩
 ·simp only[zz,yy,aA,aB,hl];rfl
 ·simp only[List.set];simp only[zz,yy,aA,aB];rfl
theorem kA{T:Table}{sp:List Spot}(S:Sits T 1 1 sp):(aj T 0 0).length=sp.length∧lX ((aj T 0 0).map fun c=>D.int c.1)=some ((List.range sp.length).map fun (k:Nat)=>D.int k):=by
 have nk:((aj T 0 0).map fun c=>(c.1,(0:Int))).Nodup:=by
  rw[List.nodup_iff_pairwise_ne,pairwise_map];refine(S.lk.ord 0 0).imp fun {a b} h e=>?_
  have:a.1=b.1:=(Prod.mk.inj e).1
  rw[this]at h;lia
 have pm:((List.range sp.length).map fun (k:Nat)=>((k:Int),(0:Int))).Pairwise (fun a b=>cv a b=true):=by
  rw[pairwise_map];refine List.pairwise_lt_range.imp fun {a b} h=>?_
  rw[dI];exact .inl (by dsimp only;lia)
 have nm:((List.range sp.length).map fun (k:Nat)=>((k:Int),(0:Int))).Nodup:=pm.imp fun {a b} e q=>by subst q;rw[dI]at e;lia
 have pe:((List.range sp.length).map fun (k:Nat)=>((k:Int),(0:Int))).Perm ((aj T 0 0).map fun c=>(c.1,(0:Int))):=by
  refine(List.perm_ext_iff_of_nodup nm nk).mpr fun p=>?_
  rw[t8,t8];constructor
  ·rintro⟨k,hk,rfl⟩;have hk:=uv.mp hk
   have hs:=qj hk
   have hm:=v5 hk
   have:=S.xlt hm
   have:=S.ylt hm
   exact⟨((k:Int),(sp[k]).e,(sp[k]).n),(S.lk.mem 0 0 _).mpr ⟨k,sp[k],hs,by lia,by lia,rfl⟩,rfl⟩
  ·rintro⟨c,hc,rfl⟩;obtain⟨i,s,h1,_,_,rfl⟩:=(S.lk.mem 0 0 c).mp hc;exact⟨i,uv.mpr (q8.mp h1).1,rfl⟩
 have hl:(aj T 0 0).length=sp.length:=by
  have:=pe.length_eq
  simpa using this.symm
 refine⟨hl,?_⟩;have h1:1≤sp.length:=Nat.pos_of_ne_zero fun z=>S.ne (sr.mp z)
 have np:lI ((aj T 0 0).map fun c=>D.int c.1)=none:=by
  cases hh:aj T 0 0 with
  |nil=>rw[hh]at hl;simp at hl;lia
  |cons c r=>rfl
 have cs:gC (((aj T 0 0).map fun c=>c.1).map fun i=>(i,(0:Int)))=true:=by
  unfold gC;rw[qv,rg,rg,uq];refine⟨?_,nk⟩;rw[ql,hl];exact S.len
 unfold lX;rw[np];show (match gS ((aj T 0 0).map fun c=>D.int c.1) with|some is=>(if gC (is.map fun i=>(i,0)) then some ((iL (is.map fun i=>(i,0))).map fun (p:Int×Int)=>D.int p.1) else none)|none=>none)=_
 rw[ints_map];show (if gC (((aj T 0 0).map fun c=>c.1).map fun i=>(i,(0:Int))) then some ((iL (((aj T 0 0).map fun c=>c.1).map fun i=>(i,(0:Int)))).map fun p=>D.int p.1) else none)=_
 rw[if_pos cs,uq,show ((fun i=>(i,(0:Int))) ∘ fun (c:Cell)=>c.1)=fun c=>(c.1,(0:Int)) from rfl,←nK pe pm,uq]
 rfl
noncomputable def LS:IS:=(.seq (.iff (.or (.not (.tr (.isi (.var 3) "tuple"))) (.or (.bin .ne (.bcall .len (.cons (.var 3) .nil)) (.lit (.int 3))) (.not (.tr (.call "_law_whole" (.cons (.ix (.var 3) (.lit (.int 0))) .nil)))))) (.ret false (.lit .non)) .nop) (.iff (.or (.not (.tr (.isi (.ix (.var 3) (.lit (.int 1))) "bool"))) (.not (.tr (.isi (.ix (.var 3) (.lit (.int 2))) "bool")))) (.ret false (.lit .non)) .nop))
noncomputable def sA:IS:=(.seq (.iff (.or (.bin .ne (.fld (.var 0) "wide") (.lit (.int 1))) (.bin .ne (.fld (.var 0) "high") (.lit (.int 1)))) (.ret false (.lit .non)) .nop) (.seq (.set 2 (.meth (.var 0) "heap" (.cons (.lit (.int 0)) (.cons (.lit (.int 0)) .nil)))) (.seq (.iff (.or (.not (.tr (.isi (.var 2) "list"))) (.bin .ne (.bcall .len (.cons (.var 2) .nil)) (.var 1))) (.ret false (.lit .non)) .nop) (.seq (.loop [3] false .seq (.var 2) LS) (.seq (.iff (.bin .ne (.bcall .sorted (.cons (.comp 2 [] [1] false .seq (.var 2) (.lit (.bl true)) (.ix (.var 1) (.lit (.int 0)))) .nil)) (.walk .rng (.tup (.cons (.var 1) .nil)))) (.ret false (.lit .non)) .nop) (.ret false (.var 2)))))))
theorem RP(hf:G.fl "Pile" = cw)(hw:∀i:Int,G.fn "_law_whole" [.int i]=some (.ok (.bl true))){c r:Nat}{T:Table}{F S:List D}{sp:List Spot}(St:Sits T 1 1 sp)(hs:sp.length=c*r)(hh:G.me "Pile" "heap" [aL c r 1 1 T F S,.int 0,.int 0]=some (.ok (hE (aj T 0 0)))) :
  aU G 4 sA [aL c r 1 1 T F S,.int ((c*r:Nat):Int)]=some (.ok (hE (aj T 0 0))):=by
 obtain⟨hl,hsort⟩:=kA St;have n64:=St.len
 refine aP (ρ:=[.im (aL c r 1 1 T F S),.im (.int ((c*r:Nat):Int)),.un,.un]) rfl ?_;have e0:∀{s1 s2 s3:Sl},ev G (.var 0) [.im (aL c r 1 1 T F S),s1,s2,s3]=some (bN c r (1:Nat) (1:Nat) (T.map sE) F S):=fun {_ _ _}=>rfl
 obtain⟨ρ',h1,s3,rfl⟩:=lR (bind:=bK [3] false) (body:=ex G LS) (fun ρ=>∃s3,ρ=[.im (aL c r 1 1 T F S),.im (.int ((c*r:Nat):Int)),.im (hE (aj T 0 0)),s3]) (ds:=(aj T 0 0).map di) (ρ:=[.im (aL c r 1 1 T F S),.im (.int ((c*r:Nat):Int)),.im (hE (aj T 0 0)),.un]) ⟨.un,rfl⟩ (by
  rintro d hd ρ ⟨s3,rfl⟩;obtain⟨q,hq,rfl⟩:=t8.mp hd;refine⟨_,rfl,_,aJ (cX ?_ aX) (cX ?_ aX),_,rfl⟩
  ·show ev G _ (view [.im (aL c r 1 1 T F S),.im (.int ((c*r:Nat):Int)),.im (hE (aj T 0 0)),.im (di q)])=_
   simp only[bX,cU,aV];unfold di;refine cC (x:=false) (y:=false) (by simp only[zz,yy,aA,aB,AL,cJ,so]) fun _=>cC (x:=false) (y:=false) ?_ fun _=>?_
   ·simp only[zz,yy,aA,aB];rfl
   ·simp only[zz,yy,aA,aB,zF.1,hw,cJ,so]
  ·show ev G _ (view [.im (aL c r 1 1 T F S),.im (.int ((c*r:Nat):Int)),.im (hE (aj T 0 0)),.im (di q)])=_
   simp only[bX,cU,aV];unfold di;exact cC (x:=false) (y:=false) (by simp only[zz,yy,aA,aB,zF.2.1,iR,cJ,so]) fun _=>by simp only[zz,yy,aA,aB,zF.2.2,iR,cJ,so])
 refine aJ (cX ?_ aX) (aJ (aR (d:=hE (aj T 0 0)) ?_) (aJ (cX ?_ aX) (aJ ((dB (d:=hE (aj T 0 0)) ?_ eA).trans h1) (aJ (cX ?_ aX) (aZ ?_)))))
 ·simp only[bX,cU,aV];refine cC (x:=false) (y:=false) ?_ fun _=>?_
  ·rw[bT,hJ hf e0];simp only[zz,yy,aA,aB];rfl
  ·rw[bT,hU hf e0];simp only[zz,yy,aA,aB];rfl
 ·exact xZ rfl e0 (by simp only[zz,yy,aA,aB]) hh
 ·simp only[List.set,bX,cU,aV];refine cC (x:=false) (y:=false) (by unfold hE;simp only[zz,yy,aA,aB,AM,cJ,so]) fun _=>?_
  unfold hE;simp only[zz,yy,aA,aB,ql,hl,hs];simp
 ·simp only[List.set];simp only[zz,yy]
 ·simp only[bX,cU,aV];have e1:∀{ρ:List Sl},ev G (.var 2) ρ=some (hE (aj T 0 0))→ev G (.comp 2 [] [1] false .seq (.var 2) (.lit (.bl true)) (.ix (.var 1) (.lit (.int 0)))) ρ=some (.lst ((aj T 0 0).map fun c=>D.int c.1)):=fun {ρ} h =>
   dG (L:=aj T 0 0) di (fun c=>D.int c.1) (s:=hE (aj T 0 0)) h eA fun c _=>⟨[.un,.im (di c)],rfl,by simp only[zz,yy],by unfold di;simp only[zz,yy,aA,aB,zF.1]⟩
  rw[bT,oG,bA,e1 rfl];show ((Option.map D.lst (lX ((aj T 0 0).map fun c=>D.int c.1))).bind fun x=>(ev G (.walk .rng (.tup (.cons (.var 1) .nil))) _).bind fun y=>ah .ne x y)=_
  rw[hsort];simp only[zz,yy,aA,aB,eR (n:=c*r) (by lia),hs]
  exact ne_self (pW fun _=>rfl) (by rw[CL];exact oH fun a=>by rw[b6];exact beq_self_eq_true _)
 ·simp only[zz,yy]
noncomputable def fc1(lv:Bool)(c:Cell):List (Int×Bool):=[(if c.2.1 == c.2.2 then 2*c.1 else 2*c.1+1,c.2.2),(if c.2.1 == c.2.2 then 2*c.1+1 else 2*c.1,if lv then !c.2.2 else c.2.2)]
noncomputable def b9(lv:Bool)(h:cR):List (Int×Bool):=h.flatMap (fc1 lv)
noncomputable def fD(p:Int×Bool):D:=.tup [.int p.1,.bl p.2]
theorem vW{lv:Bool}{h:cR}{k:Nat}{c:Cell}(e:h[k]?=some c):b9 lv (h.take (k+1))=b9 lv (h.take k)++fc1 lv c:=by
 unfold b9;rw[um,e,List.flatMap_append];simp
theorem mZ{lv:Bool}:∀{h:cR},(b9 lv h).length=2*h.length
 |[]=>rfl
 |c::h=>by
  show (fc1 lv c++b9 lv h).length=_
  rw[sk,mZ];show 2+2*h.length=2*(h.length+1)
  lia
noncomputable def aFh:IS:=(.seq (.set 6 (.ite (.bin .eq (.var 4) (.var 5)) (.bin .mul (.lit (.int 2)) (.var 3)) (.bin .add (.bin .mul (.lit (.int 2)) (.var 3)) (.lit (.int 1))))) (.seq (.set 7 (.ite (.bin .eq (.var 4) (.var 5)) (.bin .add (.bin .mul (.lit (.int 2)) (.var 3)) (.lit (.int 1))) (.bin .mul (.lit (.int 2)) (.var 3)))) (.seq (.app 2 (.tup (.cons (.var 6) (.cons (.var 5) .nil)))) (.app 2 (.tup (.cons (.var 7) (.cons (.ite (.bin .isin (.var 1) (.glo "LEVEL_SIDES")) (.not (.tr (.var 5))) (.var 5)) .nil)))))))
noncomputable def RZ:IS:=(.seq (.setm 2 (.lst .nil)) (.seq (.loop [3,4,5] true .seq (.meth (.var 0) "heap" (.cons (.lit (.int 0)) (.cons (.lit (.int 0)) .nil))) aFh) (.retm 2)))
theorem aBR(hlv:G.cst "LEVEL_SIDES" = some cLV){sd:Side}{c r:Nat}{T:Table}{F S:List D}(hh:G.me "Pile" "heap" [aL c r 1 1 T F S,.int 0,.int 0]=some (.ok (hE (aj T 0 0))))(hl:(aj T 0 0).length≤1000) :
  aU G 8 RZ [aL c r 1 1 T F S,.str sd.str]=some (.ok (.lst ((b9 (!sd.up) (aj T 0 0)).map fD))):=by
 generalize aj T 0 0=h at *;have e0:∀{s1 s2 s3 s4 s5 s6 s7:Sl},ev G (.var 0) [.im (aL c r 1 1 T F S),s1,s2,s3,s4,s5,s6,s7]=some (bN c r (1:Nat) (1:Nat) (T.map sE) F S):=fun {_ _ _ _ _ _ _}=>rfl
 obtain⟨ρ',l,s3,s4,s5,s6,s7,rfl⟩:=fK (enc:=di) (bind:=bK [3,4,5] true) (body:=ex G aFh) (fun k ρ=>∃s3 s4 s5 s6 s7,ρ=[.im (aL c r 1 1 T F S),.im (.str sd.str),.mu (.lst ((b9 (!sd.up) (h.take k)).map fD)),s3,s4,s5,s6,s7]) (L:=h) (ρ:=[.im (aL c r 1 1 T F S),.im (.str sd.str),.mu (.lst []),.un,.un,.un,.un,.un]) ⟨_,_,_,_,_,rfl⟩ (by
  rintro k q hk ρ ⟨s3,s4,s5,s6,s7,rfl⟩;have hkl:=(q8.mp hk).1
  obtain⟨qc,qe,qn⟩:=q;have ll:(b9 (!sd.up) (h.take k)).length≤2000:=by rw[mZ,tm];lia
  refine⟨[.im (aL c r 1 1 T F S),.im (.str sd.str),.mu (.lst ((b9 (!sd.up) (h.take k)).map fD)),.im (.int qc),.im (.bl qe),.im (.bl qn),s6,s7],rfl,_,aJ (aR (d:=.int (if qe == qn then 2*qc else 2*qc+1)) ?_) (aJ (aR (d:=.int (if qe == qn then 2*qc+1 else 2*qc)) ?_) (aJ (jW (d:=fD (if qe == qn then 2*qc else 2*qc+1,qn)) (ds:=(b9 (!sd.up) (h.take k)).map fD) ?_ rfl ?_) (jW (d:=fD (if qe == qn then 2*qc+1 else 2*qc,if !sd.up then !qn else qn)) (ds:=(b9 (!sd.up) (h.take k)).map fD++[fD (if qe == qn then 2*qc else 2*qc+1,qn)]) ?_ rfl ?_))),.im (.int qc),.im (.bl qe),.im (.bl qn),.im (.int (if qe == qn then 2*qc else 2*qc+1)),.im (.int (if qe == qn then 2*qc+1 else 2*qc)),?_⟩
  ·cases hb:(qe == qn)<;>simp only[zz,yy,aA,aB,wK,hb,iG (i:=2) (by decide) (by decide),if_true,if_false,qr]
  ·simp only[List.set];cases hb:(qe == qn)<;>simp only[zz,yy,aA,aB,wK,hb,iG (i:=2) (by decide) (by decide),if_true,if_false,qr]
  ·simp only[List.set];simp only[zz,yy,aA,aB];rfl
  ·rw[ql];lia
  ·simp only[List.set];cases hb:sd.up<;>(have iv:=JV (sd:=sd);rw[hb]at iv;simp only[zz,yy,aA,aB,hlv,iv,cJ,so,Bool.not_false];rfl)
  ·rw[sk,ql];show _+1<_
   lia
  ·rw[vW hk,uk];simp only[List.set,qy];rfl)
 refine aP (ρ:=[.im (aL c r 1 1 T F S),.im (.str sd.str),.un,.un,.un,.un,.un,.un]) rfl (aJ (kS (ds:=[]) (by simp only[zz,yy,aA,aB])) (aJ ((dB (d:=hE h) ?_ eA).trans l) (jN ?_)))
 ·exact xZ rfl e0 (by simp only[zz,yy,aA,aB]) hh
 ·show some (Sl.mu (.lst ((b9 (!sd.up) (h.take h.length)).map fD)))=_
  rw[uy]
noncomputable def LU:IS:=(.seq (.set 6 (.bin .eq (.var 4) (.var 5))) (.seq (.set 7 (.var 5)) (.seq (.app 2 (.tup (.cons (.ite (.tr (.var 6)) (.bin .mul (.lit (.int 2)) (.var 3)) (.bin .add (.bin .mul (.lit (.int 2)) (.var 3)) (.lit (.int 1)))) (.cons (.var 7) .nil)))) (.seq (.iff (.bin .isin (.var 1) (.tup (.cons (.lit (.str "north")) (.cons (.lit (.str "south")) .nil)))) (.set 7 (.not (.tr (.var 5)))) .nop) (.app 2 (.tup (.cons (.ite (.tr (.var 6)) (.bin .add (.bin .mul (.lit (.int 2)) (.var 3)) (.lit (.int 1))) (.bin .mul (.lit (.int 2)) (.var 3))) (.cons (.var 7) .nil))))))))
noncomputable def sF:IS:=(.seq (.setm 2 (.lst .nil)) (.seq (.loop [3,4,5] true .seq (.var 0) LU) (.retm 2)))
theorem SF{sd:Side}{h:cR}(hl:h.length≤1000):aU G 8 sF [hE h,.str sd.str]=some (.ok (.lst ((b9 (!sd.up) h).map fD))):=by
 obtain⟨ρ',l,s3,s4,s5,s6,s7,rfl⟩:=fK (enc:=di) (bind:=bK [3,4,5] true) (body:=ex G LU) (fun k ρ=>∃s3 s4 s5 s6 s7,ρ=[.im (hE h),.im (.str sd.str),.mu (.lst ((b9 (!sd.up) (h.take k)).map fD)),s3,s4,s5,s6,s7]) (L:=h) (ρ:=[.im (hE h),.im (.str sd.str),.mu (.lst []),.un,.un,.un,.un,.un]) ⟨_,_,_,_,_,rfl⟩ (by
  rintro k q hk ρ ⟨s3,s4,s5,s6,s7,rfl⟩;have hkl:=(q8.mp hk).1
  obtain⟨qc,qe,qn⟩:=q;have ll:(b9 (!sd.up) (h.take k)).length≤2000:=by rw[mZ,tm];lia
  have es:∀m:List D,ex G (.iff (.bin .isin (.var 1) (.tup (.cons (.lit (.str "north")) (.cons (.lit (.str "south")) .nil)))) (.set 7 (.not (.tr (.var 5)))) .nop) [.im (hE h),.im (.str sd.str),.mu (.lst m),.im (.int qc),.im (.bl qe),.im (.bl qn),.im (.bl (qe == qn)),.im (.bl qn)]=some (.nx [.im (hE h),.im (.str sd.str),.mu (.lst m),.im (.int qc),.im (.bl qe),.im (.bl qn),.im (.bl (qe == qn)),.im (.bl (if !sd.up then !qn else qn))]):=fun m=>by
   have et:ev G (.bin .isin (.var 1) (.tup (.cons (.lit (.str "north")) (.cons (.lit (.str "south")) .nil)))) (view [.im (hE h),.im (.str sd.str),.mu (.lst m),.im (.int qc),.im (.bl qe),.im (.bl qn),.im (.bl (qe == qn)),.im (.bl qn)])=some (.bl (!sd.up)):=by
    simp only[bX,cU,aV];simp only[zz,yy,aA,aB];exact JV
   cases hb:sd.up with
   |true=>rw[hb]at et;exact cX et aX
   |false =>
    rw[hb]at et;refine(jV et (aR (d:=.bl (!qn)) ?_)).trans rfl;simp only[zz,yy,aA,aB,cJ]
  refine⟨[.im (hE h),.im (.str sd.str),.mu (.lst ((b9 (!sd.up) (h.take k)).map fD)),.im (.int qc),.im (.bl qe),.im (.bl qn),s6,s7],rfl,_,aJ (aR (d:=.bl (qe == qn)) ?_) (aJ (aR (d:=.bl qn) ?_) (aJ (jW (d:=fD (if qe == qn then 2*qc else 2*qc+1,qn)) (ds:=(b9 (!sd.up) (h.take k)).map fD) ?_ rfl ?_) (aJ (es _) (jW (d:=fD (if qe == qn then 2*qc+1 else 2*qc,if !sd.up then !qn else qn)) (ds:=(b9 (!sd.up) (h.take k)).map fD++[fD (if qe == qn then 2*qc else 2*qc+1,qn)]) ?_ rfl ?_)))),.im (.int qc),.im (.bl qe),.im (.bl qn),.im (.bl (qe == qn)),.im (.bl (if !sd.up then !qn else qn)),?_⟩
  ·simp only[zz,yy,aA,aB,wK]
  ·simp only[List.set];simp only[zz,yy,aA,aB]
  ·simp only[List.set];cases hb:(qe == qn)<;>(simp only[zz,yy,aA,aB,cJ,iG (i:=2) (by decide) (by decide),if_true,if_false,qr];rfl)
  ·rw[ql];lia
  ·cases hb:(qe == qn)<;>(simp only[zz,yy,aA,aB,cJ,iG (i:=2) (by decide) (by decide),if_true,if_false,qr];rfl)
  ·rw[sk,ql];show _+1<_
   lia
  ·rw[vW hk,uk];simp only[List.set,qy];rfl)
 refine aP (ρ:=[.im (hE h),.im (.str sd.str),.un,.un,.un,.un,.un,.un]) rfl (aJ (kS (ds:=[]) (by simp only[zz,yy,aA,aB])) (aJ ((dB (d:=hE h) ?_ eA).trans l) (jN ?_)))
 ·simp only[List.set];simp only[zz,yy]
 ·show some (Sl.mu (.lst ((b9 (!sd.up) (h.take h.length)).map fD)))=_
  rw[uy]
noncomputable def qH:IS:=(.seq (.iff (.or (.bin .gt (.fld (.var 0) "wide") (.lit (.int 1))) (.bin .gt (.fld (.var 0) "high") (.lit (.int 1)))) (.rse "Ajar") .nop) (.iff (.inC true "SPINE_LINES" (.var 1)) (.rse "NoPlace") .nop))
noncomputable def ko:List (Str×D):=[("west",.tup [.bl false,.int 0]),("east",.tup [.bl false,.int 1]),("north",.tup [.bl true,.int 0]),("south",.tup [.bl true,.int 1])]
theorem KQ{neg:Bool}{x:Str}{a:IE}{ρ:List Sl}{s:Str}{kvs:List (Str×D)}(e:ev G a ρ=some (.str s))(hk:G.dk x=some kvs):ev G (.inC neg x a) ρ=some (.bl (neg != (kvs.lookup s).isSome)):=by
 show (ev G a ρ).bind _=_
 rw[e];show (G.dk x).map _=_
 rw[hk];rfl
theorem WI(hf:G.fl "Pile" = cw)(hk:G.dk "SPINE_LINES" = some ko){sd:Side}{c r:Nat}{T:Table}{F S:List D}:aU G 2 qH [aL c r 1 1 T F S,.str sd.str]=some (.ok .non):=by
 have e0:ev G (.var 0) [.im (aL c r 1 1 T F S),.im (.str sd.str)]=some (bN c r (1:Nat) (1:Nat) (T.map sE) F S):=rfl
 refine zQ (ρ:=[.im (aL c r 1 1 T F S),.im (.str sd.str)]) rfl (aJ (cX ?_ aX) (cX ?_ aX))
 ·simp only[bX,cU,aV];refine cC (x:=false) (y:=false) ?_ fun _=>?_
  ·rw[bT,hJ hf e0];simp only[zz,yy,aA,aB];rfl
  ·rw[bT,hU hf e0];simp only[zz,yy,aA,aB];rfl
 ·simp only[bX,cU,aV];rw[KQ (s:=sd.str) rfl hk];cases sd<;>rfl
theorem DO(hf:G.fl "Pile" = cw)(hk:G.dk "SPINE_LINES" = some ko)(hx:G.xn "NoPlace" = true){x:Str}(hn:ko.lookup x=none){c r:Nat}{T:Table}{F S:List D}:aU G 2 qH [aL c r 1 1 T F S,.str x]=some (.er "NoPlace"):=by
 have e0:ev G (.var 0) [.im (aL c r 1 1 T F S),.im (.str x)]=some (bN c r (1:Nat) (1:Nat) (T.map sE) F S):=rfl
 refine rM (ρ:=[.im (aL c r 1 1 T F S),.im (.str x)]) rfl (aJ (cX ?_ aX) (jV ?_ (KL hx)))
 ·simp only[bX,cU,aV];refine cC (x:=false) (y:=false) ?_ fun _=>?_
  ·rw[bT,hJ hf e0];simp only[zz,yy,aA,aB];rfl
  ·rw[bT,hU hf e0];simp only[zz,yy,aA,aB];rfl
 ·simp only[bX,cU,aV];rw[KQ (s:=x) rfl hk,hn];rfl
theorem GH(hf:G.fl "Pile" = cw)(hx:G.xn "Ajar" = true){d:D}{c r w h:Nat}(hw:1<w*h)(hw1:1≤w)(hh1:1≤h){T:Table}{F S:List D}:aU G 2 qH [aL c r w h T F S,d]=some (.er "Ajar"):=by
 have e0:ev G (.var 0) [.im (aL c r w h T F S),.im d]=some (bN c r w h (T.map sE) F S):=rfl
 refine rM (ρ:=[.im (aL c r w h T F S),.im d]) rfl (gU (jV ?_ (KL hx)) fun _ z=>by cases z)
 simp only[bX,cU,aV];have e1:ev G (.bin .gt (.fld (.var 0) "wide") (.lit (.int 1))) [.im (aL c r w h T F S),.im d]=some (.bl (decide ((1:Int)<w))):=by
  rw[bT,hJ hf e0];simp only[zz,yy,aA,aB]
 have e2:ev G (.bin .gt (.fld (.var 0) "high") (.lit (.int 1))) [.im (aL c r w h T F S),.im d]=some (.bl (decide ((1:Int)<h))):=by
  rw[bT,hU hf e0];simp only[zz,yy,aA,aB]
 rw[cC e1 fun _=>e2]
 refine congrArg (fun b=>some (D.bl b)) ?_
 rw[or_eq_true,rg,rg]
 by_cases z:1<w
 ·exact .inl (by lia)
 ·refine .inr ?_;have:w=1:=by lia
  rw[this,Nat.one_mul]at hw;lia
noncomputable def fQ:IS:=(.seq (.set 1 (.bin .mod (.var 0) (.lit (.int 8)))) (.seq (.set 2 (.bin .fdiv (.var 0) (.lit (.int 8)))) (.seq (.iff (.bin .lt (.var 1) (.lit (.int 4))) (.ret false (.tup (.cons (.bin .add (.lit (.int 1)) (.bin .mod (.var 2) (.lit (.int 5)))) (.cons (.bin .add (.lit (.int 1)) (.bin .mod (.bin .fdiv (.var 2) (.lit (.int 5))) (.lit (.int 4)))) .nil)))) .nop) (.seq (.iff (.bin .eq (.var 1) (.lit (.int 4))) (.ret false (.tup (.cons (.bin .add (.lit (.int 1)) (.bin .mod (.var 2) (.lit (.int 24)))) (.cons (.lit (.int 1)) .nil)))) .nop) (.seq (.iff (.bin .eq (.var 1) (.lit (.int 5))) (.ret false (.tup (.cons (.bin .add (.lit (.int 1)) (.bin .mod (.var 2) (.lit (.int 2)))) (.cons (.bin .add (.lit (.int 1)) (.bin .mod (.bin .fdiv (.var 2) (.lit (.int 2))) (.lit (.int 12)))) .nil)))) .nop) (.seq (.iff (.bin .eq (.var 1) (.lit (.int 6))) (.ret false (.tup (.cons (.bin .add (.lit (.int 1)) (.bin .mod (.var 2) (.lit (.int 8)))) (.cons (.bin .add (.lit (.int 1)) (.bin .mod (.bin .fdiv (.var 2) (.lit (.int 8))) (.lit (.int 8)))) .nil)))) .nop) (.ret false (.ix (.lst (.cons (.tup (.cons (.lit (.int 8)) (.cons (.lit (.int 8)) .nil))) (.cons (.tup (.cons (.lit (.int 16)) (.cons (.lit (.int 4)) .nil))) (.cons (.tup (.cons (.lit (.int 3)) (.cons (.lit (.int 21)) .nil))) (.cons (.tup (.cons (.lit (.int 64)) (.cons (.lit (.int 1)) .nil))) .nil))))) (.bin .mod (.var 2) (.lit (.int 4)))))))))))
theorem DS{cell:Int}:∃c r:Nat,1≤c∧1≤r∧c*r≤64∧aU G 3 fQ [.int cell]=some (.ok (.tup [.int c,.int r])):=by
 have e1:ev G (.bin .mod (.var 0) (.lit (.int 8))) [.im (.int cell),.un,.un]=some (.int (cell % 8)):=by simp only[zz,yy,aA,aB,md (show (0:Int)<8 by decide)]
 have e2:ev G (.bin .fdiv (.var 0) (.lit (.int 8))) [.im (.int cell),.im (.int (cell % 8)),.un]=some (.int (cell / 8)):=by simp only[zz,yy,aA,aB,dv (show (0:Int)<8 by decide) (show (8:Int)<1000000 by decide)]
 have t1:ev G (.bin .lt (.var 1) (.lit (.int 4))) (view [.im (.int cell),.im (.int (cell % 8)),.im (.int (cell / 8))])=some (.bl (decide (cell % 8<4))):=by simp only[zz,yy,aA,aB]
 have tq:∀n:Int,ev G (.bin .eq (.var 1) (.lit (.int n))) (view [.im (.int cell),.im (.int (cell % 8)),.im (.int (cell / 8))])=some (.bl (cell % 8 == n)):=fun n=>by simp only[zz,yy,aA,aB]
 have start:∀{o:D},(∃x,ex G x [.im (.int cell),.im (.int (cell % 8)),.im (.int (cell / 8))]=some (.rt o)∧fQ=(.seq (.set 1 (.bin .mod (.var 0) (.lit (.int 8)))) (.seq (.set 2 (.bin .fdiv (.var 0) (.lit (.int 8)))) x)))→aU G 3 fQ [.int cell]=some (.ok o):=by
  rintro o ⟨x,hx,e⟩;rw[e];exact aP (ρ:=[.im (.int cell),.un,.un]) rfl (aJ (aR e1) (aJ (aR e2) hx))
 have nr:∀(d:D) ρ',Out.rt d≠.nx ρ':=fun _ _ z=>by cases z
 have f:∀(i:Int) (n:Nat),0<n→∃k:Nat,k<n∧i % (n:Int)=k:=rT
 cases h1:decide (cell % 8<4) with
 |true =>
  obtain⟨a,ha,ea⟩:=f (cell / 8) 5 (by decide)
  obtain⟨b,hb,eb⟩:=f (cell / 8 / 5) 4 (by decide)
  have ea:cell / 8 % 5=a:=ea
  have eb:cell / 8 / 5 % 4=b:=eb
  refine⟨1+a,1+b,by lia,by lia,?_,start ⟨_,gU (jV (t1.trans (by rw[h1])) (aZ ?_)) (nr _),rfl⟩⟩
  ·have:(1+a)*(1+b)≤5*4:=Nat.mul_le_mul (by lia) (by lia)
   lia
  ·simp only[zz,yy,aA,aB,md (show (0:Int)<5 by decide),dv (show (0:Int)<5 by decide) (show (5:Int)<1000000 by decide),md (show (0:Int)<4 by decide),ea,eb]
   push_cast
   rfl
 |false =>
  have n1:=cX (a:=.ret false (.tup (.cons (.bin .add (.lit (.int 1)) (.bin .mod (.var 2) (.lit (.int 5)))) (.cons (.bin .add (.lit (.int 1)) (.bin .mod (.bin .fdiv (.var 2) (.lit (.int 5))) (.lit (.int 4)))) .nil)))) (t1.trans (by rw[h1])) (aX (G:=G))
  cases h2:(cell % 8 == 4) with
  |true =>
   obtain⟨a,ha,ea⟩:=f (cell / 8) 24 (by decide)
   have ea:cell / 8 % 24=a:=ea
   refine⟨1+a,1,by lia,by lia,by lia,start ⟨_,aJ n1 (gU (jV ((tq 4).trans (by rw[h2])) (aZ ?_)) (nr _)),rfl⟩⟩
   simp only[zz,yy,aA,aB,md (show (0:Int)<24 by decide),ea]
   push_cast
   rfl
  |false =>
   cases h3:(cell % 8 == 5) with
   |true =>
    obtain⟨a,ha,ea⟩:=f (cell / 8) 2 (by decide)
    obtain⟨b,hb,eb⟩:=f (cell / 8 / 2) 12 (by decide)
    have ea:cell / 8 % 2=a:=ea
    have eb:cell / 8 / 2 % 12=b:=eb
    refine⟨1+a,1+b,by lia,by lia,?_,start ⟨_,aJ n1 (aJ (cX ((tq 4).trans (by rw[h2])) aX) (gU (jV ((tq 5).trans (by rw[h3])) (aZ ?_)) (nr _))),rfl⟩⟩
    ·have:(1+a)*(1+b)≤2*12:=Nat.mul_le_mul (by lia) (by lia)
     lia
    ·simp only[zz,yy,aA,aB,md (show (0:Int)<2 by decide),dv (show (0:Int)<2 by decide) (show (2:Int)<1000000 by decide),md (show (0:Int)<12 by decide),ea,eb]
     push_cast
     rfl
   |false =>
    cases h4:(cell % 8 == 6) with
    |true =>
     obtain⟨a,ha,ea⟩:=f (cell / 8) 8 (by decide)
     obtain⟨b,hb,eb⟩:=f (cell / 8 / 8) 8 (by decide)
     have ea:cell / 8 % 8=a:=ea
     have eb:cell / 8 / 8 % 8=b:=eb
     refine⟨1+a,1+b,by lia,by lia,?_,start ⟨_,aJ n1 (aJ (cX ((tq 4).trans (by rw[h2])) aX) (aJ (cX ((tq 5).trans (by rw[h3])) aX) (gU (jV ((tq 6).trans (by rw[h4])) (aZ ?_)) (nr _)))),rfl⟩⟩
     ·have:(1+a)*(1+b)≤8*8:=Nat.mul_le_mul (by lia) (by lia)
      lia
     ·simp only[zz,yy,aA,aB,md (show (0:Int)<8 by decide),dv (show (0:Int)<8 by decide) (show (8:Int)<1000000 by decide),ea,eb]
      push_cast
      rfl
    |false =>
     obtain⟨a4,b4,f4⟩:=f (cell / 8) 4 (by decide)
     have f4:cell / 8 % 4=a4:=f4
     have key:∀(c r:Nat),1≤c→1≤r→c*r≤64→([.tup [.int 8,.int 8],.tup [.int 16,.int 4],.tup [.int 3,.int 21],.tup [.int 64,.int 1]]:List D)[a4]?=some (.tup [.int c,.int r])→∃c r:Nat,1≤c∧1≤r∧c*r≤64∧aU G 3 fQ [.int cell]=some (.ok (.tup [.int c,.int r])):=by
      intro c r hc hr bb he;refine⟨c,r,hc,hr,bb,start ⟨_,aJ n1 (aJ (cX ((tq 4).trans (by rw[h2])) aX) (aJ (cX ((tq 5).trans (by rw[h3])) aX) (aJ (cX ((tq 6).trans (by rw[h4])) aX) (aZ ?_)))),rfl⟩⟩
      simp only[zz,yy,aA,aB,md (show (0:Int)<4 by decide),f4]
      exact eM he
     have:a4=0∨a4=1∨a4=2∨a4=3:=by lia
     rcases this with rfl|rfl|rfl|rfl
     ·exact key 8 8 (by decide) (by decide) (by decide) rfl
     ·exact key 16 4 (by decide) (by decide) (by decide) rfl
     ·exact key 3 21 (by decide) (by decide) (by decide) rfl
     ·exact key 64 1 (by decide) (by decide) (by decide) rfl
theorem aEi{a:Bool}:ah .ne (.bl a) (.bl a)=some (.bl false):=by cases a<;>rfl
theorem ne_int{i:Int}:ah .ne (.int i) (.int i)=some (.bl false):=by rw[aDE,beq_self_eq_true];rfl
noncomputable def pS:Nat→Side
 | 0=>.west
 | 1=>.east
 | 2=>.north
 |_=>.south
theorem LW{k:Nat}(h:k<4):atI ([.str "west",.str "east",.str "north",.str "south"]:List D) (k:Int)=some (.str (pS k).str):=by
 have:k=0∨k=1∨k=2∨k=3:=by lia
 rcases this with rfl|rfl|rfl|rfl<;>rfl
theorem ne_str{a b:Str}(h1:okS a=true)(h2:okS b=true)(h:(a == b)=true):ah .ne (.str a) (.str b)=some (.bl false):=by
 show (if plain (.str a)&&plain (.str b) then some (D.bl (!b6 (.str a) (.str b))) else none)=_
 rw[if_pos (by rw[qv];exact⟨h1,h2⟩),b6,h];rfl
end
end Pg
namespace K10
open Pg
section
variable {G:GS}
theorem p40:ah .pow (.int 10) (.int 40)=some (.int (10 ^ 40)):=by
 simp only[ah,RC];rw[if_pos (by decide)]
 rfl
theorem p3:ah .pow (.int 10) (.int 3)=some (.int (10 ^ 3)):=by
 simp only[ah,RC];rw[if_pos (by decide)]
 rfl
noncomputable def aFi:IS:=(.seq (.set 4 (.bin .add (.call "_law_cell_at" (.cons (.var 0) (.cons (.bin .add (.lit (.int 15)) (.bin .mod (.var 3) (.lit (.int 30)))) .nil))) (.bin .mul (.lit (.int 7919)) (.var 3)))) (.app 2 (.tup (.cons (.bin .sub (.bin .mod (.bin .fdiv (.var 4) (.lit (.int 2))) (.bin .pow (.lit (.int 10)) (.lit (.int 40)))) (.bin .pow (.lit (.int 10)) (.lit (.int 3)))) (.cons (.bin .eq (.bin .mod (.var 4) (.lit (.int 2))) (.lit (.int 1))) .nil)))))
noncomputable def kL:IS:=(.seq (.setm 2 (.lst .nil)) (.seq (.loop [3] false .rng (.tup (.cons (.var 1) .nil)) aFi) (.retm 2)))
noncomputable def pr1(ns:List Int)(k:Nat):Int×Bool:=((bg ns (15+k % 30)+7919*(k:Int)) / 2 % 10 ^ 40-10 ^ 3,(bg ns (15+k % 30)+7919*(k:Int)) % 2 == 1)
theorem DY{ns:List Int}(kf:∀k:Nat,G.fn "_law_cell_at" [.frz (ns.map .int),.int k]=some (.ok (.int (bg ns k)))){n:Nat}(hn:n≤1000):aU G 5 kL [.frz (ns.map .int),.int n]=some (.ok (.lst (((List.range n).map (pr1 ns)).map fD))):=by
 obtain⟨ρ',l,s3,s4,rfl⟩:=fK (enc:=fun k:Nat=>D.int k) (bind:=bK [3] false) (body:=ex G aFi) (fun k ρ=>∃s3 s4,ρ=[.im (.frz (ns.map .int)),.im (.int n),.mu (.lst (((List.range k).map (pr1 ns)).map fD)),s3,s4]) (L:=List.range n) (ρ:=[.im (.frz (ns.map .int)),.im (.int n),.mu (.lst []),.un,.un]) ⟨_,_,rfl⟩ (by
  rintro k a hk ρ ⟨s3,s4,rfl⟩;have h1:=(q8.mp hk).1
  rw[rh]at h1;obtain rfl:a=k:=by rw[ui h1]at hk;exact(qw hk).symm
  have ec:G.fn "_law_cell_at" [.frz (ns.map .int),.int (15+(a:Int) % 30)]=some (.ok (.int (bg ns (15+a % 30)))):=kf (15+a % 30)
  refine⟨[.im (.frz (ns.map .int)),.im (.int n),.mu (.lst (((List.range a).map (pr1 ns)).map fD)),.im (.int (a:Nat)),s4],rfl,_,aJ (aR (d:=.int (bg ns (15+a % 30)+7919*(a:Int))) ?_) (jW (d:=fD (pr1 ns a)) (ds:=((List.range a).map (pr1 ns)).map fD) ?_ rfl ?_),.im (.int (a:Nat)),.im (.int (bg ns (15+a % 30)+7919*(a:Int))),?_⟩
  ·simp only[zz,yy,aA,aB,gO (i:=(a:Int)) (j:=30) (by decide),ec,iG (i:=7919) (by decide) (by decide)]
  ·simp only[List.set];simp only[zz,yy,aA,aB,lZ (j:=2) (by decide) (by decide),p40,p3,gO (j:=10 ^ 40) (by decide),gO (j:=2) (by decide)]
   rfl
  ·rw[ql,ql,rh];lia
  ·rw[List.range_succ,uk,uk];rfl)
 rw[rh]at *;refine aP (ρ:=[.im (.frz (ns.map .int)),.im (.int n),.un,.un,.un]) rfl (aJ (kS (ds:=[]) (by simp only[zz,yy,aA,aB])) (aJ ((dB (d:=.tup [.int (n:Int)]) ?_ (eR (by lia))).trans l) (jN rfl)))
 simp only[List.set];simp only[zz,yy,aA,aB]
noncomputable def pgD(P:List (Int×Bool))(f:Int×Bool):D:=.tup [.int (P.getD f.1.toNat (0,false)).1,.bl ((P.getD f.1.toNat (0,false)).2 == f.2)]
def Fit(P fs:List (Int×Bool)):Prop:=∀f∈fs,0≤f.1∧f.1.toNat<P.length
theorem aFL{P:List (Int×Bool)}{i:Int}(h0:0≤i)(h1:i.toNat<P.length):atI (P.map fD) i=some (fD (P.getD i.toNat (0,false))):=by
 have e:(i.toNat:Int)=i:=Int.toNat_of_nonneg h0
 have:=eM (xs:=P.map fD) (k:=i.toNat) (x:=fD (P.getD i.toNat (0,false))) (by rw[qk,qj h1,q9,qj h1];rfl)
 rwa [e]at this
noncomputable def kM:IS:=(.seq (.drop (.call "refuse_unbound" (.cons (.var 0) (.cons (.var 1) .nil)))) (.ret true (.comp 4 [(3,2)] [1,2] true .seq (.call "upright_pages" (.cons (.var 0) (.cons (.var 1) .nil))) (.lit (.bl true)) (.tup (.cons (.ix (.ix (.var 3) (.var 1)) (.lit (.int 0))) (.cons (.bin .eq (.ix (.ix (.var 3) (.var 1)) (.lit (.int 1))) (.var 2)) .nil))))))
theorem ID{p:D}{x:Str}{P fs:List (Int×Bool)}(hu:G.fn "refuse_unbound" [p,.str x]=some (.ok .non))(oj:G.fn "upright_pages" [p,.str x]=some (.ok (.lst (fs.map fD))))(hF:Fit P fs):aU G 3 kM [p,.str x,.lst (P.map fD)]=some (.ok (.lst (fs.map (pgD P)))):=by
 refine aP (ρ:=[.im p,.im (.str x),.im (.lst (P.map fD))]) rfl (aJ (CB (d:=.non) ?_) (aZ ?_))
 ·simp only[bX,cU,aV];simp only[zz,yy,aA,aB,hu]
 ·refine dG (L:=fs) fD (pgD P) (s:=.lst (fs.map fD)) ?_ eA fun f hf=>?_
  ·simp only[zz,yy,aA,aB,oj]
  ·obtain⟨f1,f2⟩:=f;obtain⟨h0,h1⟩:=hF _ hf;refine⟨[.un,.im (.int f1),.im (.bl f2),.im (.lst (P.map fD))],rfl,by simp only[zz,yy],?_⟩
   simp only[zz,yy,aA,aB,aFL h0 h1];unfold fD;simp only[zz,yy,aA,aB,mS.1,mS.2,wK];rfl
theorem vG{p q:D}{x:Str}{k:Str}(hu:G.fn "refuse_unbound" [p,.str x]=some (.er k))(hx:G.xn k=true):aU G 3 kM [p,.str x,q]=some (.er k):=by
 refine rM (ρ:=[.im p,.im (.str x),.im q]) rfl (gU (KN ?_ hu hx) fun _ z=>by cases z)
 simp only[bX,cU,aV];simp only[zz,yy,aA,aB]
noncomputable def AQ:IS:=(.seq (.tryx (.call "pages" (.cons (.var 0) (.cons (.var 1) (.cons (.var 2) .nil)))) "LeafError" (some 3) (.word "_law_word_of")) (.ret false (.lit (.str "done"))))
theorem GX{p q:D}{x:Str}{k:Str}{y:Str}(hp:G.fn "pages" [p,.str x,q]=some (.er k))(h1:G.xn k=true)(h2:G.xn "LeafError" = true)(h3:G.sub k "LeafError" = true)(h4:G.wd "_law_word_of" k=some y):aU G 4 AQ [p,.str x,q]=some (.ok (.str y)):=by
 refine aP (ρ:=[.im p,.im (.str x),.im q,.un]) rfl (gU (o:=.rt (.str y)) ?_ (fun _ z=>by cases z))
 have e:gm G (.call "pages" (.cons (.var 0) (.cons (.var 1) (.cons (.var 2) .nil)))) (view [.im p,.im (.str x),.im q,.un])=some (.er k):=by
  simp only[gm,bX,cU,aV];simp only[zz,yy,aA,aB,hp]
 rw[SU e];simp only[h1,h2,h3,gy,h4,Bool.and_self,if_true,ud]
noncomputable def LR:IS:=(.seq (.set 4 (.ix (.var 0) (.var 3))) (.seq (.sett [5,6] (.ix (.var 1) (.ix (.ix (.var 2) (.var 3)) (.lit (.int 0))))) (.seq (.iff (.or (.not (.tr (.isi (.var 4) "tuple"))) (.or (.bin .ne (.bcall .len (.cons (.var 4) .nil)) (.lit (.int 2))) (.not (.tr (.call "_law_whole" (.cons (.ix (.var 4) (.lit (.int 0))) .nil)))))) (.ret false (.lit (.bl false))) .nop) (.iff (.or (.not (.tr (.isi (.ix (.var 4) (.lit (.int 1))) "bool"))) (.or (.bin .ne (.ix (.var 4) (.lit (.int 0))) (.var 5)) (.bin .ne (.ix (.var 4) (.lit (.int 1))) (.bin .eq (.var 6) (.ix (.ix (.var 2) (.var 3)) (.lit (.int 1))))))) (.ret false (.lit (.bl false))) .nop))))
noncomputable def rZ:IS:=(.seq (.iff (.or (.not (.tr (.isi (.var 0) "list"))) (.bin .ne (.bcall .len (.cons (.var 0) .nil)) (.bcall .len (.cons (.var 2) .nil)))) (.ret false (.lit (.bl false))) .nop) (.seq (.loop [3] false .rng (.tup (.cons (.bcall .len (.cons (.var 2) .nil)) .nil)) LR) (.ret false (.lit (.bl true)))))
theorem OO(hw:∀i:Int,G.fn "_law_whole" [.int i]=some (.ok (.bl true))){P fs:List (Int×Bool)}(hF:Fit P fs)(hl:fs.length≤1000):aU G 7 rZ [.lst (fs.map (pgD P)),.lst (P.map fD),.lst (fs.map fD)]=some (.ok (.bl true)):=by
 obtain⟨ρ',h1,s3,s4,s5,s6,rfl⟩:=lR (bind:=bK [3] false) (body:=ex G LR) (fun ρ=>∃s3 s4 s5 s6,ρ=[.im (.lst (fs.map (pgD P))),.im (.lst (P.map fD)),.im (.lst (fs.map fD)),s3,s4,s5,s6]) (ds:=(List.range fs.length).map fun (k:Nat)=>D.int k) (ρ:=[.im (.lst (fs.map (pgD P))),.im (.lst (P.map fD)),.im (.lst (fs.map fD)),.un,.un,.un,.un]) ⟨_,_,_,_,rfl⟩ (by
  rintro d hd ρ ⟨s3,s4,s5,s6,rfl⟩;obtain⟨k,hk,rfl⟩:=t8.mp hd;have hk:=uv.mp hk
  obtain⟨f,hf⟩:∃f,fs[k]?=some f:=⟨_,qj hk⟩;obtain⟨h0,h1⟩:=hF f (qh hf);obtain⟨m,hm⟩:∃m,m=P.getD f.1.toNat (0,false):=⟨_,rfl⟩;have e1:atI (fs.map (pgD P)) (k:Int)=some (pgD P f):=eM (by rw[qk,hf];rfl)
  have e2:atI (fs.map fD) (k:Int)=some (fD f):=eM (by rw[qk,hf];rfl)
  have e3:atI (P.map fD) f.1=some (fD m):=by rw[hm];exact aFL h0 h1
  have e4:pgD P f=.tup [.int m.1,.bl (m.2 == f.2)]:=by rw[hm];rfl
  rw[e4]at e1;refine⟨[.im (.lst (fs.map (pgD P))),.im (.lst (P.map fD)),.im (.lst (fs.map fD)),.im (.int (k:Nat)),s4,s5,s6],rfl,[.im (.lst (fs.map (pgD P))),.im (.lst (P.map fD)),.im (.lst (fs.map fD)),.im (.int (k:Nat)),.im (.tup [.int m.1,.bl (m.2 == f.2)]),.im (.int m.1),.im (.bl m.2)],aJ (aR (d:=.tup [.int m.1,.bl (m.2 == f.2)]) ?_) (aJ (ρ':=[.im (.lst (fs.map (pgD P))),.im (.lst (P.map fD)),.im (.lst (fs.map fD)),.im (.int (k:Nat)),.im (.tup [.int m.1,.bl (m.2 == f.2)]),.im (.int m.1),.im (.bl m.2)]) (wF.trans ?_) (aJ (cX ?_ aX) (cX ?_ aX))),_,_,_,_,rfl⟩
  ·simp only[zz,yy,aA,aB,e1]
  ·simp only[List.set];simp only[zz,yy,aA,aB,e2];unfold fD;simp only[zz,yy,aA,aB,mS.1];unfold fD at e3;simp only[e3,aA];rfl
  ·simp only[bX,cU,aV];refine cC (x:=false) (y:=false) (by simp only[zz,yy,aA,aB,AL,cJ,so]) fun _=>cC (x:=false) (y:=false) ?_ fun _=>?_
   ·simp only[zz,yy,aA,aB];rfl
   ·simp only[zz,yy,aA,aB,mS.1,hw,cJ,so]
  ·simp only[bX,cU,aV];refine cC (x:=false) (y:=false) (by simp only[zz,yy,aA,aB,mS.2,iR,cJ,so]) fun _=>cC (x:=false) (y:=false) (by simp only[zz,yy,aA,aB,mS.1,beq_self_eq_true,so]) fun _=>?_
   simp only[zz,yy,aA,aB,mS.2,e2];unfold fD;simp only[zz,yy,aA,aB,mS.2,wK,aEi])
 refine aP (ρ:=[.im (.lst (fs.map (pgD P))),.im (.lst (P.map fD)),.im (.lst (fs.map fD)),.un,.un,.un,.un]) rfl (aJ (cX ?_ aX) (aJ ((dB (d:=.tup [.int ((fs.length:Nat):Int)]) ?_ (eR (by lia))).trans h1) (aZ (by simp only[zz,yy]))))
 ·simp only[bX,cU,aV];refine cC (x:=false) (y:=false) (by simp only[zz,yy,aA,aB,AM,cJ,so]) fun _=>?_
  simp only[zz,yy,aA,aB,ql];exact ne_int
 ·simp only[zz,yy,aA,aB,ql]
noncomputable def b_w:IS:=(.iff (.and (.bin .gt (.bin .mul (.var 1) (.var 2)) (.lit (.int 1))) (.bin .ne (.call "_law_refused" (.cons (.call "laid" (.cons (.var 1) (.cons (.var 2) .nil))) (.cons (.var 6) (.cons (.bcall .list (.cons (.var 4) .nil)) .nil)))) (.lit (.str "ajar")))) (.ret false (.lit (.bl false))) .nop)
noncomputable def b_k:IS:=(.seq (.set 10 (.ix (.var 3) (.bin .mod (.bin .add (.call "_law_cell_at" (.cons (.var 0) (.cons (.lit (.int 1)) .nil))) (.bin .mul (.var 9) (.bin .add (.lit (.int 1)) (.bin .mod (.call "_law_cell_at" (.cons (.var 0) (.cons (.lit (.int 2)) .nil))) (.lit (.int 3)))))) (.lit (.int 4))))) (.seq (.set 11 (.bcall .list (.cons (.var 4) .nil))) (.seq (.iff (.not (.tr (.call "_law_read" (.cons (.call "pages" (.cons (.var 7) (.cons (.var 10) (.cons (.var 11) .nil)))) (.cons (.var 4) (.cons (.call "_law_faces" (.cons (.var 8) (.cons (.var 10) .nil))) .nil)))))) (.ret false (.lit (.bl false))) .nop) (.seq (.iff (.bin .ne (.var 11) (.var 4)) (.ret false (.lit (.bl false))) .nop) (.set 7 (.call "cut" (.cons (.var 7) (.cons (.bin .eq (.bin .mod (.bin .fdiv (.call "_law_cell_at" (.cons (.var 0) (.cons (.lit (.int 2)) .nil))) (.lit (.int 3))) (.lit (.int 2))) (.lit (.int 1))) (.cons (.bin .mod (.bin .fdiv (.call "_law_cell_at" (.cons (.var 0) (.cons (.lit (.int 2)) .nil))) (.lit (.int 6))) (.lit (.int 2))) .nil)))))))))
noncomputable def AR:IS:=(.seq (.sett [1,2] (.call "_law_sheet_by" (.cons (.call "_law_cell_at" (.cons (.var 0) (.cons (.lit (.int 0)) .nil))) .nil))) (.seq (.set 3 (.lst (.cons (.lit (.str "west")) (.cons (.lit (.str "east")) (.cons (.lit (.str "north")) (.cons (.lit (.str "south")) .nil)))))) (.seq (.set 4 (.call "_law_prints" (.cons (.var 0) (.cons (.bin .mul (.bin .mul (.lit (.int 2)) (.var 1)) (.var 2)) .nil)))) (.seq (.set 5 (.ix (.lst (.cons (.lit (.str "up")) (.cons (.lit (.str "")) (.cons (.lit (.str "East")) .nil)))) (.bin .mod (.call "_law_cell_at" (.cons (.var 0) (.cons (.lit (.int 2)) .nil))) (.lit (.int 3))))) (.seq (.loop [6] false .seq (.lst (.cons (.lit (.str "west")) (.cons (.var 5) .nil))) b_w) (.seq (.set 7 (.call "_law_shut" (.cons (.var 1) (.cons (.var 2) (.cons (.var 0) .nil))))) (.seq (.set 8 (.call "_law_leaves" (.cons (.var 7) (.cons (.bin .mul (.var 1) (.var 2)) .nil)))) (.seq (.iff (.or (.bin .is (.var 8) (.lit .non)) (.bin .ne (.call "_law_refused" (.cons (.var 7) (.cons (.var 5) (.cons (.bcall .list (.cons (.var 4) .nil)) .nil)))) (.lit (.str "place")))) (.ret false (.lit (.bl false))) .nop) (.seq (.loop [9] false .rng (.tup (.cons (.lit (.int 2)) .nil)) b_k) (.ret false (.lit (.bl true))))))))))))
theorem aAK{k:Nat}(h:k<3):∃x:Str,ko.lookup x=none∧atI ([.str "up",.str "",.str "East"]:List D) (k:Int)=some (.str x):=by
 have:k=0∨k=1∨k=2:=by lia
 rcases this with rfl|rfl|rfl
 ·exact⟨"up",by decide +kernel,rfl⟩
 ·exact⟨"",by decide +kernel,rfl⟩
 ·exact⟨"East",by decide +kernel,rfl⟩
theorem HS{l:List (Int×Bool)}:plain (.lst (l.map fD))=true:=pW fun _=>rfl
theorem aAD{l:List (Int×Bool)}:b6 (.lst (l.map fD)) (.lst (l.map fD))=true:=by
 rw[CL];exact oH fun a=>by unfold fD;simp[b6,jX]
theorem FK{T:Table}{sp:List Spot}{n:Nat}(S:Sits T 1 1 sp)(hs:sp.length=n){lv:Bool}{P:List (Int×Bool)}(hP:P.length=2*n):Fit P (b9 lv (aj T 0 0)):=fun f hf=>by
 obtain⟨c,hc,hf⟩:=List.mem_flatMap.mp hf;obtain⟨i,s,h1,_,_,rfl⟩:=(S.lk.mem 0 0 c).mp hc;have hi:=(q8.mp h1).1
 unfold fc1 at hf;dsimp only at hf
 rcases sg.mp hf with rfl|hf
 ·dsimp only;split<;>lia
 ·rw[sf.mp hf];dsimp only;split<;>lia
noncomputable def fr(ns:List Int)(c r:Nat)(P:List (Int×Bool))(odd:Str)(s6 s7 s8 s9 gf gd:Sl):List Sl:=[.im (.frz (ns.map .int)),.im (.int c),.im (.int r),.im (.lst [.str "west",.str "east",.str "north",.str "south"]),.im (.lst (P.map fD)),.im (.str odd),s6,s7,s8,s9,gf,gd]
theorem ZU{ns:List Int}(kf:∀k:Nat,G.fn "_law_cell_at" [.frz (ns.map .int),.int k]=some (.ok (.int (bg ns k))))
  (hsb:∀cell:Int,∃c r:Nat,1≤c∧1≤r∧c*r≤64∧G.fn "_law_sheet_by" [.int cell]=some (.ok (.tup [.int c,.int r])))
  (hl:∀c r:Nat,1≤c→1≤r→c*r≤64→G.fn "laid" [.int c,.int r]=some (.ok (aL c r c r (eZ c r) [] [])))
  (hpr:∀n:Nat,n≤1000→G.fn "_law_prints" [.frz (ns.map .int),.int n]=some (.ok (.lst (((List.range n).map (pr1 ns)).map fD))))
  (hra:∀(c r:Nat) (x:Str) (q:D),1≤c→1≤r→1<c*r→G.fn "_law_refused" [aL c r c r (eZ c r) [] [],.str x,q]=some (.ok (.str "ajar")))
  (hsh:∀c r:Nat,1≤c→1≤r→c*r≤64→∃fs sp,Stg c r fs sp∧(runs c r fs).2.1=1∧(runs c r fs).2.2=1∧G.fn "_law_shut" [.int c,.int r,.frz (ns.map .int)]=some (.ok (dM c r fs)))
  (hle:∀(c r:Nat) (T:Table) (F S:List D) (sp:List Spot),Sits T 1 1 sp→sp.length=c*r→G.fn "_law_leaves" [aL c r 1 1 T F S,.int ((c*r:Nat):Int)]=some (.ok (hE (aj T 0 0))))
  (hrp:∀(c r:Nat) (T:Table) (F S:List D) (x:Str) (q:D),ko.lookup x=none→G.fn "_law_refused" [aL c r 1 1 T F S,.str x,q]=some (.ok (.str "place")))
  (hpg:∀(c r:Nat) (T:Table) (F S:List D) (sp:List Spot) (sd:Side) (P:List (Int×Bool)),Sits T 1 1 sp→Fit P (b9 (!sd.up) (aj T 0 0))→G.fn "pages" [aL c r 1 1 T F S,.str sd.str,.lst (P.map fD)]=some (.ok (.lst ((b9 (!sd.up) (aj T 0 0)).map (pgD P)))))
  (hfa:∀(h:cR) (sd:Side),h.length≤1000→G.fn "_law_faces" [hE h,.str sd.str]=some (.ok (.lst ((b9 (!sd.up) h).map fD))))
  (hrd:∀P fs:List (Int×Bool),Fit P fs→fs.length≤1000→G.fn "_law_read" [.lst (fs.map (pgD P)),.lst (P.map fD),.lst (fs.map fD)]=some (.ok (.bl true)))
  (hct:∀(c r:Nat) (T:Table) (F:List D) (sp:List Spot) (ak:List (Nat×Nat)) (l:Bool) (n:Int),1≤c→c*r≤64→c≤64→Sits T 1 1 sp→sp.length=c*r→0≤n→n≤1→ak.length≤900000→G.fn "cut" [aL c r 1 1 T F (ak.map pD),.bl l,.int n]=some (.ok (aL c r 1 1 T F ((ak++fS c (c*r) sp ak l n).map pD)))) :
  aU G 12 AR [.frz (ns.map .int)]=some (.ok (.bl true)):=by
 have c0:G.fn "_law_cell_at" [.frz (ns.map .int),.int 0]=some (.ok (.int (bg ns 0))):=kf 0
 have c1:G.fn "_law_cell_at" [.frz (ns.map .int),.int 1]=some (.ok (.int (bg ns 1))):=kf 1
 have c2:G.fn "_law_cell_at" [.frz (ns.map .int),.int 2]=some (.ok (.int (bg ns 2))):=kf 2
 obtain⟨c,r,hc,hr,bb,esb⟩:=hsb (bg ns 0);have c64:c≤64:=se (Nat.le_mul_of_pos_right c hr) bb
 have ela:=hl c r hc hr bb
 have epr:=hpr (2*(c*r)) (by lia)
 obtain⟨P,hP⟩:∃P,P=(List.range (2*(c*r))).map (pr1 ns):=⟨_,rfl⟩;rw[←hP]at epr;have lP:P.length=2*(c*r):=by rw[hP,ql,rh]
 obtain⟨mo,j8,emo⟩:=rT (bg ns 2) 3 (by decide)
 have emo:bg ns 2 % 3=(mo:Int):=emo
 obtain⟨odd,hodd,eodd⟩:=aAK j8;obtain⟨fs,sp,S,w1,h1,esh⟩:=hsh c r hc hr bb;obtain⟨T,hT⟩:∃T,T=(runs c r fs).1:=⟨_,rfl⟩;obtain⟨F,hF⟩:∃F,F=fs.map Fold.d:=⟨_,rfl⟩;have ep:dM c r fs=aL c r 1 1 T F []:=by unfold dM;rw[w1,h1,hT,hF]
 have Si:Sits T 1 1 sp:=by
  have:=S.sits
  rw[w1,h1,←hT]at this;exact this
 rw[ep]at esh;have ele:=hle c r T F [] sp Si S.len
 have lh:(aj T 0 0).length≤64:=by rw[(kA Si).1];exact Si.len
 have el:∀{ρ:List Sl} {a:IE} {l:List D},ev G a ρ=some (.lst l)→ev G (.bcall .list (.cons a .nil)) ρ=some (.lst l):=fun {ρ a l} e=>by
  rw[oG,bA,e];rfl
 obtain⟨ρ1,l1,s6,rfl⟩:=lR (bind:=bK [6] false) (body:=ex G b_w) (fun ρ=>∃s6,ρ=fr ns c r P odd s6 .un .un .un .un .un) (ds:=[.str "west",.str odd]) (ρ:=fr ns c r P odd .un .un .un .un .un .un) ⟨_,rfl⟩ (by
  rintro d hd ρ ⟨s6,rfl⟩;obtain⟨x,rfl⟩:∃x,d=.str x:=by
   rcases sg.mp hd with e|hd
   ·exact⟨_,e⟩
   ·exact⟨_,sf.mp hd⟩
  refine⟨fr ns c r P odd (.im (.str x)) .un .un .un .un .un,rfl,_,cX ?_ aX,_,rfl⟩;unfold fr;simp only[bX,cU,aV];have e1:∀{ρ:List Sl},ev G (.var 1) ρ=some (.int c)→ev G (.var 2) ρ=some (.int r)→ev G (.bin .gt (.bin .mul (.var 1) (.var 2)) (.lit (.int 1))) ρ=some (.bl (decide (1<c*r))):=fun {ρ} a b=>by
   rw[bT,bT,a,b];simp only[zz,yy,aA,aB,mV (show c≤1000000 by lia)]
   exact congrArg (fun b=>some (D.bl b)) (decide_eq_decide.mpr (by lia))
  rw[CG (y:=false) (e1 rfl rfl) fun hx=>?_,Bool.and_false]
  have hx:=of_decide_eq_true hx
  rw[bT,gA,bA,gA,bA,bA,bA,bA,el rfl];simp only[zz,yy,aA,aB,ela,hra c r x _ hc hr hx];exact ne_str (by decide +kernel) (by decide +kernel) (by decide +kernel))
 have go:∀(k:Nat),k<2→∀ρ,(∃(ak:List (Nat×Nat)) (s9 gf gd:Sl),ak.length≤1000*k∧ρ=fr ns c r P odd s6 (.im (aL c r 1 1 T F (ak.map pD))) (.im (hE (aj T 0 0))) s9 gf gd) →
   ∃ρ1,bK [9] false (.int (k:Nat)) ρ=some ρ1∧∃ρ2,ex G b_k ρ1=some (.nx ρ2)∧∃(ak:List (Nat×Nat)) (s9 gf gd:Sl),ak.length≤1000*(k+1)∧ρ2=fr ns c r P odd s6 (.im (aL c r 1 1 T F (ak.map pD))) (.im (hE (aj T 0 0))) s9 gf gd:=by
  rintro k hk ρ ⟨ak,s9,gf,gd,hsv,rfl⟩;obtain⟨mi,hmi,emi⟩:=rT (bg ns 1+(k:Int)*(1+(mo:Int))) 4 (by decide)
  have emi:(bg ns 1+(k:Int)*(1+(mo:Int))) % 4=(mi:Int):=emi
  obtain⟨ml,hml,eml⟩:=rT (bg ns 2 / 6) 2 (by decide)
  have eml:bg ns 2 / 6 % 2=(ml:Int):=eml
  have fit:=FK Si S.len (lv:=!(pS mi).up) lP
  have epg:=hpg c r T F (ak.map pD) sp (pS mi) P Si fit
  have efa:=hfa (aj T 0 0) (pS mi) (by lia)
  have erd:=hrd P _ fit (by rw[mZ];lia)
  have ect:=hct c r T F sp ak (bg ns 2 / 3 % 2 == 1) (ml:Int) hc bb c64 Si S.len (by lia) (by lia) (by lia)
  have cl:(fS c (c*r) sp ak (bg ns 2 / 3 % 2 == 1) (ml:Int)).length≤1000:=by
   unfold fS;rw[ql];refine se (List.length_filter_le _ _) (se (List.length_filter_le _ _) ?_);exact se (kK (c*r)) (by lia)
  refine⟨fr ns c r P odd s6 (.im (aL c r 1 1 T F (ak.map pD))) (.im (hE (aj T 0 0))) (.im (.int (k:Nat))) gf gd,rfl,fr ns c r P odd s6 (.im (aL c r 1 1 T F ((ak++fS c (c*r) sp ak (bg ns 2 / 3 % 2 == 1) (ml:Int)).map pD))) (.im (hE (aj T 0 0))) (.im (.int (k:Nat))) (.im (.str (pS mi).str)) (.im (.lst (P.map fD))),?_,_,_,_,_,?_,rfl⟩
  ·refine aJ (aR (d:=.str (pS mi).str) ?_) (aJ (aR (d:=.lst (P.map fD)) ?_) (aJ (cX ?_ aX) (aJ (cX ?_ aX) ((aR (d:=aL c r 1 1 T F ((ak++fS c (c*r) sp ak (bg ns 2 / 3 % 2 == 1) (ml:Int)).map pD)) ?_).trans rfl))))
   ·unfold fr;simp only[zz,yy,aA,aB,c1,c2,gO (i:=bg ns 2) (j:=3) (by decide),emo,iG (i:=(k:Int)) (by lia) (by lia),gO (i:=bg ns 1+(k:Int)*(1+(mo:Int))) (j:=4) (by decide),emi,LW hmi]
   ·unfold fr;simp only[List.set];exact el rfl
   ·unfold fr;simp only[List.set,bX,cU,aV];simp only[zz,yy,aA,aB,epg,efa,erd,cJ,so]
   ·unfold fr;simp only[List.set,bX,cU,aV];simp only[zz,yy,aA,aB];exact ne_self HS aAD
   ·unfold fr;simp only[List.set];simp only[zz,yy,aA,aB,c2,lZ (i:=bg ns 2) (j:=3) (by decide) (by decide),gO (i:=bg ns 2 / 3) (j:=2) (by decide),lZ (i:=bg ns 2) (j:=6) (by decide) (by decide),gO (i:=bg ns 2 / 6) (j:=2) (by decide),eml,ect]
  ·rw[sk];lia
 obtain⟨ρ2,l2,ak,s9,gf,gd,_,rfl⟩:=fK (enc:=fun k:Nat=>D.int k) (bind:=bK [9] false) (body:=ex G b_k) (fun k ρ=>∃(ak:List (Nat×Nat)) (s9 gf gd:Sl),ak.length≤1000*k∧ρ=fr ns c r P odd s6 (.im (aL c r 1 1 T F (ak.map pD))) (.im (hE (aj T 0 0))) s9 gf gd) (L:=List.range 2) (ρ:=fr ns c r P odd s6 (.im (aL c r 1 1 T F [])) (.im (hE (aj T 0 0))) .un .un .un) ⟨[],_,_,_,qm _,rfl⟩
  (fun k a hk ρ h=>by
   have h1:=(q8.mp hk).1
   rw[rh]at h1;have h2:a=k:=by rw[ui h1]at hk;exact(qw hk).symm
   subst h2;exact go a h1 ρ h)
 refine aP (ρ:=[.im (.frz (ns.map .int)),.un,.un,.un,.un,.un,.un,.un,.un,.un,.un,.un]) rfl ?_;refine aJ (ρ':=[.im (.frz (ns.map .int)),.im (.int c),.im (.int r),.un,.un,.un,.un,.un,.un,.un,.un,.un]) (wF.trans ?_) (aJ (aR (d:=.lst [.str "west",.str "east",.str "north",.str "south"]) ?_) (aJ (aR (d:=.lst (P.map fD)) ?_) (aJ (aR (d:=.str odd) ?_) (aJ ((dB (d:=.lst [.str "west",.str odd]) ?_ eA).trans l1) (aJ (aR (d:=aL c r 1 1 T F []) ?_) (aJ (aR (d:=hE (aj T 0 0)) ?_) (aJ (cX ?_ aX) (aJ ((dB (d:=.tup [.int ((2:Nat):Int)]) ?_ (eR (by decide))).trans l2) (aZ ?_)))))))))
 ·simp only[zz,yy,aA,aB,c0,esb];rfl
 ·simp only[zz,yy,aA,aB]
 ·simp only[List.set];simp only[zz,yy,aA,aB,iG (i:=2) (by decide) (by decide),iG (i:=2*(c:Int)) (j:=(r:Int)) (by lia) (by lia)]
  rw[show (2*(c:Int)*(r:Int))=((2*(c*r):Nat):Int) by push_cast;rw[Int.mul_assoc],epr]
  rfl
 ·simp only[List.set];simp only[zz,yy,aA,aB,c2,gO (i:=bg ns 2) (j:=3) (by decide),emo,eodd]
 ·simp only[List.set];simp only[zz,yy,aA,aB]
 ·unfold fr;simp only[zz,yy,aA,aB,esh]
 ·unfold fr;simp only[List.set];simp only[zz,yy,aA,aB,mV (show c≤1000000 by lia),ele]
 ·unfold fr;simp only[List.set,bX,cU,aV];refine cC (x:=false) (y:=false) ?_ fun _=>?_
  ·unfold hE;simp only[zz,yy,aA,aB];rfl
  ·rw[bT,gA,bA,bA,bA,el rfl];simp only[zz,yy,aA,aB,hrp c r T F [] odd _ hodd];exact ne_str (by decide +kernel) (by decide +kernel) (by decide +kernel)
 ·simp only[zz,yy,aA,aB];rfl
 ·simp only[zz,yy]
end
end K10
structure CC where
 N:List Str
 sc:Scope
 fns:List Str
 cls:List Str
 csts:List Str
 mus:List Str
 fresh:List Str
noncomputable def cV(c:CC)(x:Str):Option Nat:=match c.sc.names.lookup x with
 |some .local=>c.N.idxOf? x
 |some .cell=>c.N.idxOf? x
 |some .free=>c.N.idxOf? x
 |_=>none
noncomputable def aW(c:CC)(x:Str):Bool:=c.sc.names.lookup x == some .globalImplicit
noncomputable def ZQ(c:CC)(x:Str):Option Nat:=if c.mus.contains x then cV c x else none
noncomputable def one?{α:Type}:List α→Option α
 |[a]=>some a
 |_=>none
noncomputable def nameP:Expr→Option (Str×Pos)
 |.Name x p=>some (x,p)
 |_=>none
noncomputable def LV:Expr→Option (Expr×Str×Pos)
 |.Attribute o m p=>some (o,m,p)
 |_=>none
noncomputable def mL:Expr→Option (Expr×List Expr×List Keyword×Pos)
 |.Call f as kw p=>some (f,as,kw,p)
 |_=>none
noncomputable def ni:Expr→Option (Option Expr×Option Expr×Option Expr×Pos)
 |.Slice a b st p=>some (a,b,st,p)
 |_=>none
noncomputable def tupP:Expr→Option (List Expr×Nat×Pos)
 |.Tuple es k p=>some (es,k,p)
 |_=>none
noncomputable def aFd:Expr→Option (Const×Nat×Pos)
 |.Constant v k p=>some (v,k,p)
 |_=>none
noncomputable def fP(c:CC)(e:Expr):Option Nat:=(nameP e).bind fun x=>ZQ c x.1
noncomputable def QR:Operator→Option O2
 |.Add=>some .add
 |.Sub=>some .sub
 |.Mult=>some .mul
 |.FloorDiv=>some .fdiv
 |.Mod=>some .mod
 |.Pow=>some .pow
 |_=>none
noncomputable def jP:CmpOp→O2
 |.Eq=>.eq
 |.NotEq=>.ne
 |.Lt=>.lt
 |.LtE=>.le
 |.Gt=>.gt
 |.GtE=>.ge
 |.Is=>.is
 |.IsNot=>.isnot
 |.In=>.isin
 |.NotIn=>.notin
noncomputable def pE(x:Str):Option BF:=
 if x = "len" then some .len else if x = "list" then some .list else if x = "tuple" then some .tuple else if x = "max" then some .max
 else if x = "str" then some .str else if x = "sorted" then some .sorted else if x = "any" then some .any else none
noncomputable def srcOf(x:Str):Option Src:=
 if x = "range" then some .rng else if x = "reversed" then some .rev else none
noncomputable def UT(_:Bool)(_:Src):Bool:=true
noncomputable def jA:List Str:=["int","bool","str","list","tuple"]
noncomputable def fX(c:CC):Expr→Option Nat
 |.Name x _=>match c.sc.names.lookup x with
  |some .local=>c.N.idxOf? x
  |some .cell=>c.N.idxOf? x
  |_=>none
 |_=>none
noncomputable def eX(c:CC):List Expr→Option (List Nat)
 |[]=>some []
 |e::r=>do some ((←fX c e)::(←eX c r))
noncomputable def cZ(c:CC):Expr→Option (List Nat×Bool)
 |.Name x p=>(fX c (.Name x p)).map fun i=>([i],false)
 |.Tuple es _ _=>(eX c es).map fun is=>(is,true)
 |_=>none
noncomputable def rX:NameKind→Bool
 |.globalImplicit=>true
 |.globalExplicit=>true
 |_=>false
noncomputable def ownNames(sc:Scope):List Str:=(sc.names.filter fun x=>!rX x.2).map (·.1)
noncomputable def jI:Expr→Bool
 |.Call _ _ _ _=>false
 |_=>true
noncomputable def jZ(c:CC)(sc:Scope):Bool:=
 sc.kind == .function&&sc.names.all (fun x=>x.2 != .cell)&&sc.names.all (fun x=>x.2 != .local || sc.names.lookup x.1 == some .local)&&sc.names.all (fun x=>x.2 != .free || sc.names.lookup x.1 == some .free)&&decide (ownNames sc).Nodup &&
 (ownNames sc).all (fun x=>!(x == ("__debug__":Str))&&!(x == ("__classdict__":Str)))&&!(sc.names.lookup ("__debug__":Str) == some NameKind.globalImplicit) &&
 sc.names.all (fun x=>x.2 != .free || (c.sc.names.lookup x.1 == some .cell || c.sc.names.lookup x.1 == some .free))
noncomputable def freeOf(c:CC)(sc:Scope):List (Str×NameKind)→Option (List (Nat×Nat))
 |[]=>some []
 |x::r=>do some ((←(ownNames sc).idxOf? x.1,←cV c x.1)::(←freeOf c sc r))
noncomputable def own(c:CC)(x:Str):Bool:=c.fns.contains x || c.cls.contains x
noncomputable def xR(c:CC)(x:Str):Option IE:=match cV c x with
 |some i=>some (.var i)
 |none=>if aW c x&&c.csts.contains x then some (.glo x) else none
noncomputable def zR:Const→Option IE
 |.int i=>some (.lit (.int i))
 |.bool b=>some (.lit (.bl b))
 |.str x=>some (.lit (.str x))
 |.none=>some (.lit .non)
 |_=>none
noncomputable def aCG(a:Option IE):UnaryOp→Option IE
 |.Not=>a.map fun x=>.not (.tr x)
 |_=>none
noncomputable def boK:BoolOp→Bool
 |.And=>true
 |.Or=>false
noncomputable def FP:List Str:=["SPINE_LINES","WAYS"]
noncomputable def aEM:CmpOp→Option Bool
 |.In=>some false
 |.NotIn=>some true
 |_=>none
noncomputable def aEN(c:CC)(o:CmpOp)(b:Expr):Option (Bool×Str):=(aEM o).bind fun k=>(nameP b).bind fun q=>if aW c q.1&&FP.contains q.1 then some (k,q.1) else none
noncomputable def HB(c:CC)(f:Expr→Option IE)(a:Option IE):List CmpOp→List Expr→Option IE
 |[o],[b]=>a.bind fun x=>match aEN c o b with
  |some q=>some (.inC q.1 q.2 x)
  |none=>(f b).map fun y=>.bin (jP o) x y
 |[o,o'],[b,d]=>a.bind fun x=>(f b).bind fun y=>(f d).map fun z=>.chain (jP o) (jP o') x y z
 |_,_=>none
noncomputable def rN(f:Expr→Option IE):Option Expr→Option IE
 |none=>some (.lit .non)
 |some e=>f e
noncomputable def aCI(m:Option Nat)(a:Option IE)(bl:Bool)(l:IE)(bh:Bool)(h:IE):Option IE:=match m with
 |some _=>none
 |none=>a.map fun x=>.sl x bl l bh h
noncomputable def aCL(m:Option Nat)(a:Option IE)(k:IE):Option IE:=match m with
 |some _=>none
 |none=>a.map fun x=>.ix x k
noncomputable def GY(f:Expr→Option IE)(m:Option Nat)(a:Option IE)(i:Expr):Option IE:=match ni i with
 |some q=>if q.2.2.1.isSome then none else(rN f q.1).bind fun l=>(rN f q.2.1).bind fun h=>aCI m a q.1.isSome l q.2.1.isSome h
 |none=>(f i).bind (aCL m a)
noncomputable def GZ(f:Expr→Option IE)(c:CC):List Expr→Option IE
 |[a,y]=>(nameP y).bind fun y=>if aW c y.1&&jA.contains y.1&&!own c y.1 then(f a).map fun x=>.isi x y.1 else none
 |_=>none
noncomputable def UP(c:CC)(args:List Expr):Option Nat:=(one? args).bind (fP c)
noncomputable def lT(c:CC)(e:Expr):Option (Str×List Expr):=(mL e).bind fun q=>(nameP q.1).bind fun x=>if q.2.2.1.isEmpty&&aW c x.1&&!own c x.1 then some (x.1,q.2.1) else none
noncomputable def xP(c:CC)(args:List Expr):Option Expr:=(one? args).bind fun e=>(lT c e).bind fun q=>if q.1 == "reversed" then one? q.2 else none
noncomputable def aHd(b:BF)(as:Option IE)(i:Nat):Option IE:=match b with
 |_=>as.map fun x=>.bcall b x
noncomputable def xO(c:CC)(e:Expr):Option Expr:=(lT c e).bind fun q=>if q.1 == "range" then one? q.2 else none
noncomputable def XM(b:BF)(as:Option IE)(w w2:Option (Option IE)):Option IE:=match b,w,w2 with
 |.list,some o,_=>o.map fun x=>.walk .rev x
 |.list,none,some o=>o.map fun x=>.walk .rng (.tup (.cons x .nil))
 |_,_,_=>as.map fun x=>.bcall b x
noncomputable def DX(f:Expr→Option IE)(c:CC)(b:BF)(args:List Expr)(as:Option IE):Option IE:=match UP c args with
 |some i=>aHd b as i
 |none=>XM b as ((xP c args).map f) (((one? args).bind (xO c)).map f)
noncomputable def zS(f:Expr→Option IE)(c:CC)(x:Str)(args:List Expr)(as:Option IE):Option IE:=
 if aW c x then
  (if c.fns.contains x then as.map fun y=>.call x y
   else if c.cls.contains x then as.map fun y=>.mk x y
   else if x == "isinstance" then GZ f c args
   else(pE x).bind fun b=>DX f c b args as)
 else none
noncomputable def XN(f:Expr→Option IE)(c:CC)(g:Expr)(args:List Expr)(as:Option IE)(p:Pos):Option IE:=match g with
 |.Name x _=>zS f c x args as
 |.Attribute o m ap=>if jI o&&decide (args.length<30)&&(ap.endLine == p.line) then(f o).bind fun x=>as.map fun y=>.meth x m y else none
 |_=>none
noncomputable def XJ(f:Expr→Option IE):List Expr→Option IE
 |[]=>some (.lit (.bl true))
 |[e]=>f e
 |_=>none
noncomputable def HA(c:CC)(sc:Scope)(g:Comprehension)(it:Option (Src×IE))(ct:Expr→Option IE)(el:Option IE):Option IE:=
 (cZ { c with N:=ownNames sc,sc:=sc } g.target).bind fun tg=>it.bind fun k=>(XJ ct g.ifs).bind fun te=>el.bind fun el=>(freeOf c sc (sc.names.filter fun x=>x.2 == .free)).bind fun fr =>
  if jZ c sc&&tg.1.all (fun i=>(fr.lookup i).isNone) then some (.comp (ownNames sc).length fr tg.1 tg.2 k.1 k.2 te el) else none
noncomputable def few(es:List Expr):Bool:=decide (es.length≤100)
mutual
noncomputable def cE:Nat→CC→Expr→Option IE
 | 0,_,_=>none
 |n+1,c,e=>match e with
  |.Name x _=>xR c x
  |.Constant v _ _=>zR v
  |.BinOp a o b _=>(QR o).bind fun o=>(cE n c a).bind fun x=>(cE n c b).map fun y=>.bin o x y
  |.UnaryOp o a _=>aCG (cE n c a) o
  |.BoolOp o vs _=>cB n c false (boK o) vs
  |.IfExp d a b _=>(cT n c d).bind fun x=>(cE n c a).bind fun y=>(cE n c b).map fun z=>.ite x y z
  |.Compare a os bs _=>HB c (cE n c) (cE n c a) os bs
  |.Tuple es _ _=>if few es then(cA n c es).map .tup else none
  |.List es _=>if few es then(cA n c es).map .lst else none
  |.Subscript a i _=>GY (cE n c) (fP c a) (cE n c a) i
  |.Attribute a f _=>if jI a then(cE n c a).map fun x=>.fld x f else none
  |.ListComp elt gs sc _=>(one? gs).bind fun g=>if g.is_async=0 then HA c sc g (cI n c g.iter) (cT n { c with N:=ownNames sc,sc:=sc }) (cE n { c with N:=ownNames sc,sc:=sc } elt) else none
  |.Call f args kw p=>if kw.isEmpty then XN (cE n c) c f args (cA n c args) p else none
  |_=>none
noncomputable def cT:Nat→CC→Expr→Option IE
 | 0,_,_=>none
 |n+1,c,e=>match e with
  |.BoolOp o vs _=>cB n c true (boK o) vs
  |.UnaryOp .Not a _=>(cT n c a).map .not
  |.Compare a os bs _=>HB c (cE n c) (cE n c a) os bs
  |.IfExp _ _ _ _=>none
  |e=>(cE n c e).map .tr
noncomputable def cB:Nat→CC→Bool→Bool→List Expr→Option IE
 | 0,_,_,_,_=>none
 |n+1,c,t,k,[]=>none
 |n+1,c,t,k,[a]=>if t then cT n c a else cE n c a
 |n+1,c,t,k,a::b::r=>(if t then cT n c a else cE n c a).bind fun x=>(cB n c t k (b::r)).map fun y=>if k then .and x y else .or x y
noncomputable def cA:Nat→CC→List Expr→Option IE
 | 0,_,_=>none
 |n+1,c,[]=>some .nil
 |n+1,c,e::es=>(cE n c e).bind fun x=>(cA n c es).map fun y=>.cons x y
noncomputable def cI:Nat→CC→Expr→Option (Src×IE)
 | 0,_,_=>none
 |n+1,c,e=>match (lT c e).bind fun q=>(srcOf q.1).map fun k=>(k,q.2) with
  |some q=>(match q.1 with
   |.rng=>(cA n c q.2).map fun y=>(.rng,.tup y)
   |k=>(one? q.2).bind fun a=>(cE n c a).map fun y=>(k,y))
  |none=>(cE n c e).map fun y=>(.seq,y)
end
noncomputable def aHM(i:Expr):Bool:=(ni i).isSome
noncomputable def aAl(c:CC):Expr→Bool
 |.Name x _=>(c.fns.contains x&&c.fresh.contains x) || (aW c x&&(x == "list" || x == "sorted")&&!own c x)
 |.Attribute _ m _=>c.fresh.contains m
 |_=>false
noncomputable def gI(c:CC):Expr→Bool
 |.List _ _=>true
 |.ListComp _ _ _ _=>true
 |.Subscript _ i _=>aHM i
 |.Call f _ _ _=>aAl c f
 |_=>false
noncomputable def cW(c:CC)(nm:Option Str)(e:Expr):Option Str:=(mL e).bind fun q=>(nameP q.1).bind fun f=>(one? q.2.1).bind fun a=>(nameP a).bind fun y=>if q.2.2.1.isEmpty&&nm == some y.1&&aW c f.1 then some f.1 else none
noncomputable def WO(e:Expr):Option Str:=(aFd e).bind fun v=>match v.1 with
 |.str x=>some x
 |_=>none
noncomputable def cH(c:CC)(nm:Option Str):Expr→Option HR
 |.Constant (.bool b) _ _=>some (.lit (.bl b))
 |.Compare e os bs _=>(cW c nm e).bind fun f=>(one? os).bind fun o=>(one? bs).bind fun b=>(WO b).bind fun x=>if o == .Eq then some (.weq f x) else none
 |e=>(cW c nm e).map .word
noncomputable def cN(c:CC):Option Str→Option (Option Nat)
 |none=>some none
 |some n=>if c.sc.names.lookup n == some .local&&!(n == ("__debug__":Str))&&!(n == ("__classdict__":Str)) then(c.N.idxOf? n).map some else none
noncomputable def aCK(f:Expr→Option IE)(c:CC):Option Expr→Option IS
 |none=>some .retn
 |some e=>match fP c e with
  |some i=>some (.retm i)
  |none=>(f e).map fun x=>.ret (gI c e) x
noncomputable def AN:Expr→Bool
 |.Dict [] [] _=>true
 |_=>false
noncomputable def HC(f:Expr→Option IE)(c:CC)(x:Str)(e:Expr)(i:Nat):Option IS:=
 if c.mus.contains x then(if AN e then some (.setd i) else if gI c e then(f e).map fun y=>.setm i y else none) else(f e).map fun y=>.set i y
noncomputable def xQ(f:Expr→Option IE)(c:CC)(ts:List Expr)(e:Expr):Option IS:=match tupP e with
 |some _=>none
 |none=>(eX c ts).bind fun is=>(f e).map fun y=>.sett is y
noncomputable def UG(f:Expr→Option IE)(c:CC)(e:Expr):Expr→Option IS
 |.Name x p=>(fX c (.Name x p)).bind (HC f c x e)
 |.Tuple ts _ _=>xQ f c ts e
 |.Subscript a i _=>(fP c a).bind fun j=>(f i).bind fun k=>(f e).map fun y=>.put j k y
 |_=>none
noncomputable def TM(c:CC)(e:Expr):Option (Nat×Expr):=(mL e).bind fun q=>(LV q.1).bind fun g=>(fP c g.1).bind fun j=>(one? q.2.1).bind fun a=>if q.2.2.1.isEmpty&&g.2.1 == "append" && g.2.2.endLine == q.2.2.2.line then some (j,a) else none
noncomputable def aHe(f:Expr→Option IE)(c:CC)(e:Expr):Option IS:=match TM c e with
 |some q=>(f q.2).map fun x=>.app q.1 x
 |none=>(mL e).bind fun _=>(f e).map .drop
noncomputable def aCJ(c:CC)(e:Option Expr)(h:Option Expr):Option IS:=e.bind fun e=>(mL e).bind fun q=>(nameP q.1).bind fun x=>(one? q.2.1).bind fun a=>(WO a).bind fun _ =>
 if h.isNone&&q.2.2.1.isEmpty&&aW c x.1&&c.cls.contains x.1 then some (.rse x.1) else none
noncomputable def exP:Stmt→Option (Expr×Pos)
 |.Expr e p=>some (e,p)
 |_=>none
noncomputable def aCF:Stmt→Option (Option Expr×Pos)
 |.Return e p=>some (e,p)
 |_=>none
noncomputable def aCH(f:Expr→Option IE)(c:CC)(b:List Stmt):List ExceptHandler→Option IS
 |[.ExceptHandler ty nm body _]=>(one? b).bind fun s=>(exP s).bind fun e=>(mL e.1).bind fun _=>ty.bind fun ty=>(nameP ty).bind fun x=>(one? body).bind fun r=>(aCF r).bind fun r=>r.1.bind fun re =>
   if aW c x.1 then(cN c nm).bind fun i=>(cH c nm re).bind fun r=>(f e.1).map fun u=>.tryx u x.1 i r else none
 |_=>none
mutual
noncomputable def cS:Nat→CC→Stmt→Option IS
 | 0,_,_=>none
 |n+1,c,st=>match st with
  |.Pass _=>some .nop
  |.Return v _=>aCK (cE n c) c v
  |.Assign ts e _=>(one? ts).bind (UG (cE n c) c e)
  |.If t a b _=>(cT n c t).bind fun t=>(jc n c a).bind fun a=>(jc n c b).map fun b=>.iff t a b
  |.For tg iter body p0 _=>if p0.isEmpty then(cZ c tg).bind fun g=>(cI n c iter).bind fun k=>if UT g.2 k.1 then(jc n c body).map fun b=>.loop g.1 g.2 k.1 k.2 b else none else none
  |.Expr e _=>aHe (cE n c) c e
  |.Raise e h _=>aCJ c e h
  |.Try b hs p0 fin _=>if p0.isEmpty&&fin.isEmpty then aCH (cE n c) c b hs else none
  |_=>none
noncomputable def jc:Nat→CC→List Stmt→Option IS
 | 0,_,_=>none
 |n+1,c,[]=>some .nop
 |n+1,c,[s]=>cS n c s
 |n+1,c,s::s2::r=>(cS n c s).bind fun a=>(jc n c (s2::r)).map fun b=>.seq a b
end
theorem bO{α:Type}{l:List α}{a:α}(h:one? l=some a):l=[a]:=by
 match l,h with
 |[_],h=>exact congrArg (fun x=>[x]) (qw h)
theorem cL{e:Expr}{x:Str×Pos}(h:nameP e=some x):e=.Name x.1 x.2:=by
 cases e<;>first|exact nomatch (show none=some x from h)|(cases (show some _=some x from h);rfl)
theorem oR{e:Expr}{x:Expr×Str×Pos}(h:LV e=some x):e=.Attribute x.1 x.2.1 x.2.2:=by
 cases e<;>first|exact nomatch (show none=some x from h)|(cases (show some _=some x from h);rfl)
theorem eL{e:Expr}{x:Expr×List Expr×List Keyword×Pos}(h:mL e=some x):e=.Call x.1 x.2.1 x.2.2.1 x.2.2.2:=by
 cases e<;>first|exact nomatch (show none=some x from h)|(cases (show some _=some x from h);rfl)
theorem GT{e:Expr}{x:Option Expr×Option Expr×Option Expr×Pos}(h:ni e=some x):e=.Slice x.1 x.2.1 x.2.2.1 x.2.2.2:=by
 cases e<;>first|exact nomatch (show none=some x from h)|(cases (show some _=some x from h);rfl)
theorem FS{e:Expr}{x:Const×Nat×Pos}(h:aFd e=some x):e=.Constant x.1 x.2.1 x.2.2:=by
 cases e<;>first|exact nomatch (show none=some x from h)|(cases (show some _=some x from h);rfl)
theorem aG{α β:Type}{o:Option α}{f:α→Option β}{b:β}(h:o.bind f=some b):∃a,o=some a∧f a=some b:=qi.mp h
theorem aQ{α β:Type}{o:Option α}{f:α→β}{b:β}(h:o.map f=some b):∃a,o=some a∧b=f a:=by
 obtain⟨a,h1,h2⟩:=qx.mp h;exact⟨a,h1,h2.symm⟩
theorem bF{α:Type}{k:Bool}{o:Option α}{a:α}(h:(if k then o else none)=some a):k=true∧o=some a:=by
 cases k with
 |true=>exact⟨rfl,h⟩
 |false=>exact nomatch (show none=some a from h)
theorem cY{a b:Bool}(h:(a&&b)=true):a=true∧b=true:=(qv a b) ▸ h
theorem UL{a:Bool}(h:(!a)=true):a=false:=by cases a<;>first|rfl|exact h.symm
theorem kT{α:Type}{l:List α}(h:l.isEmpty=true):l=[]:=List.isEmpty_iff.mp h
theorem AD{c:CC}{x:Str}(h:own c x=false):c.fns.contains x=false∧c.cls.contains x=false:=by
 unfold own at h;rw[Bool.or_eq_false_iff]at h;exact h
theorem iZ{c:CC}{e:Expr}{q:Str×List Expr}(h:lT c e=some q):∃p1 p2,e=.Call (.Name q.1 p1) q.2 [] p2∧aW c q.1=true∧own c q.1=false:=by
 obtain⟨r,h1,h⟩:=aG h;obtain⟨x,h2,h⟩:=aG h;obtain⟨h3,h⟩:=bF h;obtain⟨h3,h5⟩:=cY h3;obtain⟨h3,h4⟩:=cY h3;cases h;exact⟨x.2,r.2.2.2,by rw[eL h1,cL h2,kT h3],h4,UL h5⟩
theorem pN{e:Expr}{x:Str}(h:WO e=some x):∃j p,e=.Constant (.str x) j p:=by
 obtain⟨v,h1,h⟩:=aG h;obtain⟨v,j,p⟩:=v;have e1:=FS h1
 cases v<;>first|exact nomatch (show none=some x from h)|(cases (show some _=some x from h);exact⟨j,p,e1⟩)
end Z
namespace Z
open PySem PySem.Spec PyProof.Rows L2
def ExcAt(xc:Str→Option Addr)(H:Hp)(a:Addr)(c:Str):Prop:=
 ∃φ C,H a=some (.ext φ)∧xc c=some C∧∀h:Heap,φ h→∃o,h.get? a=some o∧o.cls=.ref C
structure Tx where
 cl:Str→Option Addr
 xc:Str→Option Addr
section
variable (K:va)(T:Tx)(H:Hp)(S:Addr→Prop)
mutual
noncomputable def Rep:D→V→Prop
 |.non,v=>v=.non
 |.bl b,v=>v=.bl b
 |.int i,v=>v=.int i
 |.str x,v=>v=.str x
 |.lst ds,v=>∃a xs,v=.ref a∧¬S a∧H a=some (.lst xs)∧aE ds xs
 |.tup ds,v=>∃a xs,v=.ref a∧¬S a∧SqT K H a xs∧aE ds xs
 |.obj c fs,v=>∃a C dx gs,v=.ref a∧¬S a∧T.cl c=some C∧H a=some (.ins C dx gs)∧cD fs gs
 |.exc c,v=>∃a,v=.ref a∧¬S a∧ExcAt T.xc H a c
 |.dct kvs,v=>∃a gs,v=.ref a∧¬S a∧H a=some (.dK gs)∧bC kvs gs
 |.frz ds,v=>∃a xs,v=.ref a∧¬S a∧SqL K H a xs∧aE ds xs
noncomputable def aE:List D→List V→Prop
 |[],xs=>xs=[]
 |d::ds,xs=>∃x r,xs=x::r∧Rep d x∧aE ds r
noncomputable def cD:List (Str×D)→List (Str×V)→Prop
 |[],gs=>gs=[]
 | (f,d)::fs,gs=>∃x r,gs=(f,x)::r∧Rep d x∧cD fs r
noncomputable def bC:List (Int×D)→List (Key×V)→Prop
 |[],gs=>gs=[]
 | (i,d)::fs,gs=>∃x r,gs=(Sum.inl i,x)::r∧Rep d x∧bC fs r
end
end
section
variable {K:va}{T:Tx}{H H':Hp}{S S':Addr→Prop}
theorem SqT.keeps{a:Addr}{xs:List V}(h:SqT K H a xs)(k:∀o,H a=some o→H' a=some o):SqT K H' a xs:=by
 rcases h with (h|⟨o,h⟩)|h
 ·exact .inl (.inl (k _ h))
 ·exact .inl (.inr ⟨o,k _ h⟩)
 ·exact .inr h
theorem SqL.keeps{a:Addr}{xs:List V}(h:SqL K H a xs)(k:∀o,H a=some o→H' a=some o):SqL K H' a xs:=by
 rcases h with (h|⟨o,h⟩)|h
 ·exact .inl (.inl (k _ h))
 ·exact .inl (.inr ⟨o,k _ h⟩)
 ·exact .inr h
def aO(K:va)(H H':Hp)(S S':Addr→Prop):Prop:=∀a,¬S a→((∃o,H a=some o)∨∃o,K.lookup a=some o)→¬S' a∧∀o,H a=some o→H' a=some o
theorem SqT.has{a:Addr}{xs:List V}(h:SqT K H a xs):(∃o,H a=some o)∨∃o,K.lookup a=some o:=by
 rcases h with (h|⟨o,h⟩)|⟨o,_,_,h,_⟩
 ·exact .inl ⟨_,h⟩
 ·exact .inl ⟨_,h⟩
 ·exact .inr ⟨_,h⟩
theorem SqL.has{a:Addr}{xs:List V}(h:SqL K H a xs):(∃o,H a=some o)∨∃o,K.lookup a=some o:=by
 rcases h with (h|⟨o,h⟩)|⟨o,_,_,h,_⟩
 ·exact .inl ⟨_,h⟩
 ·exact .inl ⟨_,h⟩
 ·exact .inr ⟨_,h⟩
mutual
theorem Rep.gen(hk:aO K H H' S S'):∀(d:D) (v:V),Rep K T H S d v→Rep K T H' S' d v
 |.non,v,h=>by unfold Rep at h ⊢;exact h
 |.bl b,v,h=>by unfold Rep at h ⊢;exact h
 |.int i,v,h=>by unfold Rep at h ⊢;exact h
 |.str x,v,h=>by unfold Rep at h ⊢;exact h
 |.lst ds,v,h=>by
  unfold Rep at h ⊢;obtain⟨a,xs,e,n,q,r⟩:=h;obtain⟨n',k⟩:=hk a n (.inl ⟨_,q⟩);exact⟨a,xs,e,n',k _ q,aE.gen hk ds xs r⟩
 |.tup ds,v,h=>by
  unfold Rep at h ⊢;obtain⟨a,xs,e,n,q,r⟩:=h;obtain⟨n',k⟩:=hk a n (SqT.has q);exact⟨a,xs,e,n',SqT.keeps q k,aE.gen hk ds xs r⟩
 |.obj c fs,v,h=>by
  unfold Rep at h ⊢;obtain⟨a,C,dx,gs,e,n,ec,q,r⟩:=h;obtain⟨n',k⟩:=hk a n (.inl ⟨_,q⟩);exact⟨a,C,dx,gs,e,n',ec,k _ q,cD.gen hk fs gs r⟩
 |.exc c,v,h=>by
  unfold Rep at h ⊢;obtain⟨a,e,n,φ,C,q,r⟩:=h;obtain⟨n',k⟩:=hk a n (.inl ⟨_,q⟩);exact⟨a,e,n',φ,C,k _ q,r⟩
 |.dct kvs,v,h=>by
  unfold Rep at h ⊢;obtain⟨a,gs,e,n,q,r⟩:=h;obtain⟨n',k⟩:=hk a n (.inl ⟨_,q⟩);exact⟨a,gs,e,n',k _ q,bC.gen hk kvs gs r⟩
 |.frz ds,v,h=>by
  unfold Rep at h ⊢;obtain⟨a,xs,e,n,q,r⟩:=h;obtain⟨n',k⟩:=hk a n (SqL.has q);exact⟨a,xs,e,n',SqL.keeps q k,aE.gen hk ds xs r⟩
theorem aE.gen(hk:aO K H H' S S'):∀(ds:List D) (xs:List V),aE K T H S ds xs→aE K T H' S' ds xs
 |[],xs,h=>by unfold aE at h ⊢;exact h
 |d::ds,xs,h=>by
  unfold aE at h ⊢;obtain⟨x,r,e,p,q⟩:=h;exact⟨x,r,e,Rep.gen hk d x p,aE.gen hk ds r q⟩
theorem cD.gen(hk:aO K H H' S S'):∀(ds:List (Str×D)) (xs:List (Str×V)),cD K T H S ds xs→cD K T H' S' ds xs
 |[],xs,h=>by unfold cD at h ⊢;exact h
 | (f,d)::ds,xs,h=>by
  unfold cD at h ⊢;obtain⟨x,r,e,p,q⟩:=h;exact⟨x,r,e,Rep.gen hk d x p,cD.gen hk ds r q⟩
theorem bC.gen(hk:aO K H H' S S'):∀(ds:List (Int×D)) (xs:List (Key×V)),bC K T H S ds xs→bC K T H' S' ds xs
 |[],xs,h=>by unfold bC at h ⊢;exact h
 | (f,d)::ds,xs,h=>by
  unfold bC at h ⊢;obtain⟨x,r,e,p,q⟩:=h;exact⟨x,r,e,Rep.gen hk d x p,bC.gen hk ds r q⟩
end
theorem aO.mk(hS:∀a,S' a→S a)(hk:∀b o,¬S b→H b=some o→H' b=some o):aO K H H' S S':=fun a n _=>⟨fun z=>n (hS a z),fun o=>hk a o n⟩
theorem aO.add{D:Addr}{o:HO}(hD:H D=none)(hK:K.lookup D=none):aO K H (upd H D o) S (fun a=>S a∨a=D):=fun a n h=>by
 have ne:a≠D:=by
  rintro rfl
  rcases h with ⟨u,e⟩|⟨u,e⟩
  ·rw[hD]at e;cases e
  ·rw[hK]at e;cases e
 exact⟨fun z=>z.elim n ne,fun u e=>by rw[aN ne];exact e⟩
theorem Rep.mono(hS:∀a,S' a→S a)(hk:∀b o,¬S b→H b=some o→H' b=some o)(d:D)(v:V)(h:Rep K T H S d v):Rep K T H' S' d v:=Rep.gen (aO.mk hS hk) d v h
theorem aE.mono(hS:∀a,S' a→S a)(hk:∀b o,¬S b→H b=some o→H' b=some o)(d:List D)(v:List V)(h:aE K T H S d v):aE K T H' S' d v:=aE.gen (aO.mk hS hk) d v h
theorem Rep.same(k:aI H H'){d:D}{v:V}(h:Rep K T H S d v):Rep K T H' S d v:=Rep.mono (fun _ z=>z) (fun b o _=>k b o) d v h
theorem aE.same(k:aI H H'){d:List D}{v:List V}(h:aE K T H S d v):aE K T H' S d v:=aE.mono (fun _ z=>z) (fun b o _=>k b o) d v h
theorem aE.len:∀{ds:List D} {xs:List V},aE K T H S ds xs→ds.length=xs.length
 |[],xs,h=>by unfold aE at h;subst h;rfl
 |d::ds,xs,h=>by
  unfold aE at h;obtain⟨x,r,rfl,_,q⟩:=h;simp[aE.len q]
theorem aE.get:∀{ds:List D} {xs:List V} {i:Nat} {d:D},aE K T H S ds xs→ds[i]?=some d→∃x,xs[i]?=some x∧Rep K T H S d x
 |[],_,_,_,_,e=>by simp at e
 |d::ds,xs,0,d',h,e=>by
  unfold aE at h;obtain⟨x,r,rfl,p,q⟩:=h;simp at e;subst e;exact⟨x,rfl,p⟩
 |d::ds,xs,i+1,d',h,e=>by
  unfold aE at h;obtain⟨x,r,rfl,p,q⟩:=h;obtain⟨y,h1,h2⟩:=aE.get (i:=i) (d:=d') q (by simpa using e)
  exact⟨y,by simpa using h1,h2⟩
theorem aE.app:∀{ds es:List D} {xs ys:List V},aE K T H S ds xs→aE K T H S es ys→aE K T H S (ds++es) (xs++ys)
 |[],es,xs,ys,h,g=>by unfold aE at h;subst h;exact g
 |d::ds,es,xs,ys,h,g=>by
  unfold aE at h;obtain⟨x,r,rfl,p,q⟩:=h;show aE K T H S (d::(ds++es)) _
  unfold aE;exact⟨x,r++ys,rfl,p,aE.app q g⟩
theorem aE.nil:aE K T H S [] []:=by unfold aE;rfl
theorem aE.cons{d:D}{x:V}{ds:List D}{xs:List V}(h:Rep K T H S d x)(g:aE K T H S ds xs):aE K T H S (d::ds) (x::xs):=by unfold aE;exact⟨x,xs,rfl,h,g⟩
theorem aE.drop:∀{ds:List D} {xs:List V} (n:Nat),aE K T H S ds xs→aE K T H S (ds.drop n) (xs.drop n)
 |ds,xs,0,h=>h
 |[],xs,n+1,h=>by unfold aE at h;subst h;exact aE.nil
 |d::ds,xs,n+1,h=>by
  unfold aE at h;obtain⟨x,r,rfl,p,q⟩:=h;exact aE.drop n q
theorem aE.take:∀{ds:List D} {xs:List V} (n:Nat),aE K T H S ds xs→aE K T H S (ds.take n) (xs.take n)
 |ds,xs,0,h=>by simp;exact aE.nil
 |[],xs,n+1,h=>by unfold aE at h;subst h;exact aE.nil
 |d::ds,xs,n+1,h=>by
  unfold aE at h;obtain⟨x,r,rfl,p,q⟩:=h;exact aE.cons p (aE.take n q)
theorem aE.set:∀{ds:List D} {xs:List V} (n:Nat) {d:D} {v:V},aE K T H S ds xs→Rep K T H S d v→aE K T H S (ds.set n d) (xs.set n v)
 |[],xs,n,d,v,h,g=>by unfold aE at h;subst h;exact aE.nil
 |_::ds,xs,0,d,v,h,g=>by
  unfold aE at h;obtain⟨x,r,rfl,p,q⟩:=h;exact aE.cons g q
 |_::ds,xs,n+1,d,v,h,g=>by
  unfold aE at h;obtain⟨x,r,rfl,p,q⟩:=h;exact aE.cons p (aE.set n q g)
theorem aE.rev:∀{ds:List D} {xs:List V},aE K T H S ds xs→aE K T H S ds.reverse xs.reverse
 |[],xs,h=>by unfold aE at h;subst h;exact aE.nil
 |d::ds,xs,h=>by
  unfold aE at h;obtain⟨x,r,rfl,p,q⟩:=h;rw[reverse_cons,reverse_cons];exact aE.app (aE.rev q) (aE.cons p aE.nil)
theorem cD.look{f:Str}:∀{ds:List (Str×D)} {xs:List (Str×V)},cD K T H S ds xs→(∀d,ds.lookup f=some d→∃x,xs.lookup f=some x∧Rep K T H S d x)∧(ds.lookup f=none→xs.lookup f=none)
 |[],xs,h=>by unfold cD at h;subst h;exact⟨fun d e=>by simp at e,fun _=>rfl⟩
 | (g,d)::ds,xs,h=>by
  unfold cD at h;obtain⟨x,r,rfl,p,q⟩:=h;obtain⟨i1,i2⟩:=cD.look (f:=f) q;rw[lookup_cons,lookup_cons];cases e:f == g with
  |true=>exact⟨fun d' z=>⟨x,rfl,by cases z;exact p⟩,fun z=>by cases z⟩
  |false=>exact⟨i1,i2⟩
end
noncomputable def er(H:Hp)(p:Addr):Hp:=fun a=>if a=p then none else H a
theorem CH{H:Hp}{p a:Addr}{o:HO}:er H p a=some o↔a≠p∧H a=some o:=by
 unfold er;split<;>simp_all
theorem iB{H:Hp}{p:Addr}{o:HO}(h:H p=none):er (upd H p o) p=H:=by
 funext a
 unfold er
 by_cases e:a=p
 ·rw[if_pos e,e,h]
 ·rw[if_neg e,aN e]
theorem aE.er{K:va}{T:Tx}{H:Hp}{S:Addr→Prop}{p:Addr}{ds:List D}{xs:List V}(h:aE K T (er H p) S ds xs):aE K T H S ds xs:=aE.mono (fun _ z=>z) (fun b o _ e=>(CH.mp e).2) ds xs h
theorem aE.disown{K:va}{T:Tx}{H:Hp}{S S':Addr→Prop}{p:Addr}{ds:List D}{xs:List V}(hp:S p)(hs:∀a,S' a→S a)(h:aE K T H S ds xs):aE K T (Z.er H p) S' ds xs:=
 aE.gen (fun a n _=>⟨fun z=>n (hs a z),fun o e=>CH.mpr ⟨fun z=>n (by rw[z];exact hp),e⟩⟩) ds xs h
theorem aO.own{K:va}{H:Hp}{S:Addr→Prop}{p:Addr}(hk:K.lookup p=none):aO K (Z.er H p) H S (fun a=>S a∨a=p):=fun a n q=>by
 have ne:a≠p:=by
  rintro rfl
  rcases q with ⟨o,e⟩|⟨o,e⟩
  ·exact(CH.mp e).1 rfl
  ·rw[hk]at e;cases e
 exact⟨fun z=>z.elim n ne,fun o e=>(CH.mp e).2⟩
def lV(K:va)(T:Tx)(H:Hp)(S:Addr→Prop)(d:D)(o:HO):Prop:=(∃ds xs,d=.lst ds∧o=.lst xs∧aE K T H S ds xs)∨∃kvs gs,d=.dct kvs∧o=.dK gs∧bC K T H S kvs gs
theorem lV.gen{K:va}{T:Tx}{H H':Hp}{S S':Addr→Prop}{d:D}{o:HO}(mv:aO K H H' S S')(h:lV K T H S d o):lV K T H' S' d o:=by
 rcases h with ⟨ds,xs,e1,e2,r⟩|⟨ds,xs,e1,e2,r⟩
 ·exact .inl ⟨ds,xs,e1,e2,aE.gen mv _ _ r⟩
 ·exact .inr ⟨ds,xs,e1,e2,bC.gen mv _ _ r⟩
theorem lV.lst{K:va}{T:Tx}{H:Hp}{S:Addr→Prop}{ds:List D}{o:HO}(h:lV K T H S (.lst ds) o):∃xs,o=.lst xs∧aE K T H S ds xs:=by
 rcases h with ⟨ds',xs,e1,e2,r⟩|⟨ds',xs,e1,e2,r⟩
 ·cases e1;exact⟨xs,e2,r⟩
 ·cases e1
theorem lV.dct{K:va}{T:Tx}{H:Hp}{S:Addr→Prop}{ds:List (Int×D)}{o:HO}(h:lV K T H S (.dct ds) o):∃xs,o=.dK xs∧bC K T H S ds xs:=by
 rcases h with ⟨ds',xs,e1,e2,r⟩|⟨ds',xs,e1,e2,r⟩
 ·cases e1
 ·cases e1;exact⟨xs,e2,r⟩
theorem lV.rep{K:va}{T:Tx}{H:Hp}{S S':Addr→Prop}{d:D}{o:HO}{p:Addr}(h:lV K T H S d o)(hp:H p=some o)(hn:¬S' p)(hs:∀a,S' a→S a):Rep K T H S' d (.ref p):=by
 rcases h with ⟨ds,xs,rfl,rfl,r⟩|⟨ds,xs,rfl,rfl,r⟩
 ·unfold Rep;exact⟨p,xs,rfl,hn,hp,aE.gen (aO.mk hs fun _ _ _ e=>e) _ _ r⟩
 ·unfold Rep;exact⟨p,xs,rfl,hn,hp,bC.gen (aO.mk hs fun _ _ _ e=>e) _ _ r⟩
section
variable (K:va)(T:Tx)(H:Hp)(S:Addr→Prop)
def TQ(s:Sl)(o:Option (Option V)):Prop:=match s with
 |.un=>True
 |.im d=>∃v,o=some (some v)∧Rep K T H S d v
 |.mu d=>∃p ob,o=some (some (.ref p))∧S p∧H p=some ob∧lV K T H S d ob
structure RE (ρ:List Sl) (σ:L2.St):Prop where
 dom:∀a,S a→∃o,H a=some o
 len:ρ.length=σ.length
 at_:∀(i:Nat) s,ρ[i]?=some s→TQ K T H S s σ[i]?
def tD(ρ:List Sl)(d:D):TE:=fun σ H Q=>RE K T H S ρ σ∧∀v H',aI H H'→Rep K T H' S d v→Q v H'
def c6(ρ:List Sl)(ds:List D):TA:=fun σ H Q=>RE K T H S ρ σ∧∀vs H',aI H H'→aE K T H' S ds vs→Q vs H'
noncomputable def gc(ρ:List Sl)(b:Bool):TT:=fun σ H Q=>RE K T H S ρ σ∧∀H',aI H H'→Q b H'
def ef(ρ:List Sl)(ds:List D):TE:=fun σ H Q=>RE K T H S ρ σ∧∀p xs H',aI H H'→H p=none→H' p=some (.lst xs)→aE K T (er H' p) S ds xs→Q (.ref p) H'
end
section
variable {K:va}{T:Tx}{H H':Hp}{S S':Addr→Prop}{ρ:List Sl}{σ:L2.St}
theorem TQ.same(k:aI H H'){s:Sl}{o:Option (Option V)}(h:TQ K T H S s o):TQ K T H' S s o:=by
 cases s with
 |un=>trivial
 |im d=>obtain⟨v,e,r⟩:=h;exact⟨v,e,r.same k⟩
 |mu ds=>obtain⟨p,xs,e,n,q,r⟩:=h;exact⟨p,xs,e,n,k _ _ q,r.gen (aO.mk (fun _ z=>z) fun b o _=>k b o)⟩
theorem RE.same(k:aI H H')(h:RE K T H S ρ σ):RE K T H' S ρ σ:=
 ⟨fun a z=>let ⟨o,e⟩:=h.dom a z;⟨o,k a o e⟩,h.len,fun i s e=>(h.at_ i s e).same k⟩
theorem RE.nS(h:RE K T H S ρ σ){a:Addr}(e:H a=none):¬S a:=fun z=>by
 obtain⟨o,q⟩:=h.dom a z;rw[e]at q;cases q
end
theorem PE.mono{X:Cx}{e:Expr}{t t':TE}(h:PE X e t)(m:∀σ H Q,t' σ H Q→t σ H Q):PE X e t':=fun pins s σ H Q I hw=>h pins s σ H Q I (m σ H Q hw)
theorem PT.mono{X:Cx}{e:Expr}{t t':TT}(h:PT X e t)(m:∀σ H Q,t' σ H Q→t σ H Q):PT X e t':=fun pins s σ H Q I hw=>h pins s σ H Q I (m σ H Q hw)
theorem PW.mono{X:Cx}{e:Expr}{t t':TT}(h:PW X e t)(m:∀σ H Q,t' σ H Q→t σ H Q):PW X e t':=fun wh pins s σ H Q I hw=>h wh pins s σ H Q I (m σ H Q hw)
theorem PA.mono{X:Cx}{e:List Expr}{t t':TA}(h:PA X e t)(m:∀σ H Q,t' σ H Q→t σ H Q):PA X e t':=fun pos pins s σ H Q I hw=>h pos pins s σ H Q I (m σ H Q hw)
theorem aI.upd{H:Hp}{p:Addr}{o:HO}(h:H p=none):aI H (upd H p o):=fun b u e=>by rw[aN (bE e h)];exact e
mutual
noncomputable def py:D→PyData
 |.non=>.none
 |.bl b=>.bool b
 |.int i=>.int i
 |.str x=>.str x
 |.lst xs=>.list (ck xs)
 |.tup xs=>.tuple (ck xs)
 |.obj _ _=>.none
 |.exc _=>.none
 |.dct _=>.none
 |.frz _=>.none
noncomputable def ck:List D→List PyData
 |[]=>[]
 |d::r=>py d::ck r
end
theorem dN{n:Nat}(h:∀d,flat n d=true→(py d).canLay0=true):∀ds:List D,ds.all (flat n)=true→PyData.canLayAll0 (ck ds)=true
 |[],_=>by simp[ck,PyData.canLayAll0]
 |d::ds,e=>by
  rw[all_cons,qv]at e;simp only[ck,PyData.canLayAll0,qv];exact⟨h d e.1,dN h ds e.2⟩
theorem canLay:∀(n:Nat) (d:D),flat n d=true→(py d).canLay0=true
 |n,.non,_=>by simp[py,PyData.canLay0]
 |n,.bl _,_=>by simp[py,PyData.canLay0]
 |n,.int _,_=>by simp[py,PyData.canLay0]
 |n,.str x,h=>by
  have e:okS x=true:=by cases n<;>simpa [flat] using h
  simp only[py,PyData.canLay0];exact e
 | 0,.lst _,h=>by simp[flat]at h
 | 0,.tup _,h=>by simp[flat]at h
 |n+1,.lst xs,h=>by
  simp only[py,PyData.canLay0];exact dN (canLay n) xs (by simpa [flat] using h)
 |n+1,.tup xs,h=>by
  simp only[py,PyData.canLay0];exact dN (canLay n) xs (by simpa [flat] using h)
 |n,.obj _ _,h=>by cases n<;>simp[flat]at h
 |n,.exc _,h=>by cases n<;>simp[flat]at h
 |n,.dct _,h=>by cases n<;>simp[flat]at h
 |n,.frz _,h=>by cases n<;>simp[flat]at h
theorem lS{n:Nat}(h:∀d,flat n d=true→(py d).depth≤n):∀ds:List D,ds.all (flat n)=true→PyData.depthAll (ck ds)≤n
 |[],_=>by simp[ck,PyData.depthAll]
 |d::ds,e=>by
  rw[all_cons,qv]at e;simp only[ck,PyData.depthAll];exact Nat.max_le.mpr ⟨h d e.1,lS h ds e.2⟩
theorem oI:∀(n:Nat) (d:D),flat n d=true→(py d).depth≤n
 |n,.non,_=>by simp[py,PyData.depth]
 |n,.bl _,_=>by simp[py,PyData.depth]
 |n,.int _,_=>by simp[py,PyData.depth]
 |n,.str x,h=>by simp[py,PyData.depth]
 | 0,.lst _,h=>by simp[flat]at h
 | 0,.tup _,h=>by simp[flat]at h
 |n+1,.lst xs,h=>by
  simp only[py,PyData.depth];exact Nat.succ_le_succ (lS (oI n) xs (by simpa [flat] using h))
 |n+1,.tup xs,h=>by
  simp only[py,PyData.depth];exact Nat.succ_le_succ (lS (oI n) xs (by simpa [flat] using h))
 |n,.obj _ _,h=>by simp[py,PyData.depth]
 |n,.exc _,h=>by simp[py,PyData.depth]
 |n,.dct _,h=>by simp[py,PyData.depth]
 |n,.frz _,h=>by simp[py,PyData.depth]
theorem CK{n:Nat}(h:∀d e,flat n d=true→flat n e=true→b6 d e=PyData.eqv (py d) (py e)):∀ds es:List D,ds.all (flat n)=true→es.all (flat n)=true→jX ds es=PyData.eqvAll (ck ds) (ck es)
 |[],[],_,_=>by simp[jX,ck,PyData.eqvAll]
 |[],_::_,_,_=>by simp[jX,ck,PyData.eqvAll]
 |_::_,[],_,_=>by simp[jX,ck,PyData.eqvAll]
 |d::ds,e::es,a,b=>by
  rw[all_cons,qv]at a b;simp only[jX,ck,PyData.eqvAll];rw[h d e a.1 b.1,CK h ds es a.2 b.2]
theorem tQ:∀(n:Nat) (d e:D),flat n d=true→flat n e=true→b6 d e=PyData.eqv (py d) (py e)
 | 0,d,e,a,b=>by
  cases d<;>cases e<;>first|(simp[flat]at a;done)|(simp[flat]at b;done)|simp[b6,py,PyData.eqv]
 |n+1,d,e,a,b=>by
  cases d<;>cases e<;>first
   | (simp[flat]at a;done)
   | (simp[flat]at b;done)
   | (simp only[b6,py,PyData.eqv];exact CK (tQ n) _ _ (by simpa [flat] using a) (by simpa [flat] using b))
   |simp[b6,py,PyData.eqv]
section
variable {X:Cx}{T:Tx}{pins:ve}{σ:L2.St}{H:Hp}{s:Shared}{S:Addr→Prop}
theorem lE{n:Nat}(h:∀d v u,flat n d=true→Rep X.K T H S d v→RelV v u→∃as,Reads s.heap u (py d) as) :
  ∀(ds:List D) (xs:List V) (us:List Value),ds.all (flat n)=true→aE X.K T H S ds xs→aS xs us→∃as,ReadsAll s.heap us (ck ds) as
 |[],xs,us,_,r,v=>by
  unfold aE at r;subst r;cases v;exact⟨_,.nil⟩
 |d::ds,xs,us,e,r,v=>by
  rw[all_cons,qv]at e;unfold aE at r;obtain⟨x,q,rfl,r1,r2⟩:=r;cases v with
  |cons v1 v2 =>
   obtain⟨as,h1⟩:=h d x _ e.1 r1 v1;obtain⟨bs,h2⟩:=lE h ds q _ e.2 r2 v2;exact⟨_,.cons h1 h2⟩
theorem dU(I:Inv X pins σ H s):∀(n:Nat) (d:D) (v:V) (u:Value),flat n d=true→Rep X.K T H S d v→RelV v u→∃as,Reads s.heap u (py d) as
 |n,.non,v,u,_,r,q=>by
  unfold Rep at r;subst r;cases q;exact⟨_,.none⟩
 |n,.bl b,v,u,_,r,q=>by
  unfold Rep at r;subst r;cases q;exact⟨_,.bool b⟩
 |n,.int i,v,u,_,r,q=>by
  unfold Rep at r;subst r;obtain⟨t,rfl⟩:=q;exact⟨_,.int i t⟩
 |n,.str x,v,u,_,r,q=>by
  unfold Rep at r;subst r;obtain⟨t,rfl⟩:=q;exact⟨_,.str x t⟩
 | 0,.lst _,_,_,h,_,_=>by simp[flat]at h
 | 0,.tup _,_,_,h,_,_=>by simp[flat]at h
 |n+1,.lst ds,v,u,h,r,q=>by
  unfold Rep at r;obtain⟨a,xs,rfl,_,e,r⟩:=r;cases q;obtain⟨its,rv,⟨o,k,ho,hc,hd,hs⟩,_⟩:=I.list (SqL.of e);obtain⟨as,ra⟩:=lE (dU I n) ds xs its (by simpa [flat] using h) r rv
  simp only[py];exact⟨_,.list ho hc hs (by simpa using ra)⟩
 |n+1,.tup ds,v,u,h,r,q=>by
  unfold Rep at r;obtain⟨a,xs,rfl,_,e,r⟩:=r;cases q;obtain⟨its,rv,⟨o,ho,hc,k,hs⟩,_⟩:=I.tuple e;obtain⟨as,ra⟩:=lE (dU I n) ds xs its (by simpa [flat] using h) r rv
  simp only[py];exact⟨_,.tuple ho hc hs (by simpa using ra)⟩
 |n,.obj _ _,_,_,h,_,_=>by cases n<;>simp[flat]at h
 |n,.exc _,_,_,h,_,_=>by cases n<;>simp[flat]at h
 |n,.dct _,_,_,h,_,_=>by cases n<;>simp[flat]at h
 |n,.frz _,_,_,h,_,_=>by cases n<;>simp[flat]at h
end
noncomputable def rD(K:va)(T:Tx)(S:Addr→Prop)(o:O2):R2:=fun x y H Q =>
 ∃a b d,(∀a,S a→∃o,H a=some o)∧Rep K T H S a x∧Rep K T H S b y∧ah o a b=some d∧∀v H',aI H H'→Rep K T H' S d v→Q v H'
theorem iY:big≤sizeLine:=by rw[sizeLine_eq];decide
section
variable {X:Cx}{T:Tx}{S:Addr→Prop}
theorem uY{K:va}{H:Hp}{p:Addr}{ds:List D}{xs:List V}(dom:∀a,S a→∃o,H a=some o)(hp:H p=none)(r:aE K T H S ds xs):Rep K T (upd H p (.lst xs)) S (.lst ds) (.ref p):=by
 unfold Rep;exact⟨p,xs,rfl,fun z=>(by obtain⟨o,e⟩:=dom p z;rw[hp]at e;cases e),aM,r.same (aI.upd hp)⟩
theorem fW{K:va}{H:Hp}{p:Addr}{ds:List D}{xs:List V}(dom:∀a,S a→∃o,H a=some o)(hp:H p=none)(r:aE K T H S ds xs):Rep K T (upd H p (.tup xs)) S (.tup ds) (.ref p):=by
 unfold Rep;exact⟨p,xs,rfl,fun z=>(by obtain⟨o,e⟩:=dom p z;rw[hp]at e;cases e),SqT.of aM,r.same (aI.upd hp)⟩
theorem LL{prog:vc}{w:World}{A:Around}{E:vd}{s:Shared}{t b:Addr}{ws:List Value}{Q:vd}(ht:IsTup s.heap t (#[]:Array Value))(hb:IsTup s.heap b ws.toArray)
  (h1:Q (.ref b) s) (hsz:ws.length≤sizeLine):wpAny (model prog w) A (binaryOp .Add (.ref t) (.ref b)) Q E s:=by
 obtain⟨⟨cls,dd,data,sl⟩,ho,hc,n,hd⟩:=id ht;obtain⟨⟨cls2,mw,data2,la⟩,cx,f6,n2,hd2⟩:=id hb;simp only at hc hd f6 hd2;subst hc hd f6 hd2;exact concat_meets ⟨_,ho,rfl⟩ ⟨_,cx,rfl⟩ noFill_tuple_add seq_tuple_add slot_tuple_add entry_tuple_add (args_tuple_add_2 _ _)
   (tuple_addW0 t b #[] ws.toArray n n2 dd mw sl la (by simp)) ⟨ho,cx,h1⟩
theorem QX:ay X (binaryOp .Add) (rD X.K T S .add):=by
 rintro pins s σ H x y v u Q I rx ry ⟨a,b,d,dom,ra,rb,e,q⟩;simp only[ah,RD]at e;split at e
 ·rename_i i j;unfold Rep at ra rb;cases e;exact YW pins s σ H x y v u Q I rx ry ⟨i,j,ra,rb,q _ H (aI.refl H) (by unfold Rep;rfl)⟩
 ·rename_i i j;unfold Rep at ra rb;split at e
  ·rename_i hz;cases e;exact yA pins s σ H x y v u Q I rx ry ⟨i,j,ra,rb,se hz iY,q _ H (aI.refl H) (by unfold Rep;rfl)⟩
  ·cases e
 ·rename_i as bs;unfold Rep at ra rb;obtain⟨l,xs,ex,_,e1,r1⟩:=ra;obtain⟨b,ys,ey,_,e2,r2⟩:=rb;split at e
  ·rename_i hz;cases e;refine IH pins s σ H x y v u Q I rx ry ⟨l,b,xs,ys,ex,ey,e1,e2,?_,fun p hp=>q _ _ (aI.upd hp) (uY dom hp (r1.app r2))⟩
   rw[←r1.len,←r2.len];exact se hz iY
  ·cases e
 ·rename_i as bs;have ra':=ra
  have rb':=rb
  unfold Rep at ra rb;obtain⟨l,xs,ex,_,e1,r1⟩:=ra;obtain⟨b,ys,ey,_,e2,r2⟩:=rb;split at e
  ·rename_i hz;cases e;have dq:xs.length+ys.length≤sizeLine:=by rw[←r1.len,←r2.len];exact se hz iY
   by_cases hx:xs=[]
   ·subst hx ex ey;cases rx;cases ry;have ea:as=[]:=sr.mp r1.len
    subst ea;obtain⟨its,v1,p1,_⟩:=I.tuple e1;obtain⟨c8,v2,p2,z2⟩:=I.tuple e2;cases v1;exact LL p1 p2 ⟨.ref b,H,I,rfl,q _ H (aI.refl H) (by simpa using rb')⟩ (by rw[←v2.length];exact z2)
   ·refine QQ pins s σ H x y v u Q I rx ry ⟨l,b,xs,ys,ex,ey,e1,e2,hx,dq,fun hy=>?_,fun hy p hp=>q _ _ (aI.upd hp) (fW dom hp (r1.app r2))⟩
    subst hy;have eb:bs=[]:=sr.mp r2.len
    subst eb;rw[←ex];exact q _ H (aI.refl H) (by simpa using ra')
  ·cases e
 ·cases e
theorem QS:ay X (binaryOp .Sub) (rD X.K T S .sub):=by
 rintro pins s σ H x y v u Q I rx ry ⟨a,b,d,dom,ra,rb,e,q⟩;simp only[ah,aEf]at e;split at e
 ·rename_i i j;unfold Rep at ra rb;cases e;exact YR pins s σ H x y v u Q I rx ry ⟨i,j,ra,rb,q _ H (aI.refl H) (by unfold Rep;rfl)⟩
 ·cases e
theorem QU:ay X (binaryOp .Mult) (rD X.K T S .mul):=by
 rintro pins s σ H x y v u Q I rx ry ⟨a,b,d,dom,ra,rb,e,q⟩;simp only[ah,aEg]at e;split at e
 ·rename_i i j;unfold Rep at ra rb;split at e
  ·rename_i hz;cases e;exact YT pins s σ H x y v u Q I rx ry ⟨i,j,ra,rb,hz,q _ H (aI.refl H) (by unfold Rep;rfl)⟩
  ·cases e
 ·cases e
theorem II:ay X (binaryOp .FloorDiv) (rD X.K T S .fdiv):=by
 rintro pins s σ H x y v u Q I rx ry ⟨a,b,d,dom,ra,rb,e,q⟩;simp only[ah,oDiv]at e;split at e
 ·rename_i i j;unfold Rep at ra rb;split at e
  ·rename_i hz;cases e;exact QP pins s σ H x y v u Q I rx ry ⟨i,j,ra,rb,hz,q _ H (aI.refl H) (by unfold Rep;rfl)⟩
  ·cases e
 ·cases e
theorem QV:ay X (binaryOp .Mod) (rD X.K T S .mod):=by
 rintro pins s σ H x y v u Q I rx ry ⟨a,b,d,dom,ra,rb,e,q⟩;simp only[ah,oMod]at e;split at e
 ·rename_i i j;unfold Rep at ra rb;split at e
  ·rename_i hz;cases e;exact YU pins s σ H x y v u Q I rx ry ⟨i,j,ra,rb,hz,q _ H (aI.refl H) (by unfold Rep;rfl)⟩
  ·cases e
 ·cases e
theorem QT:ay X (binaryOp .Pow) (rD X.K T S .pow):=by
 rintro pins s σ H x y v u Q I rx ry ⟨a,b,d,dom,ra,rb,e,q⟩;simp only[ah,RC]at e;split at e
 ·rename_i i j;unfold Rep at ra rb;split at e
  ·rename_i hz;cases e;exact YS pins s σ H x y v u Q I rx ry ⟨i,j,ra,rb,⟨hz.1,by lia,hz.2.2⟩,q _ H (aI.refl H) (by unfold Rep;rfl)⟩
  ·cases e
 ·cases e
theorem QW{op:Operator}{o:O2}(h:QR op=some o):ay X (binaryOp op) (rD X.K T S o):=by
 cases op<;>simp only[QR]at h<;>first|(cases h;done)|(cases h;first|exact QX|exact QS|exact QU|exact II|exact QV|exact QT)
theorem bS{K:va}{H:Hp}{b:Bool}:Rep K T H S (.bl b) (.bl b):=by unfold Rep;rfl
theorem YY:ay X (compareOp .Lt) (rD X.K T S .lt):=by
 rintro pins s σ H x y v u Q I rx ry ⟨a,b,d,dom,ra,rb,e,q⟩;simp only[ah,oLt]at e;split at e
 ·rename_i i j;unfold Rep at ra rb;cases e;exact aDw pins s σ H x y v u Q I rx ry ⟨i,j,ra,rb,q _ H (aI.refl H) bS⟩
 ·cases e
theorem YZ:ay X (compareOp .LtE) (rD X.K T S .le):=by
 rintro pins s σ H x y v u Q I rx ry ⟨a,b,d,dom,ra,rb,e,q⟩;simp only[ah,oLe]at e;split at e
 ·rename_i i j;unfold Rep at ra rb;cases e;exact aDx pins s σ H x y v u Q I rx ry ⟨i,j,ra,rb,q _ H (aI.refl H) bS⟩
 ·cases e
theorem ZD:ay X (compareOp .Gt) (rD X.K T S .gt):=by
 rintro pins s σ H x y v u Q I rx ry ⟨a,b,d,dom,ra,rb,e,q⟩;simp only[ah,oGt]at e;split at e
 ·rename_i i j;unfold Rep at ra rb;cases e;exact aDy pins s σ H x y v u Q I rx ry ⟨i,j,ra,rb,q _ H (aI.refl H) bS⟩
 ·cases e
theorem ZE:ay X (compareOp .GtE) (rD X.K T S .ge):=by
 rintro pins s σ H x y v u Q I rx ry ⟨a,b,d,dom,ra,rb,e,q⟩;simp only[ah,oGe]at e;split at e
 ·rename_i i j;unfold Rep at ra rb;cases e;exact aDz pins s σ H x y v u Q I rx ry ⟨i,j,ra,rb,q _ H (aI.refl H) bS⟩
 ·cases e
theorem UE{A:Around}(hu:A.units+64<cLine){d e:D}(hd:plain d=true):A.units+min (py d).depth (py e).depth<cLine:=by
 have h1:=oI 8 d hd
 have h2:min (py d).depth (py e).depth≤(py d).depth:=Nat.min_le_left _ _
 lia
theorem ZF(hu:X.A.units+64<cLine):ay X (compareOp .Eq) (rD X.K T S .eq):=by
 rintro pins s σ H x y v u Q I rx ry ⟨a,b,d,dom,ra,rb,e,q⟩;simp only[ah,oEq]at e;split at e
 ·rename_i hp;rw[qv]at hp;cases e;obtain⟨as,h1⟩:=dU I 8 a x v hp.1 ra rx;obtain⟨bs,h2⟩:=dU I 8 b y u hp.2 rb ry;refine SeqAt.compareEq_reads h1 h2 (canLay 8 a hp.1) (canLay 8 b hp.2) (UE hu hp.1) ⟨.bl _,H,I,rfl,?_⟩;rw[←tQ 8 a b hp.1 hp.2];exact q _ H (aI.refl H) bS
 ·cases e
theorem YX(hu:X.A.units+64<cLine):ay X (compareOp .NotEq) (rD X.K T S .ne):=by
 rintro pins s σ H x y v u Q I rx ry ⟨a,b,d,dom,ra,rb,e,q⟩;simp only[ah,oNe]at e;split at e
 ·rename_i hp;rw[qv]at hp;cases e;obtain⟨as,h1⟩:=dU I 8 a x v hp.1 ra rx;obtain⟨bs,h2⟩:=dU I 8 b y u hp.2 rb ry;refine SeqAt.compareNe_reads h1 h2 (canLay 8 a hp.1) (canLay 8 b hp.2) (UE hu hp.1) ⟨.bl _,H,I,rfl,?_⟩;rw[←tQ 8 a b hp.1 hp.2];exact q _ H (aI.refl H) bS
 ·cases e
theorem oS(a:D)(ha:plain a=true):∀ds:List D,ds.all plain=true→((ck ds).any fun y=>PyData.eqv y (py a))=ds.any fun y=>b6 y a
 |[],_=>by simp[ck]
 |d::ds,h=>by
  rw[all_cons,qv]at h;simp only[ck,any_cons];rw[oS a ha ds h.2,tQ 8 d a h.1 ha]
theorem ZC(hu:X.A.units+64<cLine):ay X (compareOp .In) (rD X.K T S .isin):=by
 rintro pins s σ H x y v u Q I rx ry ⟨a,b,d,dom,ra,rb,e,q⟩;have go:∀(ds:List D),plain a=true→ds.all plain=true→X.A.units+1+min (PyData.depthAll (ck ds)) (py a).depth<cLine:=fun ds h1 h2=>by
  have h3:=oI 8 a h1
  have h4:min (PyData.depthAll (ck ds)) (py a).depth≤(py a).depth:=min_le_right _ _
  lia
 simp only[ah,oIn]at e;split at e
 ·rename_i ds;split at e
  ·rename_i hp;rw[qv]at hp;cases e;obtain⟨as,h1⟩:=dU I 8 a x v hp.1 ra rx;obtain⟨bs,h2⟩:=dU I 9 (.lst ds) y u (by show ds.all (flat 8)=true;exact hp.2) rb ry
   simp only[py]at h2;refine SeqAt.in_list_reads h2 h1 (dN (canLay 8) ds hp.2) (canLay 8 a hp.1) (go ds hp.1 hp.2) ⟨.bl _,H,I,rfl,?_⟩;rw[oS a hp.1 ds hp.2];exact q _ H (aI.refl H) bS
  ·cases e
 ·rename_i ds;split at e
  ·rename_i hp;rw[qv]at hp;cases e;obtain⟨as,h1⟩:=dU I 8 a x v hp.1 ra rx;obtain⟨bs,h2⟩:=dU I 9 (.tup ds) y u (by show ds.all (flat 8)=true;exact hp.2) rb ry
   simp only[py]at h2;refine SeqAt.in_tuple_reads h2 h1 (dN (canLay 8) ds hp.2) (canLay 8 a hp.1) (go ds hp.1 hp.2) ⟨.bl _,H,I,rfl,?_⟩;rw[oS a hp.1 ds hp.2];exact q _ H (aI.refl H) bS
  ·cases e
 ·cases e
theorem EC(hu:X.A.units+64<cLine):ay X (compareOp .NotIn) (rD X.K T S .notin):=by
 rintro pins s σ H x y v u Q I rx ry ⟨a,b,d,dom,ra,rb,e,q⟩;have go:∀(ds:List D),plain a=true→ds.all plain=true→X.A.units+1+min (PyData.depthAll (ck ds)) (py a).depth<cLine:=fun ds h1 h2=>by
  have h3:=oI 8 a h1
  have h4:min (PyData.depthAll (ck ds)) (py a).depth≤(py a).depth:=min_le_right _ _
  lia
 simp only[ah,IU]at e;split at e
 ·rename_i ds;split at e
  ·rename_i hp;rw[qv]at hp;cases e;obtain⟨as,h1⟩:=dU I 8 a x v hp.1 ra rx;obtain⟨bs,h2⟩:=dU I 9 (.lst ds) y u (by show ds.all (flat 8)=true;exact hp.2) rb ry
   simp only[py]at h2;refine SeqAt.notIn_list_reads h2 h1 (dN (canLay 8) ds hp.2) (canLay 8 a hp.1) (go ds hp.1 hp.2) ⟨.bl _,H,I,rfl,?_⟩;rw[oS a hp.1 ds hp.2];exact q _ H (aI.refl H) bS
  ·cases e
 ·rename_i ds;split at e
  ·rename_i hp;rw[qv]at hp;cases e;obtain⟨as,h1⟩:=dU I 8 a x v hp.1 ra rx;obtain⟨bs,h2⟩:=dU I 9 (.tup ds) y u (by show ds.all (flat 8)=true;exact hp.2) rb ry
   simp only[py]at h2;refine SeqAt.notIn_tuple_reads h2 h1 (dN (canLay 8) ds hp.2) (canLay 8 a hp.1) (go ds hp.1 hp.2) ⟨.bl _,H,I,rfl,?_⟩;rw[oS a hp.1 ds hp.2];exact q _ H (aI.refl H) bS
  ·cases e
 ·cases e
theorem ZA:ay X (compareOp .Is) (rD X.K T S .is):=by
 rintro pins s σ H x y v u Q I rx ry ⟨a,b,d,dom,ra,rb,e,q⟩;have go:∀k,b=.non→k=decide (x=V.non)→d=.bl k→wpAny (model X.prog X.w) X.A (compareOp .Is v u) (EP X pins σ Q) X.xe s:=fun k hb hk hd=>by
  subst hb hd hk;unfold Rep at rb;exact YV pins s σ H x y v u Q I rx ry ⟨rb,q _ H (aI.refl H) bS⟩
 simp only[ah,oIs,isD]at e;split at e<;>simp only[ud,Option.map_none,qg,reduceCtorEq]at e
 all_goals subst e
 all_goals first
  | (unfold Rep at ra;refine go _ rfl ?_ rfl;first|(subst ra;rfl)|(obtain⟨_,_,rfl,_⟩:=ra;rfl)|(obtain⟨_,_,_,_,rfl,_⟩:=ra;rfl))
  | (unfold Rep at ra rb
     subst ra rb;cases rx;cases ry;exact is_bool ⟨.bl _,H,I,rfl,q _ H (aI.refl H) bS⟩)
end
structure Fly (P:vc) (w:World) (l:List Env) (H:Hp) (s:Shared) (B:Heap) (a:Addr) (cls a0:Value) (H':Hp) (s':Shared):Prop where
 os:s'.os=s.os
 bare:AllBare s'.gens
 un:Un (frs l) [] H H' s.heap s'.heap
 hok:HOk P w H' s'.heap
 fly:Heap.FlyingW B l a cls a0 s'.heap
 new:H' a=none
 old:s.heap.get? a=none
 frf:∀b∈frs l,H' b=none
 cov:∀b o,s'.heap.get? b=some o→b∉frs l→((∃u,H' b=some u)∨∃o',s.heap.get? b=some o')→B.get? b=some o
noncomputable def gK(P:vc)(w:World):au:=fun l H s E e s'=>∃a cls a0 B H',e=.ref a∧Fly P w l H s B a cls a0 H' s'∧E cls none H'
theorem UV{P:vc}{w:World}:∀outer H s e s',gK P w outer H s E0 e s'→False:=fun _ _ _ _ _ ⟨_,_,_,_,_,_,_,h⟩=>h
section
variable {P:vc}{w:World}{l:List Env}{H H':Hp}{s s':Shared}{B:Heap}{a:Addr}{cls a0:Value}
theorem jH{h:Heap}{b:Addr}:∀{o:HO},bZ P w H h b o→∃u,h.get? b=some u:=by
 intro o x;cases o with
 |lst xs=>obtain⟨_,_,_,_,e⟩:=x;exact⟨_,e⟩
 |tup xs=>obtain⟨_,_,_,ob,e,_⟩:=x;exact⟨_,e⟩
 |dK kvs=>obtain⟨_,_,_,_,o,_,_,e,_⟩:=x;exact⟨_,e⟩
 |dT kvs=>obtain⟨_,_,_,_,o,_,_,e,_⟩:=x;exact⟨_,e⟩
 |set S n=>obtain⟨o,_,_,_,e,_⟩:=x;exact⟨_,e⟩
 |ins C dx fs=>obtain⟨_,_,_,e,_⟩:=x;exact⟨_,e⟩
 |own y=>obtain⟨_,e⟩:=x;exact⟨_,e⟩
 |xd fs=>obtain⟨_,⟨_,_,_,e,_⟩,_⟩:=x;exact⟨_,e⟩
 |rng lo hi=>obtain⟨_,_,_,e⟩:=x;exact⟨_,e⟩
 |frz ob u=>obtain⟨e,_⟩:=x;exact⟨_,e⟩
 |tbl ps=>exact⟨_,(show h.get? b=some _ from x)⟩
 |met f y=>exact⟨_,(show h.get? b=some _ from x)⟩
 |ext φ=>obtain⟨_,⟨_,e⟩,_⟩:=x;exact⟨_,e⟩
theorem rE{fs:List Addr}{h0 h1 h2:Heap}(u:Un fs [] H H' h0 h1)(keep:∀b o,h1.get? b=some o→(∃o',h0.get? b=some o')→b∉fs→h2.get? b=some o)
  (slot:∀b o,h1.get? b=some o→b∈fs→∃sl,h2.get? b=some { o with slots:=sl }):Un fs [] H H' h0 h2 where
 keep b o e n hb hx:=keep b o (u.keep b o e n hb hx) ⟨o,e⟩ hb
 slot b o e n hb hx:=by
  obtain⟨sl,e1⟩:=u.slot b o e n hb hx;obtain⟨la,e2⟩:=slot b _ e1 hb;exact⟨la,e2⟩
 free:=u.free
 there b o e hx:=by
  obtain⟨o',e1⟩:=u.there b o e hx
  by_cases hb:b∈fs
  ·obtain⟨sl,e2⟩:=slot b _ e1 hb;exact⟨_,e2⟩
  ·exact⟨_,keep b o' e1 ⟨o,e⟩ hb⟩
 tups:=u.tups
 frzs:=u.frzs
 tbls:=u.tbls
theorem nT{h1 h2:Heap}(ok:HOk P w H h1)(keep:∀b o u,H b=some u→h1.get? b=some o→h2.get? b=some o):HOk P w H h2:=fun b u e =>
 (ok b u e).stay (fun c v hc q=>by
  rcases hc with rfl|hc
  ·exact keep _ v u e q
  ·exact keep _ v _ hc q) (fun _ q=>q) fun _ _ q=>q
theorem Fly.move(F:Fly P w l H s B a cls a0 H' s'){h2:Heap}(fl:Heap.FlyingW B l a cls a0 h2)(up:s'.heap.UpToSlots h2):Fly P w l H s B a cls a0 H' { s' with heap:=h2 }:=by
 have keep:∀b o,s'.heap.get? b=some o→((∃u,H' b=some u)∨∃o',s.heap.get? b=some o')→b∉frs l→h2.get? b=some o:=fun b o e t nb=>fl.1 b o (F.cov b o e nb t)
 have tr:∀b u,H' b=some u→b∉frs l:=fun b u e z=>by rw[F.frf b z]at e;cases e
 refine⟨F.os,F.bare,rE F.un (fun b o e t nb=>keep b o e (.inr t) nb) (fun b o e hb=>?_),nT F.hok fun b o u e q=>keep b o q (.inl ⟨u,e⟩) (tr b u e),fl,F.new,F.old,F.frf,fun b o e nb t=>?_⟩
 ·obtain⟨_,o2,e2,nf⟩:=F.fly.2.2.1.mem hb;rw[e]at e2;cases e2;exact up b o e nf
 ·have:∃o1,s'.heap.get? b=some o1:=by
   rcases t with ⟨u,e1⟩|⟨o',e1⟩
   ·exact jH (F.hok b u e1)
   ·exact F.un.there b o' e1 (by simp)
  obtain⟨o1,e1⟩:=this;have e2:=keep b o1 e1 t nb
  have e:h2.get? b=some o:=e
  rw[e2]at e;cases e;exact F.cov b _ e1 nb t
end
section
variable {X:Cx}{pins:ve}{σ:L2.St}{H H':Hp}{s s':Shared}{B:Heap}{a:Addr}{cls a0:Value}
theorem Fly.inv(I:Inv X pins σ H s)(F:Fly X.prog X.w X.stack H s B a cls a0 H' s'):Inv X pins σ H' s':=I.call' F.os F.un F.hok F.bare fun b z=>absurd z (by simp)
theorem Fly.up{env:Env}{outer:List Env}(I:Inv X pins σ H s)(dz:X.stack=env::outer)(oo:X.outer=outer)(hex:X.ex=[])(aw:env.frame=some X.env.locals)(F:Fly X.prog X.w X.stack H s B a cls a0 H' s'){h2:Heap}(fl:Heap.FlyingW B outer a cls a0 h2)(up:s'.heap.UpToSlots h2) :
  Fly X.prog X.w outer X.H₀ X.s₀ B a cls a0 H' { s' with heap:=h2 }:=by
 have J:=F.inv I
 have km:frs X.stack=X.env.locals::frs outer:=by
  rw[dz];unfold frs;rw[List.filterMap_cons,aw]
 have olds:∀b o,X.s₀.heap.get? b=some o→b≠X.env.locals:=fun b o e=>tj (qz (rq e) I.ok.above)
 have tr:∀b u,H' b=some u→b∉frs X.stack:=fun b u e z=>by rw[F.frf b z]at e;cases e
 have old1:∀b o,X.s₀.heap.get? b=some o→∃o',s.heap.get? b=some o':=fun b o e=>I.base.there b o e (by rw[hex];simp)
 have ns:∀b,b∉frs outer→b≠X.env.locals→b∉frs X.stack:=fun b h1 h2 z=>by
  rw[km]at z
  rcases sg.mp z with z|z
  ·exact h2 z
  ·exact h1 z
 have k7:Un (frs outer) [] X.H₀ H' X.s₀.heap s'.heap:=by
  have:=J.base
  rw[hex]at this;unfold Cx.fs at this;rw[oo]at this;exact this
 refine⟨J.os,F.bare,rE k7 (fun b o e t nb=>?_) (fun b o e hb=>?_),nT F.hok fun b o u e q=>fl.1 b o (F.cov b o q (tr b u e) (.inl ⟨u,e⟩)),fl,F.new,?_,fun b hb=>F.frf b (by rw[km];exact qt _ hb),fun b o e nb t=>?_⟩
 ·obtain⟨o',e'⟩:=t;exact fl.1 b o (F.cov b o e (ns b nb (olds b o' e')) (.inr (old1 b o' e')))
 ·obtain⟨_,o2,e2,nf⟩:=F.fly.2.2.1.mem (show b∈frs X.stack by rw[km];exact qt _ hb)
  rw[e]at e2;cases e2;exact up b o e nf
 ·cases e:X.s₀.heap.get? a with
  |none=>rfl
  |some o =>
   obtain⟨o',e'⟩:=old1 a o e;rw[F.old]at e';cases e'
 ·have e:h2.get? b=some o:=e
  rcases t with ⟨u,e1⟩|⟨o',e1⟩
  ·obtain⟨o1,q⟩:=jH (F.hok b u e1);have c:=F.cov b o1 q (tr b u e1) (.inl ⟨u,e1⟩)
   have:=fl.1 b o1 c
   rw[e]at this;cases this;exact c
  ·obtain⟨o1,q⟩:=k7.there b o' e1 (by simp)
   have c:=F.cov b o1 q (ns b nb (olds b o' e1)) (.inr (old1 b o' e1))
   have:=fl.1 b o1 c
   rw[e]at this;cases this;exact c
end
noncomputable def fj:List Value:=[.type "ValueError",.type "Exception",.type "BaseException",.type "object"]
noncomputable def eI(K:va)(C:Addr)(v:Value):Bool:=match K.lookup C with
 |some ⟨_,_,.cls cd,_⟩=>cd.mro.contains v
 |_=>false
theorem uF{K:va}{C:Addr}(q:excIn K C fj "ValueError.__new__" = true):∃nm qn N bs bm hdct sn sub ab col dd k0 k1 k2 k3 k5,
  K.lookup C=some (excClassObj nm qn C N bs bm hdct sn sub ab col dd k0 k1 k2 k3 k5 "ValueError.__new__")∧PySem.W.tailIn K fj bm=true∧PySem.W.nsOkIn K N=true∧nsIn K N "__init__" = some none∧∀v,eI K C v=(Value.ref C::bm).contains v:=by
 unfold excIn at q;split at q
 ·rename_i dd cd sl ho;split at q
  ·rename_i C' bm k0 k1 k2 k3 n k5 hm hs;simp only[qv,t7,Bool.not_eq_true']at q;obtain⟨⟨⟨⟨⟨rfl,rfl⟩,hdel⟩,ht⟩,hok⟩,hni⟩:=q;obtain⟨nm,bs,mro,ns,qn,hd,sn,sub,ab,col,del⟩:=cd;dsimp only at hm hdel hok hni;subst hm hdel;have i9:sl=#[k0,k1,k2,k3,some (.builtin "ValueError.__new__"),k5]:=by
    obtain⟨l⟩:=sl;simp only at hs;rw[hs]
   subst i9;refine⟨nm,qn,ns,bs,bm,hd,sn,sub,ab,col,dd,k0,k1,k2,k3,k5,ho,ht,hok,hni,fun v=>?_⟩
   unfold eI;rw[ho]
  ·cases q
 ·cases q
theorem HN{X:Cx}{x m:Str}{j:Nat}{p p' q pos:Pos}{C:Addr}{W:Hp→Prop}(hc:X.calm=true)(hg:Gl X x)(fe:(x == ("__debug__":Str))=false)(hm:X.mg x=some (.ref C))(hx:excIn X.K C fj "ValueError.__new__" = true)
  (hw:∀pins σ H s h' e vs,Inv X pins σ H s→Heap.MadeExcOf s.heap h' e (.ref C) vs→W H→X.xe (.ref e) { s with heap:=h' }) :
  PS X (.Raise (some (.Call (.Name x p) [.Constant (.str m) j p'] [] q)) none pos) (fun D σ H=>W H):=by
 intro pins s σ H D I hW;obtain⟨nm,qn,N,bs,bm,hdct,sn,sub,ab,col,dd,k0,k1,k2,k3,k5,ho,ht,hok,hni,_⟩:=uF hx;have T:OwnTail s.heap fj bm:=tail_of_in I.kIn ht
 have hN:s.heap.Ns N (s.heap.nsMap N):=.of_isNs (PySem.W.isNs_of_in I.kIn hok)
 have hni':(s.heap.nsMap N) "__init__" = none:=PySem.W.nsMap_none_of_in I.kIn hok hni
 have hC:=I.kIn _ _ ho
 refine wpAny_Raise_call_subT (C:=C) (nm:=nm) (q:=qn) (N:=N) (bs:=bs) (bm:=bm) (hdct:=hdct) (sn:=sn) (sub:=sub) (ab:=ab) (col:=col) (dd:=dd) (k0:=k0) (k1:=k1) (k2:=k2) (k3:=k3) (k5:=k5)
  PySem.F.excBase_ValueError (mN:=s.heap.nsMap N) (T.hasType PySem.F.excBase_ValueError.hasBase) (I.ok.hd hc) rfl hni' (dZ I hg hm ⟨rfl,?_⟩ fe)
 exact Calls.evalArgs_plain (Calls.spliced_cons (Calls.Constant_str (k:=j) (pos:=p') (Calls.spliced_nil ⟨rfl,by show 1≤sizeLine;rw[sizeLine_eq];decide,hC,hN,T,fun h' e hm=>hw pins σ H { s with toks:=s.toks+1 } h' e _ (I.tok _) hm hW⟩)))
section
variable {P:vc}{w:World}{K:va}{mg:vf}{base:Heap}{N:List Str}{qual:Str}{sc:Scope}{f:Addr}{cd:Value}{A:Around}{outer:List Env}{s:Shared}{H:Hp}{E:XK}
theorem yK{pins:ve}{σ:L2.St}{H1:Hp}{s1:Shared}{h':Heap}{e:Addr}{cls:Value}{vs:List Value}(I:Inv (kU (gK P w) P w K mg base N qual sc f cd A outer s H E) pins σ H1 s1)(hm:Heap.MadeExcOf s1.heap h' e cls vs)(hE:E cls none H1) :
  (kU (gK P w) P w K mg base N qual sc f cd A outer s H E).xe (.ref e) { s1 with heap:=h' }:=by
 have dz:=I.stack
 have aw:∀b∈frs (envOfC qual sc s.heap.objs.size f cd::outer),H1 b=none:=I.stkFree
 have km:frs (envOfC qual sc s.heap.objs.size f cd::outer)=s.heap.objs.size::frs outer:=rfl
 have tr:∀b u,H1 b=some u→b∉frs (envOfC qual sc s.heap.objs.size f cd::outer):=fun b u e z=>by rw[aw b z]at e;cases e
 have ns:∀b o,s.heap.get? b=some o→b∉frs outer→b∉frs (envOfC qual sc s.heap.objs.size f cd::outer):=fun b o e h1 z=>by
  rw[km]at z
  rcases sg.mp z with z|z
  ·exact absurd (rq e) (by rw[z];exact u0 _)
  ·exact h1 z
 have k7:Un (frs outer) [] H H1 s.heap s1.heap:=I.base
 refine wpAny_leaves_madeW (base:=hideAll s1.heap (frs (envOfC qual sc s.heap.objs.size f cd::outer))) (L:=s.heap.objs.size) (outer:=outer) I.ok.frames rfl (fun b o q=>PySem.W.of_hideAll _ q)
  (PySem.W.funFrames_hide dz fun env he b hb=>mem_filterMap.mpr ⟨env,he,hb⟩) hm fun h2 t x1 x2 x3 x4=>⟨e,cls,.ref t,hideAll s1.heap (frs (envOfC qual sc s.heap.objs.size f cd::outer)),H1,rfl,?_,hE⟩
 have inB:∀b o,s1.heap.get? b=some o→b∉frs (envOfC qual sc s.heap.objs.size f cd::outer)→(hideAll s1.heap (frs (envOfC qual sc s.heap.objs.size f cd::outer))).get? b=some o:=fun b o q n=>PySem.W.hideAll_get _ q n
 refine⟨I.os,I.bare,rE k7 (fun b o e t nb=>?_) (fun b o e hb=>?_),nT I.hok fun b o u e q=>x1.1 b o (inB b o q (tr b u e)),x1,?_,?_,fun b hb=>aw b (by rw[km];exact qt _ hb),fun b o e nb t=>?_⟩
 ·obtain⟨o',e'⟩:=t;exact x1.1 b o (inB b o e (ns b o' e' nb))
 ·obtain⟨_,o2,e2,nf⟩:=dz.mem (show b∈frs (envOfC qual sc s.heap.objs.size f cd::outer) by rw[km];exact qt _ hb)
  rw[e]at e2;cases e2;exact x4 b o (hm.keeps b o e) nf
 ·cases q:H1 e with
  |none=>rfl
  |some u =>
   obtain⟨o,q2⟩:=jH (I.hok e u q);rw[hm.new]at q2;cases q2
 ·cases q:s.heap.get? e with
  |none=>rfl
  |some u =>
   obtain⟨o,q2⟩:=k7.there e u q (by simp)
   rw[hm.new]at q2;cases q2
 ·have e:h2.get? b=some o:=e
  rcases t with ⟨u,e1⟩|⟨o',e1⟩
  ·obtain⟨o1,q⟩:=jH (I.hok b u e1);have c:=inB b o1 q (tr b u e1)
   have:=x1.1 b o1 c
   rw[e]at this;cases this;exact c
  ·obtain⟨o1,q⟩:=k7.there b o' e1 (by simp)
   have c:=inB b o1 q (ns b o' e1 nb)
   have:=x1.1 b o1 c
   rw[e]at this;cases this;exact c
theorem QK{E1:XK}(hE:∀cls H',E1 cls none H'→E cls none H'):fT (gK P w) (kU (gK P w) P w K mg base N qual sc f cd A outer s H E) E1:=by
 rintro pins σ H1 s1 e s' I ⟨a,cls,a0,B,H',rfl,F,q⟩;exact wpAny_leaves_onW (L:=s.heap.objs.size) (outer:=outer) I.ok.frames rfl F.fly fun h2 x1 x2=>⟨a,cls,a0,B,H',rfl,Fly.up (env:=envOfC qual sc s.heap.objs.size f cd) I rfl rfl rfl rfl F x1 x2,hE _ _ q⟩
end
abbrev fR(X:Cx)(a:Addr):Cx:={ X with A:=X.A.mark (some (.ref a)),calm:=false,xe:=fun _ _=>False }
section
variable {X:Cx}{pins:ve}{σ:L2.St}{H H':Hp}{s s':Shared}{B:Heap}{a:Addr}{cls a0:Value}
theorem ZH(ok:X.Ok)(a:Addr):(fR X a).Ok:=⟨ok.mod,ok.kind,ok.glob,ok.blt,ok.above,ok.inj,ok.has,ok.cab,(fun z=>by cases z),ok.frames,ok.stk,ok.exf,ok.bs,ok.bsz,ok.noex,ok.exfs,ok.funs,ok.frf⟩
theorem mW(I:Inv X pins σ H s)(a:Addr):Inv (fR X a) pins σ H s:=⟨ZH I.ok a,I.os,I.bare,I.base,I.loc,I.cell,I.free,I.freeC,I.pin,I.hok,I.len⟩
theorem EY(ok:X.Ok)(I:Inv (fR X a) pins σ H s):Inv X pins σ H s:=⟨ok,I.os,I.bare,I.base,I.loc,I.cell,I.free,I.freeC,I.pin,I.hok,I.len⟩
theorem RX{h':Heap}{t:Nat}{m':vf}(I:Inv X pins σ H s)(hn:h'.Ns X.env.locals m')(hs:Heap.SameBut X.env.locals s.heap h'):Inv X pins (List.replicate X.N.length none) H { s with heap:=h',toks:=t }:=by
 obtain⟨m,hn0,hl⟩:=id I.loc;obtain⟨oL,_,_,hoL,_⟩:=id hn0;have cne:=I.cne
 have old:∀b o,X.s₀.heap.get? b=some o→b≠X.env.locals:=fun b o e=>tj (qz (rq e) I.ok.above)
 have tracked:HOk X.prog X.w H h':=fun b ob e=>by
  refine(I.hok b ob e).stay (fun c w' hc q=>(hs.2 c ?_).trans q) (fun _ q=>q) fun _ _ q=>q
  rintro rfl
  rcases hc with hc|hc
  ·rw[←hc,I.free]at e;cases e
  ·rw[I.free]at hc;cases hc
 refine⟨I.ok,I.os,I.bare,⟨fun b o e n hb hx=>?_,fun b o e n hb hx=>?_,I.base.free,fun b o e hx=>?_,I.base.tups,I.base.frzs,I.base.tbls⟩,⟨m',hn,fun j y v' e1 e2 e3=>?_⟩,fun y c e=>?_,I.free,I.freeC,fun p hp=>?_,tracked,by simp⟩
 ·exact(hs.2 b (old b o e)).trans (I.base.keep b o e n hb hx)
 ·obtain⟨sl,e1⟩:=I.base.slot b o e n hb hx;exact⟨sl,(hs.2 b (old b o e)).trans e1⟩
 ·obtain⟨o',e1⟩:=I.base.there b o e hx;exact⟨o',(hs.2 b (old b o e)).trans e1⟩
 ·rw[getElem?_replicate]at e2;split at e2<;>cases e2
 ·obtain⟨w',z⟩:=I.cell y c e;exact⟨w',z.sameBut hs (cne y c e)⟩
 ·obtain⟨e,n,ne,nf,d⟩:=I.pin p hp;exact⟨(hs.2 p.1 ne).trans e,n,ne,nf,d⟩
def isExc(a C:Addr)(h:Heap):Prop:=∃o,h.get? a=some o∧o.cls=.ref C
theorem Fly.track{C:Addr}(I:Inv X pins σ H s)(F:Fly X.prog X.w X.stack H s B a (.ref C) a0 H' s'):Inv X pins σ (upd H' a (.ext (isExc a C))) s':=by
 obtain⟨o,ho,hc⟩:=F.fly.there;have ne:∀b u,H' b=some u→b≠a:=fun b u e z=>by rw[z,F.new]at e;cases e
 refine I.call' (H':=upd H' a (.ext (isExc a C))) F.os (ch:=[]) ?_ ?_ F.bare fun b z=>absurd z (by simp)
 ·refine⟨F.un.keep,F.un.slot,fun b o e n hx=>?_,F.un.there,fun b xs e=>?_,fun b o u e=>?_,fun b ps e=>?_⟩
  ·rw[aN fun z=>by rw[z,F.old]at e;cases e]
   exact F.un.free b o e n hx
  ·have:=F.un.tups b xs e
   rw[aN (ne b _ this)];exact this
  ·have:=F.un.frzs b o u e
   rw[aN (ne b _ this)];exact this
  ·obtain⟨more,this⟩:=F.un.tbls b ps e;exact⟨more,by rw[aN (ne b _ this)];exact this⟩
 ·intro b u e
  by_cases hb:b=a
  ·subst hb;rw[aM]at e;cases e;exact⟨⟨o,ho,hc⟩,⟨o,ho⟩,fun h1 h2 ⟨o1,e1,c1⟩ k=>⟨o1,k o1 e1,c1⟩⟩
  ·rw[aN hb]at e;refine(F.hok b u e).stay (fun _ _ _ q=>q) (fun c q=>?_) fun c xs q=>?_
   ·rw[aN (ne c _ q)];exact q
   ·rw[aN (ne c _ q)];exact q
end
section
variable {M:Model}{A:Around}{E:vd}{h:Heap}{g:Array GenState}{d:Drawn}{t:Nat}{os:OsState}
variable {nm q:Str}{C N:Addr}{bs bm:List Value}{hdct:Bool}{sn:List Str}{sub:List Value}{ab:Bool}{col:Option Bool}{dd:Option Addr}{k0 k1 k2 k3 k5:Option Value}{newId:String}
variable {nm' q':Str}{L N':Addr}{bs' bm':List Value}{hdct':Bool}{sn':List Str}{sub':List Value}{ab':Bool}{col':Option Bool}{my:Option Addr}{k0' k1' k2' k3' k5':Option Value}{newId':String}
theorem iV{e:Addr}{oe:Obj}{Q:Bool→Shared→Prop}(hC:h.get? C=some (excClassObj nm q C N bs bm hdct sn sub ab col dd k0 k1 k2 k3 k5 newId))(hL:h.get? L=some (excClassObj nm' q' L N' bs' bm' hdct' sn' sub' ab' col' my k0' k1' k2' k3' k5' newId'))(he:h.get? e=some oe)(ip:oe.cls=.ref C)(hbase:bm'.contains (.type "BaseException")=true)
  (hs:(Value.ref C::bm).contains (.ref L)=true) (hq:Q true ⟨h,g,d,t,os⟩):wpAny M A (excMatches (.ref e) (.ref L)) Q E ⟨h,g,d,t,os⟩:=by
 have hcB:(Value.ref L::bm').contains (.type "BaseException")=true:=by rw[List.contains_cons,hbase,Bool.or_true]
 have f:=tc_notTuple
 unfold excMatches
 repeat (first|(with_reducible refine wpAny_loadPart_at he ?_;rw[ip])|with_reducible refine wpAny_loadPart_at hL ?_|(with_reducible refine wpAny_isSubtype_exc hL ?_;rw[hcB])|(with_reducible refine wpAny_isSubtype_exc hC ?_;rw[hs])|wp_step)
 exact hq
end
section
variable {X:Cx}{pins:ve}{σ:L2.St}{H H':Hp}{s s':Shared}{B:Heap}{a C L:Addr}{a0:Value}{x:Str}{np hp:Pos}{b₀:Stmt}{suite:List Stmt}{rest:List ExceptHandler}{rt:VK}
noncomputable def lD(rt:VK):Ends:={ nx:=fun _ _=>False,rt:=rt }
theorem GP{D:Ends}{f:Flow}{s1:Shared}(ok:X.Ok)(hD:D.rt=rt)(h:SP (fR X a) pins (lD rt) f s1):SP X pins D f s1:=by
 cases f with
 |next=>obtain⟨_,_,_,z⟩:=h;exact z.elim
 |brk=>obtain⟨_,_,_,z⟩:=h;exact z.elim
 |cont=>obtain⟨_,_,_,z⟩:=h;exact z.elim
 |ret u=>obtain⟨v,σ',H',I,r,q⟩:=h;exact⟨v,σ',H',EY ok I,r,by rw[hD];exact q⟩
theorem aAE{D:Ends}(I:Inv X pins σ H s)(F:Fly X.prog X.w X.stack H s B a (.ref C) a0 H' s')(dz:X.stack=X.env::X.outer)(hf:X.env.frame=some X.env.locals)(hC:excIn X.K C fj "ValueError.__new__" = true)(hL:excIn X.K L fj "ValueError.__new__" = true)(mP:eI X.K C (.ref L)=true)
  (hg:Gl X x) (fe:(x == ("__debug__":Str))=false) (hm:X.mg x=some (.ref L)) (hD:D.rt=rt)
  (hs:PSs (fR X a) (b₀::suite) (fun D' σ' fx=>D'=lD rt∧σ'=σ∧fx=upd H' a (.ext (isExc a C)))) :
  wpAny (model X.prog X.w) X.A (noteFrame (.ref a) X.env) (fun _ s₂=>wpAny (model X.prog X.w) X.A (setFlight (.ref a) none) (fun _ s₃ =>
   wpAny (model X.prog X.w) X.A (handleBy (.ref a) X.env (.ExceptHandler (some (.Name x np)) none (b₀::suite) hp::rest)) (SP X pins D) X.xe s₃) X.xe s₂) X.xe s':=by
 refine wpAny_looks_onW (env:=X.env) (outer:=X.outer) (L:=X.env.locals) (by rw[←dz];exact I.ok.frames) hf (by rw[←dz];exact F.fly) fun h₄ held up4=>?_
 refine wpAny_landsW held fun h₅ kn up5=>?_
 have F5:=F.move (h2:=h₅) (by rw[dz];exact kn) (up4.trans up5)
 have I5:=F5.inv I
 refine wpAny_handleBy_cons (codeAny_handlers_test ?_) (by intro q;cases q)
 refine dZ (X:=fR X a) (mW I5 a) hg hm ?_ fe;obtain⟨nm1,qn1,N1,bs1,bm1,hdct1,sn1,sub1,ab1,col1,dd1,c0,c1,c2,c3,c5,i3,ht1,_,_,mr1⟩:=uF hC;obtain⟨nm2,qn2,N2,bs2,bm2,hdct2,sn2,sub2,ab2,col2,mw,d0,d1,d2,d3,d5,cx,ht2,_,_,mr2⟩:=uF hL;obtain⟨oe,hoe,lq⟩:=kn.there;refine iV (I5.kIn _ _ i3) (I5.kIn _ _ cx) hoe lq ((tail_of_in I5.kIn ht2).hasType (by decide +kernel)) (by rw[←mr1];exact mP) ?_
 refine codeAny_handlers_suite (lands_againW kn fun h₆ fl6 up6=>?_)
 have F6:=F5.move (h2:=h₆) (by rw[dz];exact fl6) up6
 have I6:=F6.track I
 exact ub (hs pins _ σ _ (lD rt) (mW I6 a) ⟨rfl,rfl,rfl⟩) (fun f s₇ h₇=>GP I.ok hD h₇) fun _ _ z=>z.elim
theorem LK{D:Ends}{n:Str}{i:Nat}(I:Inv X pins σ H s)(F:Fly X.prog X.w X.stack H s B a (.ref C) a0 H' s')(dz:X.stack=X.env::X.outer)(hf:X.env.frame=some X.env.locals)(hC:excIn X.K C fj "ValueError.__new__" = true)(hL:excIn X.K L fj "ValueError.__new__" = true)(mP:eI X.K C (.ref L)=true)
  (hg:Gl X x) (fe:(x == ("__debug__":Str))=false) (hm:X.mg x=some (.ref L)) (hD:D.rt=rt) (hN:X.N.Nodup) (hi:X.N[i]?=some n) (hlo:X.env.kindOf n=some .local)
  (hs:PSs (fR X a) (b₀::suite) (fun D' σ' fx=>D'=lD rt∧σ'=σ.set i (some (.ref a))∧fx=upd H' a (.ext (isExc a C)))) :
  wpAny (model X.prog X.w) X.A (noteFrame (.ref a) X.env) (fun _ s₂=>wpAny (model X.prog X.w) X.A (setFlight (.ref a) none) (fun _ s₃ =>
   wpAny (model X.prog X.w) X.A (handleBy (.ref a) X.env (.ExceptHandler (some (.Name x np)) (some n) (b₀::suite) hp::rest)) (SP X pins D) X.xe s₃) X.xe s₂) X.xe s':=by
 refine wpAny_looks_onW (env:=X.env) (outer:=X.outer) (L:=X.env.locals) (by rw[←dz];exact I.ok.frames) hf (by rw[←dz];exact F.fly) fun h₄ held up4=>?_
 refine wpAny_landsW held fun h₅ kn up5=>?_
 have F5:=F.move (h2:=h₅) (by rw[dz];exact kn) (up4.trans up5)
 have I5:=F5.inv I
 refine wpAny_handleBy_cons (codeAny_handlers_test ?_) (by intro q;cases q)
 refine dZ (X:=fR X a) (mW I5 a) hg hm ?_ fe;obtain⟨nm1,qn1,N1,bs1,bm1,hdct1,sn1,sub1,ab1,col1,dd1,c0,c1,c2,c3,c5,i3,ht1,_,_,mr1⟩:=uF hC;obtain⟨nm2,qn2,N2,bs2,bm2,hdct2,sn2,sub2,ab2,col2,mw,d0,d1,d2,d3,d5,cx,ht2,_,_,mr2⟩:=uF hL;obtain⟨oe,hoe,lq⟩:=kn.there;refine iV (I5.kIn _ _ i3) (I5.kIn _ _ cx) hoe lq ((tail_of_in I5.kIn ht2).hasType (by decide +kernel)) (by rw[←mr1];exact mP) ?_
 refine codeAny_handlers_suite_as (lands_againW kn fun h₆ fl6 up6=>?_)
 have F6:=F5.move (h2:=h₆) (by rw[dz];exact fl6) up6
 have I6:=F6.track I
 have ip:(X.env.scope.kind == .class || (X.env.scope.kind == .module&&X.env.locals != X.env.globals))=false:=by rw[I.ok.kind];rfl
 refine nH (X:=fR X a) (v:=.ref a) (mW I6 a) hN hi (.inl hlo) rfl (fun s₇ I7=>?_) (.inr hlo)
 refine ub (hs pins _ _ _ (lD rt) I7 ⟨rfl,rfl,rfl⟩) (fun f s₈ h₈=>?_) fun _ _ z=>z.elim
 have h9:=GP (D:={ D with nx:=fun _ _=>False,bk:=fun _ _=>False,ct:=fun _ _=>False }) I.ok hD h₈
 cases f with
 |next=>obtain⟨_,_,_,z⟩:=h9;exact z.elim
 |brk=>obtain⟨_,_,_,z⟩:=h9;exact z.elim
 |cont=>obtain⟨_,_,_,z⟩:=h9;exact z.elim
 |ret u =>
  obtain⟨v,σ',H9,I9,r,q⟩:=h9;obtain⟨m,hn,_⟩:=id I9.loc;exact wpAny_nameGoes hlo hn ip fun h' m' jl hsb=>⟨v,_,H9,RX I9 jl hsb,r,q⟩
end
structure RoomM (k:Nat) (A:Around):Prop where
 dp:A.depth+3*k+5<recursionLimit
 un:A.units+16*k+200<cLine
theorem UD{k:Nat}{A:Around}(r:Room k A):RoomM k A:=⟨r.dp,r.un⟩
theorem RoomM.mono{j k:Nat}{A:Around}(r:RoomM k A)(h:j≤k):RoomM j A:=⟨by have:=r.dp;lia,by have:=r.un;lia⟩
theorem RoomM.under{k:Nat}{A:Around}(r:RoomM (k+1) A)(env:Env):RoomM k (A.deeper env):=
 ⟨by have z:=r.dp;show A.depth+1+3*k+5<_;lia,by have z:=r.un;show A.units+3+16*k+200<_;lia⟩
structure ku (P:vc) (w:World) (K:va) (mg:vf) (base:Heap) (k:Nat) (f:Addr) (fd:vb) (ps:List Str) (sp:Sp):Prop where
 len:∀vs H Q,sp vs H Q E0→vs.length=ps.length
 run:∀(A:Around) (outer:List Env) (s:Shared) (H:Hp) (args:Args) (us:List Value) (vs:List V) (Q:VK),RoomM k A→Env0 P w K mg base A outer s H→BindsTo s fd args (ps.zip us)→aS vs us→sp vs H Q E0 →
  codeAny (model P w) A (.call (.ref f) args) (CR kx outer P w H s Q E0) s
noncomputable def cxM(P:vc)(w:World)(K:va)(mg:vf)(base:Heap)(N:List Str)(qual:Str)(sc:Scope)(f:Addr)(cd:Value)(A:Around)(outer:List Env)(s:Shared)(H:Hp):Cx:=
 {kU kx P w K mg base N qual sc f cd A outer s H E0 with calm:=false,xe:=fun _ _=>False }
theorem FO{P:vc}{w:World}{K:va}{mg:vf}{base:Heap}{A:Around}{outer:List Env}{s:Shared}{H:Hp}(e:Env0 P w K mg base A outer s H):Env0 P w K mg base { A with handled:=none } outer s H:=
 ⟨e.frames,e.mod,e.bs,e.bsz,e.funs,e.frf,e.hok,e.bare⟩
theorem JR{P:vc}{w:World}{K:va}{mg:vf}{base:Heap}{N:List Str}{qual:Str}{sc:Scope}{f:Addr}{cd:Value}{A:Around}{outer:List Env}{s s1:Shared}{H:Hp}{σ:L2.St}
  (aw:A.frames=some outer) (I:Inv (kU kx P w K mg base N qual sc f cd { A with handled:=none } outer s H E0) [] σ H s1):Inv (cxM P w K mg base N qual sc f cd A outer s H) [] σ H s1:=
 ⟨⟨I.ok.mod,I.ok.kind,I.ok.glob,I.ok.blt,I.ok.above,I.ok.inj,I.ok.has,I.ok.cab,(fun z=>by cases z),Around.frames_deeper aw,I.ok.stk,I.ok.exf,I.ok.bs,I.ok.bsz,I.ok.noex,I.ok.exfs,I.ok.funs,I.ok.frf⟩,
  I.os,I.bare,I.base,I.loc,I.cell,I.free,I.freeC,I.pin,I.hok,I.len⟩
theorem aAn{P:vc}{w:World}{K:va}{mg:vf}{base:Heap}{k:Nat}{x qual:Str}{st:Stmt}{f:Addr}{fd:vb}{N ps:List Str}{sp:Sp}(F:Fun K x qual st f fd)(fs:aa N ps (aD st))(len:∀vs H Q,sp vs H Q E0→vs.length=ps.length)
  (hb:∀(cd:Value) (A:Around) (outer:List Env) (s:Shared) (H:Hp) (vs:List V) (Q:VK),RoomM k (A.deeper (envOfC qual (aD st) s.heap.objs.size f cd))→sp vs H Q E0 →
   ∃t,PSs (cxM P w K mg base N qual (aD st) f cd A outer s H) (bR st) t∧t { nx:=fun _ H'=>Q .non H',rt:=Q } (L2.start N vs) H):ku P w K mg base (k+1) f fd ps sp:=by
 obtain⟨oc,od,kV,doc,pm,an,bt,ct,jx,rfl,lk,fg⟩:=F.ex;refine⟨len,fun A outer s H args us vs Q hr e0 kg r br=>?_⟩
 have hl:=len _ _ _ br
 have kin:K.In s.heap:=e0.mod.kin.keeps fun b o e=>(e0.bs b o e).1
 have lim:s.heap.NoLimit:=e0.mod.nolimit.keeps fun b o e=>(e0.bs b o e).1
 refine codeAny_call_function (by have:=hr.dp;lia) (kin _ _ lk) rfl fs.co fs.gen rfl (PySem.W.codeRec_of kin fg) (kg _ _ _ _ ?_)
 refine wpAny_newFunctionEnv_cells fs.kind ?_ fun env he s1 y=>?_
 ·rintro⟨n,v⟩ hy
  rcases fs.par n (of_mem_zip hy).1 with q|q
  ·exact Or.inl q
  ·exact Or.inr ⟨q,cellsFrom_some _ _ _ (Or.inl q)⟩
 subst he;refine⟨lim.keeps y.toInCall.keep,codeAny_func ?_⟩;obtain⟨t,ht,hq⟩:=hb bt A outer s H vs Q (hr.under _) br;have I:=JR e0.frames (qD (A:={ A with handled:=none }) fs rfl (FO e0) hl r y)
 refine ub (ht [] s1 _ H _ I hq) (fun fl s' hs=>?_) fun e s' z=>z.elim
 cases fl with
 |ret u =>
  obtain⟨v,σ',H',J,rv,q⟩:=hs;exact⟨v,H',J.os,J.bare,J.base,J.hok,rv,q⟩
 |next =>
  obtain⟨σ',H',J,q⟩:=hs;exact⟨.non,H',J.os,J.bare,J.base,J.hok,rfl,q⟩
 |brk=>obtain⟨_,_,_,q⟩:=hs;exact q.elim
 |cont=>obtain⟨_,_,_,q⟩:=hs;exact q.elim
theorem HZ{X:Cx}{k:Nat}{f:Addr}{fd:vb}{ps:List Str}{sp:Sp}{x:Str}{p pos:Pos}{e:Expr}{es:List Expr}{t:TA}(F:ku X.prog X.w X.K X.mg X.base k f fd ps sp)(hr:RoomM k X.A)(hg:Gl X x)(hm:X.mg x=some (.ref f))(hk:keepIn X.K (.ref f)=true)(hb:Binds X.K fd ps [])
  (ha:PA X (e::es) t) (fe:(x == ("__debug__":Str))=false) (he:starEach (e::es) X.env=(false,eval e X.env)::starEach es X.env) (iF:(backTo pos (starEach es X.env)).any (·.1)=false) :
  PE X (.Call (.Name x p) (e::es) [] pos) (uO sp [] E0 t):=by
 intro pins s σ H Q I h;refine wpAny_Call_Name_kw (dZ I hg hm ?_ fe);refine callWith_K (h₀:=X.base) I.ok.mod.kin hk (af (ha pos pins s σ H _ I h) fun us s1 hh=>?_) he iF
 obtain⟨vs,H1,I1,r,q⟩:=hh;refine⟨I1.kIn,?_⟩;rw[sq]at q;have hl:(us++[]).length=ps.length:=by rw[sq,←r.length];exact F.len _ _ _ q
 have hbd:=hb s1 us I1.kIn hl
 rw[sq]at hbd;refine wpAny_call (codeAny_mono (F.run X.A X.stack s1 H1 ⟨us,[]⟩ us vs Q hr I1.env0 hbd r q) fun rr s2 hq=>?_)
 cases rr with
 |error e=>exact hq.elim
 |ok fl =>
  cases fl with
  |ret u=>exact I1.after hq
  |next=>exact hq.elim
  |brk=>exact hq.elim
  |cont=>exact hq.elim
structure XcK (K:va) (C:Addr):Prop where
 ga:findIn K (.ref C) "__getattribute__" = some (some (.builtin "BaseException.__getattribute__"))
 gn:findIn K (.ref C) "__getattr__" = some none
 ha:findIn K (.ref C) "__class__" = some (some (.builtin "object.__class__"))
 hn:specialIn K (.builtin "object.__class__") "__get__" = some (some (.builtin "getset_descriptor.__get__"))
 tk:takesIn K (.builtin "object.__class__")=some true
 hm:mroIn K C (.type "object")=some true
 hb:mroIn K C (.type "BaseException")=some true
theorem XcK.cl{K:va}{C:Addr}(F:XcK K C):(PySem.W.clsIn K C).isSome=true:=by
 have h:=F.hm
 unfold mroIn at h;obtain⟨cd,h1,_⟩:=qi.mp h;rw[h1];rfl
section
open PySem.W PySem.Builtin PySem.Builtin.ObjectAttr PySem.Builtin.Getset_descriptor
variable {K:va}{x C:Addr}
theorem nZ{M:Model}{h:Heap}(p:isExc x C h):Looks M h (typeOf (.ref x)) (.ref C):=by
 obtain⟨o,e,c⟩:=p;exact c ▸ (Looks.ld e).andThen .now
theorem LJ{h:Heap}(k:K.In h)(z:(clsIn K C).isSome=true):(∃c d cd sl,h.get? C=some ⟨c,d,.cls cd,sl⟩)∧∀M:Model,Looks M h (isType (.ref C)) true:=by
 unfold clsIn at z;split at z
 ·rename_i c d cd sl ho;refine⟨⟨c,d,cd,sl,k _ _ ho⟩,fun M A Q E s kk q=>?_⟩
  unfold isType loadHead;exact u7 (wpAny_loadPart (kk _ _ (k _ _ ho)) (ua q))
 ·cases z
theorem SQ{prog:vc}{w:World}{A:Around}{R:Result→Shared→Prop}{s:Shared}{tp:Value}(F:XcK K C)(k:K.In s.heap)(p:isExc x C s.heap)(q:R (.ok (.ret (.ref C))) s) :
  codeAny (model prog w) A (.call (.builtin "getset_descriptor.__get__") ⟨[.builtin "object.__class__",.ref x,tp],[]⟩) R s:=by
 obtain⟨hp,gs,dr,tks,oss⟩:=s;have lt:Looks (model prog w) hp (typeOf (.ref x)) (.ref C):=nZ p
 have lm:=looks_mroIn (M:=model prog w) k F.hm
 refine codeAny_call_builtin KF.slot_gs.plain KF.entry_gs (KF.slot_gs.check _ _ _ _ _ _ _ _ KF.type_class (KF.args_gs _ _ _) ?_);unfold Builtin.«getset_descriptor.__get__»;unfold descrGet;rw[dga_obj];refine u7 (ua ?_);unfold descrGetter;unfold descrCheckInstance descrNameAndClass;unfold isInstance;simp only[KF.owner_class]
 repeat lk
 refine⟨Code.quiet_builtin _ (by decide +kernel),?_⟩
 refine codeAny_builtin KF.entry_class ?_;unfold Builtin.«object.__class__»;unfold shownTypeOf
 repeat lk
 exact q
theorem FM{prog:vc}{w:World}{A:Around}{E:vd}{s:Shared}{tk:Tok}{Q:Fin→Shared→Prop}(F:XcK K C)(k:K.In s.heap)(p:isExc x C s.heap)(q:Q (.done (.ret (.ref C))) s) :
  wpAny (model prog w) A (Builtin.«object.__getattribute__» ⟨[.ref x,.str "__class__" tk],[]⟩) Q E s:=by
 obtain⟨hp,gs,dr,tks,oss⟩:=s;have lt:Looks (model prog w) hp (typeOf (.ref x)) (.ref C):=nZ p
 have lf:Looks (model prog w) hp (find (.ref x) (.ref C) "__class__") (.bind (.builtin "getset_descriptor.__get__") (.builtin "object.__class__")):=
  (looks_findIn k F.ha).andThen ((looks_specialIn k F.hn).andThen ((show Looks (model prog w) hp (dataDescriptor? (some (.builtin "object.__class__")) (some (.builtin "getset_descriptor.__get__"))) (some (.builtin "getset_descriptor.__get__",.builtin "object.__class__")) from(looks_takesIn k F.tk).andThen .now).andThen (Looks.tag .now)))
 unfold Builtin.«object.__getattribute__»;refine u7 (wpAny_of_eq (a:=(Value.ref x,[Value.str "__class__" tk])) (by rfl) ?_)
 refine u7 (ua (u7 (lt.at (u7 (lf.at ?_)))));show wpAny _ _ (holding [Value.builtin "object.__class__"] (call (.builtin "getset_descriptor.__get__") [.builtin "object.__class__",.ref x,.ref C]) >>= ret) _ _ _
 exact u7 (wpAny_holding (ub (wpAny_call (SQ (R:=fun r s'=>match r with | .ok (.ret v)=>Q (.done (.ret v)) s' | .ok _=>False | .error e=>E e s') F k p (tp:=.ref C) q)) (fun v s' z=>ua z) fun _ _ z=>z))
theorem FN{M:Model}{A:Around}{E:vd}{s:Shared}{v:Value}{Q:Unit→Shared→Prop}(F:XcK K C)(k:K.In s.heap)(p:isExc x C s.heap)(q:Q () s) :
  wpAny M A (checkBuiltinCall "BaseException.__getattribute__" ⟨[.ref x,v],[]⟩) Q E s:=by
 obtain⟨hp,gs,dr,tks,oss⟩:=s;have lt:Looks M hp (typeOf (.ref x)) (.ref C):=nZ p
 have lb:=looks_mroIn (M:=M) k F.hb
 have hk:builtinKind "BaseException.__getattribute__" = some .slot:=by decide +kernel
 have br:splitId "BaseException.__getattribute__" = some ("BaseException","__getattribute__"):=by decide +kernel
 have har:=PySem.F.args_bexc_ga (.ref x) v
 simp only[checkBuiltinCall,hk,br];refine u7 ?_;unfold isInstance;refine u7 (lt.at (lb.at ?_));simp only[so,qr,if_false]
 repeat wp_step
 exact q
theorem SR{prog:vc}{w:World}{A:Around}{E:vd}{Q:Option Value→Shared→Prop}{s:Shared}(F:XcK K C)(k:K.In s.heap)(p:isExc x C s.heap)(q:Q (some (.ref C)) { s with toks:=s.toks+1 }) :
  wpAny (model prog w) A (getAttr? (.ref x) "__class__") Q E s:=by
 obtain⟨hp,gs,dr,tks,oss⟩:=s;have lt:Looks (model prog w) hp (typeOf (.ref x)) (.ref C):=nZ p
 have lg:=looks_findIn (M:=model prog w) k F.ga
 have lh:=looks_findIn (M:=model prog w) k F.gn
 have lb:=looks_mroIn (M:=model prog w) k F.hb
 have hx2:(Value.builtin "BaseException.__getattribute__" == Value.builtin "object.__getattribute__")=false:=by decide +kernel
 have hk:builtinKind "BaseException.__getattribute__" = some .slot:=by decide +kernel
 have br:splitId "BaseException.__getattribute__" = some ("BaseException","__getattribute__"):=by decide +kernel
 unfold getAttr? getAttrBy? getAttrBy;refine u7 (wpAny_mkText (u7 (wpAny_attempt (wpAny_holding (u7 (lt.at (u7 (lg.at ?_))))))));dsimp only;rw[hx2,Bool.and_false,if_neg (by decide)]
 unfold getAttrByItsOwn hookBefore;refine u7 ?_;rw[if_pos (show onTheHeap (Value.ref C)=true from rfl)]
 refine lh.at ?_;refine u7 (wpAny_attempt (wpAny_holding ?_));unfold callGetattribute;rw[Bool.false_and,if_neg (by decide)]
 unfold boundAndCalled;refine u7 (wpAny_of_eq (PySem.F.attrBase_ValueError.ga.bind (.ref x)) ?_);refine wpAny_call (codeAny_call_builtin PySem.F.attrBase_ValueError.ga.plain PySem.F.entry_bexc_ga ?_);refine FN F k p ?_;refine ub (FM (Q:=fun fin s'=>fin=.done (.ret (.ref C))∧s'=⟨hp,gs,dr,tks+1,oss⟩) (E:=fun _ _=>False) F k p ⟨rfl,rfl⟩) (fun fin s' z=>?_) fun _ _ z=>z.elim
 obtain⟨rfl,rfl⟩:=z;exact handed_on rfl (ua q)
theorem JJ(F:XcK K C):KitX K (.ref x) (.ref C) (isExc x C) where
 ty:=fun _ _ _ p=>nZ p
 it:=fun M _ k _=>(LJ k F.cl).2 M
 ne:=fun h tp dd its n sl k htp=>by
  obtain⟨⟨c,d,cd,sl',e⟩,_⟩:=LJ k F.cl;refine Bool.eq_false_iff.mpr fun q=>?_
  have ee:C=tp:=Value.ref.inj (t7.mp q)
  rw[ee,htp]at e;cases e
 ca:=fun k p q=>SR F k p q
end
end Z
namespace Z
open PySem
end Z
namespace Z
open PySem PySem.Spec PyProof.Rows L2
def qX(K:va)(T:Tx)(S:Addr→Prop)(H H':Hp)(d:D)(v:V):Prop:=∀ds,d=.lst ds→∃p xs,v=.ref p∧H p=none∧H' p=some (.lst xs)∧aE K T (er H' p) S ds xs
def iy(K:va)(T:Tx)(n:Nat)(f:List D→Option Rs)(fr:Bool):Sp:=fun vs H Q E=>vs.length=n∧∃(S:Addr→Prop) (ds:List D),(∀a,S a→∃o,H a=some o)∧aE K T H S ds vs ∧
 ((∃d,f ds=some (.ok d)∧∀v H',aI H H'→Rep K T H' S d v→(fr=true→qX K T S H H' d v)→Q v H') ∨
  (∃c C,f ds=some (.er c)∧T.xc c=some C∧∀H',aI H H'→E (.ref C) none H'))
def XB(K:va)(T:Tx)(C:Addr)(n:Nat)(g:List D→Option Rs):Sp:=fun vs H Q _=>vs.length=n∧∃(p dx:Addr) (ws:List V) (S:Addr→Prop) (ds:List D) (d:D),vs=.ref p::ws∧H p=some (.ins C dx [])∧S p∧(∀a,S a→∃o,H a=some o) ∧
 aE K T H S ds ws∧g ds=some (.ok d)∧∀H',(∀b o,b≠p→H b=some o→H' b=some o)→(∀S':Addr→Prop,(∀a,S' a→S a∧a≠p)→Rep K T H' S' d (.ref p))→Q .non H'
noncomputable def fH:List Str:=["len","int","list","tuple","max","min","str","sorted","any","range","reversed","enumerate","isinstance","bool","ValueError"]
def ng(C:Addr)(x:Str):Sp:=fun vs H Q _=>∃a,vs=[.ref a]∧H a=some (.ext (isExc a C))∧∀H',aI H H'→Q (.str x) H'
def NO(X:Cx)(T:Tx)(a:Addr)(kvs:List (Str×D)):Prop:=(a == sysModules)=false∧∃o vs,X.K.lookup a=some o∧o.IsDictOf (bQ X.prog X.w) vs∧(∀k,(valueAt vs (Sum.inr k)).isSome=(kvs.lookup k).isSome) ∧
 ∀k d u,kvs.lookup k=some d→valueAt vs (Sum.inr k)=some u→∃v,RelV v u∧∀(H:Hp) (S:Addr→Prop),(∀a o,X.K.lookup a=some o→H a=none)→(∀a,S a→∃o,H a=some o)→Rep X.K T H S d v
structure qd (CX:au) (X:Cx) (c:CC) (G:GS) (T:Tx) (lv:Nat):Prop where
 fn:∀x,c.fns.contains x=true→∃f fd ps,X.mg x=some (.ref f)∧keepIn X.K (.ref f)=true∧Binds X.K fd ps []∧(∀ds r,G.fn x ds=some r→ds.length=ps.length) ∧
  FnOk X.prog X.w X.K X.mg X.base CX lv f fd ps (iy X.K T ps.length (G.fn x) (G.ff x))
 me:∀cn C m ds r,T.cl cn=some C→G.me cn m ds=some r→∃f fd ps,iu X.K C m f∧Binds X.K fd ps []∧(∀ds r,G.me cn m ds=some r→ds.length=ps.length) ∧
  FnOk X.prog X.w X.K X.mg X.base CX lv f fd ps (iy X.K T ps.length (G.me cn m) (G.mf cn m))
 cls:∀cn C,T.cl cn=some C→Cls X.K C
 fld:∀cn C f,T.cl cn=some C→(G.fl cn).contains f=true→eD X.K C f
 mo:∀x,c.cls.contains x=true→∀ds d,G.mo x ds=some (.ok d)→∃C f fd ps j,j+1≤lv∧X.mg x=some (.ref C)∧Mk X.K C f∧Binds X.K fd ps []∧ds.length+1=ps.length ∧
  FnOk X.prog X.w X.K X.mg X.base CX j f fd ps (XB X.K T C ps.length (G.mo x))
 cst:∀x d,G.cst x=some d→c.csts.contains x=true→∃u v,X.mg x=some u∧RelV v u∧∀(H:Hp) (S:Addr→Prop),(∀a o,X.K.lookup a=some o→H a=none)→(∀a,S a→∃o,H a=some o)→Rep X.K T H S d v
 bi:∀x,fH.contains x=true→c.fns.contains x=false→c.cls.contains x=false→X.mg x=none
 xcl:∀x C,T.xc x=some C→X.mg x=some (.ref C)
 frs:∀x,c.fresh.contains x=true→G.ff x=true∧∀cn,G.mf cn x=true
 cx0:∀outer H s e s',CX outer H s E0 e s'→False
 cxf:∀outer H s E e s',CX outer H s E e s'→gK X.prog X.w outer H s E e s'
 xns:∀k,G.xn k=true→∃C,T.xc k=some C
 xk:∀k C,T.xc k=some C→excIn X.K C fj "ValueError.__new__" = true
 sub:∀k k' C C',T.xc k=some C→T.xc k'=some C'→G.sub k k'=true→eI X.K C (.ref C')=true
 wd:∀f k x C,T.xc k=some C→G.wd f k=some x→∃fa fd ps j,j≤lv∧X.mg f=some (.ref fa)∧keepIn X.K (.ref fa)=true∧Binds X.K fd ps []∧ku X.prog X.w X.K X.mg X.base j fa fd ps (ng C x)
 dk:∀x kvs,G.dk x=some kvs→∃a,X.mg x=some (.ref a)∧NO X T a kvs
def uD(k:Option NameKind)(k':Option NameKind):Prop:=match k with
 |some .local=>k'=some .local
 |some .cell=>k'=some .cell
 |some .free=>k'=some .free∨k'=some .cell
 |some .globalImplicit=>k'=some .globalImplicit
 |_=>True
structure XC (CX:au) (X:Cx) (c:CC) (G:GS) (T:Tx) (lv:Nat):Prop where
 N:X.N=c.N
 nd:c.N.Nodup
 kd:∀x,uD (c.sc.names.lookup x) (X.env.kindOf x)
 own:∀x,c.sc.names.lookup x=some .cell→X.fn x=true
 dbg:∀x∈c.N,(x == ("__debug__":Str))=false∧(x == ("__classdict__":Str))=false
 gdb:aW c "__debug__" = false
 calm:X.calm=true
 room:Room lv X.A
 go:qd CX X c G T lv
section
variable {CX:au}{X:Cx}{c:CC}{G:GS}{T:Tx}{lv:Nat}
theorem XC.units(h:XC CX X c G T lv):X.A.units+64<cLine:=h.room.units
theorem XC.glob(h:XC CX X c G T lv){x:Str}(e:aW c x=true):Gl X x:=by
 have k:=h.kd x
 have e':c.sc.names.lookup x=some .globalImplicit:=by
  unfold aW at e;exact t7.mp e
 rw[e']at k;exact k
theorem XC.gne(h:XC CX X c G T lv){x:Str}(e:aW c x=true):(x == ("__debug__":Str))=false:=by
 cases q:x == ("__debug__":Str) with
 |false=>rfl
 |true =>
  have q':x = "__debug__":=t7.mp q
  subst q';rw[h.gdb]at e;cases e
theorem hZ{α:Type}[DecidableEq α][BEq α][LawfulBEq α]:∀{l:List α} {x:α} {i:Nat},l.idxOf? x=some i→l[i]?=some x:=by
 intro l x i h;unfold List.idxOf? at h;rw[List.findIdx?_eq_some_iff_getElem]at h;obtain⟨h1,h2,_⟩:=h;rw[qj h1];exact congrArg some (t7.mp h2)
theorem rJ{x:Str}{i:Nat}(e:cV c x=some i):c.N[i]?=some x∧(c.sc.names.lookup x=some .local∨c.sc.names.lookup x=some .cell∨c.sc.names.lookup x=some .free):=by
 unfold cV at e;split at e
 ·rename_i h;exact⟨hZ e,.inl h⟩
 ·rename_i h;exact⟨hZ e,.inr (.inl h)⟩
 ·rename_i h;exact⟨hZ e,.inr (.inr h)⟩
 ·cases e
theorem XC.vis(h:XC CX X c G T lv){x:Str}(e:c.sc.names.lookup x=some .local∨c.sc.names.lookup x=some .cell∨c.sc.names.lookup x=some .free):Vis X.env.scope x:=by
 have k:=h.kd x
 rcases e with e|e|e
 ·rw[e]at k;exact .inl k
 ·rw[e]at k;exact .inr (.inl k)
 ·rw[e]at k
  rcases k with k|k
  ·exact .inr (.inr k)
  ·exact .inr (.inl k)
theorem gP{x:Str}{p:Pos}{i:Nat}(e:fX c (.Name x p)=some i):c.N[i]?=some x∧(c.sc.names.lookup x=some .local∨c.sc.names.lookup x=some .cell):=by
 simp only[fX]at e;split at e
 ·rename_i h;exact⟨hZ e,.inl h⟩
 ·rename_i h;exact⟨hZ e,.inr h⟩
 ·cases e
theorem XC.loc(h:XC CX X c G T lv){x:Str}(e:c.sc.names.lookup x=some .local∨c.sc.names.lookup x=some .cell):Loc X.env.scope x∧(X.fn x=true∨X.env.scope.names.lookup x=some .local):=by
 have k:=h.kd x
 rcases e with e|e
 ·rw[e]at k;exact⟨.inl k,.inr k⟩
 ·have o:=h.own x e
  rw[e]at k;exact⟨.inr k,.inl o⟩
theorem UQ{pins:ve}{σ:L2.St}{H:Hp}{s:Shared}(I:Inv X pins σ H s):∀a o,X.K.lookup a=some o→H a=none:=fun a o e=>(I.bs a o (I.mod.kin a o e)).2
def gD(K:va)(T:Tx)(S:Addr→Prop)(is:List Nat)(ρ ρ1:List Sl)(d:D):TG:=fun v σ H Q=>RE K T H S ρ σ∧Rep K T H S d v∧∀σ',RE K T H S ρ1 σ'→(∀j,j∉is→σ'[j]?=σ[j]?)→Q σ' H
theorem RE.set{K:va}{H:Hp}{S:Addr→Prop}{ρ:List Sl}{σ:L2.St}{i:Nat}{d:D}{v:V}(re:RE K T H S ρ σ)(r:Rep K T H S d v):RE K T H S (ρ.set i (.im d)) (σ.set i (some v)):=by
 refine⟨re.dom,by simp[re.len],fun j s e=>?_⟩
 by_cases hj:j=i
 ·subst hj;have hl:j<ρ.length:=by
   have:=(q8.mp e).1
   simpa using this
  rw[rj hl]at e;cases e;rw[rj (by rw[←re.len];exact hl)]
  exact⟨v,rfl,r⟩
 ·rw[rn (Ne.symm hj)]at e ⊢;exact re.at_ j s e
noncomputable def gDs(K:va)(T:Tx)(S:Addr→Prop)(is:List Nat)(ρ ρ1:List Sl)(ds:List D):jq:=fun vs σ H Q=>RE K T H S ρ σ∧aE K T H S ds vs∧∀σ',RE K T H S ρ1 σ'→(∀j,j∉is→σ'[j]?=σ[j]?)→Q σ' H
theorem eN(env:Env):∀{es:List Expr} {is:List Nat},eX c es=some is→(assignEach es env).map (·.2)=es.map (fun e=>assign e env)∧(assignEach es env).length=es.length∧(assignEach es env).findIdx? (·.1)=none:=by
 intro es
 induction es with
 |nil=>intro is _;exact⟨rfl,rfl,rfl⟩
 |cons e es ih =>
  intro is h;simp only[eX,qo,qi]at h;obtain⟨i,h1,r,h2,_⟩:=h;obtain⟨a1,a2,a3⟩:=ih h2;cases e<;>simp only[fX,reduceCtorEq]at h1
  rename_i x p;refine⟨?_,?_,?_⟩
  ·show assign (.Name x p) env::(assignEach es env).map (·.2)=_
   rw[a1];rfl
  ·show (assignEach es env).length+1=_
   rw[a2];rfl
  ·show List.findIdx? (·.1) ((false,assign (.Name x p) env)::assignEach es env)=none
   rw[List.findIdx?_cons,a3];rfl
theorem aDt(h:XC CX X c G T lv){S:Addr→Prop}:∀{es:List Expr} {is:List Nat} {ds:List D} {ρ ρ1:List Sl},eX c es=some is→bL is ds ρ=some ρ1→p8 X es (gDs X.K T S is ρ ρ1 ds):=by
 intro es
 induction es with
 |nil =>
  intro is ds ρ ρ1 h1 h2;simp only[eX]at h1;cases h1;cases ds with
  |nil =>
   simp only[bL]at h2;cases h2;intro pins s σ H vs us Q I r ⟨re,rl,q⟩;unfold aE at rl;exact QG pins s σ H vs us Q I r ⟨rl,q σ re fun _ _=>rfl⟩
  |cons d ds=>simp[bL]at h2
 |cons e es ih =>
  intro is ds ρ ρ1 h1 h2;simp only[eX,qo,qi]at h1;obtain⟨i,h1,r,h3,h4⟩:=h1;cases h4;cases ds with
  |nil=>simp[bL]at h2
  |cons d ds =>
   simp only[bL]at h2;have hs:=(eN (c:=c) X.env (es:=e::es) (is:=i::r) (by simp[eX,h1,h3])).1
   have i0:=(eN (c:=c) X.env h3).1
   cases e<;>simp only[fX,reduceCtorEq]at h1
   rename_i x p;have o7:fX c (.Name x p)=some i:=h1
   obtain⟨hN,hk⟩:=gP o7;obtain⟨hl,hf⟩:=h.loc hk;have p1:PG X (.Name x p) (qI i):=zW (by rw[h.N];exact h.nd) (by rw[h.N];exact hN) hl hf
   have p2:=HW p1 (ih h3 h2) (by rw[hs,i0];rfl)
   intro pins s σ H vs us Q I rv ⟨re,rl,q⟩;unfold aE at rl;obtain⟨y,w,e1,ry,gw⟩:=rl;refine p2 pins s σ H vs us Q I rv ⟨y,w,e1,?_⟩;refine⟨re.set ry,gw,fun σ2 re2 ag=>q σ2 re2 fun j hj=>?_⟩
   rw[ag j fun z=>hj (qt _ z),rn (fun z=>hj (by rw[z];simp))]
theorem YI(h:XC CX X c G T lv){S:Addr→Prop}{tg:Expr}{is:List Nat}{tp:Bool}{d:D}{ρ ρ1:List Sl}(h1:cZ c tg=some (is,tp))(h2:bK is tp d ρ=some ρ1):PG X tg (gD X.K T S is ρ ρ1 d):=by
 cases tg<;>simp only[cZ,reduceCtorEq,qx,Prod.mk.injEq]at h1
 ·rename_i x p;obtain⟨i,h3,rfl,rfl⟩:=h1;simp only[bK,qr,if_false,bL]at h2;cases h2;obtain⟨hN,hk⟩:=gP h3;obtain⟨hl,hf⟩:=h.loc hk;have p1:PG X (.Name x p) (qI i):=zW (by rw[h.N];exact h.nd) (by rw[h.N];exact hN) hl hf
  intro pins s σ H v u Q I rv ⟨re,rd,q⟩;exact p1 pins s σ H v u Q I rv (q _ (re.set rd) fun j hj=>rn (fun z=>hj (by rw[z];simp)))
 ·rename_i es k p;obtain⟨is',h3,rfl,rfl⟩:=h1;simp only[bK,if_true]at h2;cases d<;>simp only[reduceCtorEq]at h2
  rename_i ds;obtain⟨a1,a2,a3⟩:=eN (c:=c) X.env h3;have p1:=YG (pos:=p) (k:=k) (n:=es.length) h.calm (aDt h (S:=S) h3 h2) a2 a3
  intro pins s σ H v u Q I rv ⟨re,rd,q⟩;unfold Rep at rd;obtain⟨a,xs,ev,_,e,rl⟩:=rd;refine p1 pins s σ H v u Q I rv ⟨a,xs,ev,e,?_,re,rl,q⟩;have l1:=rl.len
  have l2:is'.length=es.length:=by
   clear p1 a1 a2 a3 rl h2 q
   induction es generalizing is' with
   |nil=>simp only[eX]at h3;cases h3;rfl
   |cons e es ih =>
    simp only[eX,qo,qi]at h3;obtain⟨i,_,r,h4,h5⟩:=h3;cases h5;simp only[uj,Nat.add_right_cancel_iff];exact ih r h4
  have l3:∀{is:List Nat} {ds:List D} {ρ ρ1:List Sl},bL is ds ρ=some ρ1→is.length=ds.length:=by
   intro is
   induction is with
   |nil=>intro ds ρ ρ1 z;cases ds<;>simp_all [bL]
   |cons i is ih =>
    intro ds ρ ρ1 z;cases ds with
    |nil=>simp[bL]at z
    |cons d ds=>simp only[bL]at z;simp[ih z]
  rw[←l1,←l3 h2,l2]
end
def js(K:va)(T:Tx)(S:Addr→Prop)(H0:Hp)(J:It)(ds:List D):Prop:=∀(H:Hp) (S':Addr→Prop),aO K H0 H S S'→(∀a,S' a→∃o,H a=some o) →
 (∀i d,ds[i]?=some d→J.go i H∧∀x H',J.yld i H x H'→aI H H'∧Rep K T H' S' d x)∧∀i,ds.length≤i→J.stop i H
def tI(K:va)(T:Tx)(S:Addr→Prop)(ρ:List Sl)(ds:List D):TI:=fun σ H R=>RE K T H S ρ σ∧∀J H',aI H H'→js K T S H' J ds→ds.length≤sizeLine→R J H'
theorem fN(sc:Scope)(env:Env)(x:Str):(relabel sc env).names.lookup x=(sc.names.lookup x).map fun k=>if (k == .free&&env.scope.kind == .function&&env.kindOf x == some .cell)=true then .cell else k:=by
 show (sc.names.map fun (p:Str×NameKind)=>if (p.2 == .free&&env.scope.kind == .function&&env.kindOf p.1 == some .cell) then(p.1,NameKind.cell) else(p.1,p.2)).lookup x=_
 induction sc.names with
 |nil=>rfl
 |cons p r ih =>
  obtain⟨n,k⟩:=p;rw[su]
  by_cases hx:x=n
  ·subst hx
   by_cases hc:(k == .free&&env.scope.kind == .function&&env.kindOf x == some .cell)=true
   ·show List.lookup x ((if (k == .free&&env.scope.kind == .function&&env.kindOf x == some .cell)=true then(x,NameKind.cell) else(x,k))::_)=_
    rw[if_pos hc,lookup_cons,lookup_cons,beq_self_eq_true];simp only[ud];rw[if_pos hc]
   ·show List.lookup x ((if (k == .free&&env.scope.kind == .function&&env.kindOf x == some .cell)=true then(x,NameKind.cell) else(x,k))::_)=_
    rw[if_neg hc,lookup_cons,lookup_cons,beq_self_eq_true];simp only[ud];rw[if_neg hc]
  ·have hb:(x == n)=false:=by simpa using hx
   show List.lookup x ((if (k == .free&&env.scope.kind == .function&&env.kindOf n == some .cell)=true then(n,NameKind.cell) else(n,k))::_)=_
   by_cases hc:(k == .free&&env.scope.kind == .function&&env.kindOf n == some .cell)=true
   ·rw[if_pos hc,lookup_cons,lookup_cons,hb];exact ih
   ·rw[if_neg hc,lookup_cons,lookup_cons,hb];exact ih
theorem gJ{env:Env}:∀(names:List (Str×NameKind)) (acc:List (Str×Addr)),(∀x∈names,x.2=.free→∃a,env.cells.lookup x.1=some a) →
  ∃cl,(forIn names acc fun (x:Str×NameKind) (cs:List (Str×Addr))=>if (x.2 == .free)=true then(do let a ←cellOf env x.1;pure (ForInStep.yield ((x.1,a)::cs))) else pure (ForInStep.yield cs):Sem (List (Str×Addr)))=pure cl ∧
   (∀x a,cl.lookup x=some a→acc.lookup x=some a∨env.cells.lookup x=some a)∧(∀x,((x,NameKind.free)∈names∨∃a,acc.lookup x=some a)→∃a,cl.lookup x=some a)
 |[],acc,_=>⟨acc,rfl,fun x a h=>.inl h,fun x h=>by
   rcases h with h|h
   ·simp at h
   ·exact h⟩
 | (n,k)::r,acc,h=>by
  by_cases hk:k=.free
  ·subst hk;obtain⟨a,ha⟩:=h (n,.free) (by simp) rfl
   obtain⟨cl,e,h1,h2⟩:=gJ r ((n,a)::acc) fun x hx=>h x (qt _ hx)
   refine⟨cl,?_,fun x b q=>?_,fun x q=>h2 x ?_⟩
   ·rw[List.forIn_cons];simp only[beq_self_eq_true,if_true,cellOf,ha];exact e
   ·rcases h1 x b q with z|z
    ·rw[lookup_cons]at z;cases hx:x == n with
     |true =>
      rw[hx]at z;have:x=n:=t7.mp hx
      subst this;cases z;exact .inr ha
     |false=>rw[hx]at z;exact .inl z
    ·exact .inr z
   ·by_cases hx:x=n
    ·subst hx;exact .inr ⟨a,by simp⟩
    ·have hb:(x == n)=false:=by simpa using hx
     rcases q with q|⟨b,q⟩
     ·rcases sg.mp q with q|q
      ·exact absurd (Prod.mk.inj q).1 hx
      ·exact .inl q
     ·exact .inr ⟨b,by rw[lookup_cons,hb];exact q⟩
  ·have hb:(k == NameKind.free)=false:=by simpa using hk
   obtain⟨cl,e,h1,h2⟩:=gJ r acc fun x hx=>h x (qt _ hx)
   refine⟨cl,?_,h1,fun x q=>h2 x ?_⟩
   ·rw[List.forIn_cons];simp only[hb,qr,if_false];exact e
   ·rcases q with q|q
    ·rcases sg.mp q with q|q
     ·exact absurd (Prod.mk.inj q).2.symm hk
     ·exact .inl q
    ·exact .inr q
theorem oO{env:Env}{sc:Scope}(h:∀x∈sc.names,x.2=.free→∃a,env.cells.lookup x.1=some a) :
  ∃cl,closureFor sc env=pure cl∧(∀x a,cl.lookup x=some a→env.cells.lookup x=some a)∧(∀x,(x,NameKind.free)∈sc.names→∃a,cl.lookup x=some a):=by
 obtain⟨cl,e,h1,h2⟩:=gJ (env:=env) sc.names [] h;refine⟨cl,?_,fun x a q=>(h1 x a q).elim (fun z=>by simp at z) id,fun x q=>h2 x (.inl q)⟩
 show ((forIn sc.names [] fun (x:Str×NameKind) (cs:List (Str×Addr))=>if (x.2 == .free)=true then(do let a ←cellOf env x.1;pure (ForInStep.yield ((x.1,a)::cs))) else pure (ForInStep.yield cs):Sem (List (Str×Addr))) >>= fun cs=>pure cs)=pure cl
 rw[e];rfl
noncomputable def wR(X:Cx)(N':List Str)(sc:Scope)(cl:List (Str×Addr))(C:Addr)(s:Shared)(H:Hp)(fp:List Addr)(E:vd):Cx:=
 {X with N:=N',s₀:=s,H₀:=H,env:=compEnvC sc cl C X.env,outer:=X.stack,ex:=fp,fn:=fun _=>false,pn:=[],xe:=E }
theorem tW{prog:vc}{w:World}{A:Around}{R:Result→Shared→Prop}{s:Shared}{elt target iter:Expr}{ifs:List Expr}{scope:Scope}{pos:Pos}{it acc:Value}{env:Env}(I:Nat→Shared→Prop)
  (turn:∀n s,I n s→wpAny (model prog w) A (pyNext it) (fun r s₁=>match r with
   |none=>R (.ok .next) s₁
   |some v=>wpAny (model prog w) A (letOwnedTupleGo target it v) (fun _ s₁=>wpAny (model prog w) A (assign target env v) (fun _ s₂ =>
     wpAny (model prog w) A (forIn ifs true fun c r=>if r=true then do let ok ←isTrue c env (eval c env);pure (ForInStep.yield ok) else pure (ForInStep.yield r)) (fun ok s₃ =>
      if ok=true then wpAny (model prog w) A (eval elt env) (fun x s₄ =>
       wpAny (model prog w) A (call (.builtin "list.append") [acc,x]) (fun _ s₅=>∃m,m<n∧I m s₅) (notedBy (model prog w) A env fun e s'=>R (.error e) s') s₄) (notedBy (model prog w) A env fun e s'=>R (.error e) s') s₃
      else ∃m,m<n∧I m s₃) (notedBy (model prog w) A env fun e s'=>R (.error e) s') s₂) (notedBy (model prog w) A env fun e s'=>R (.error e) s') s₁) (notedBy (model prog w) A env fun e s'=>R (.error e) s') s₁) (notedBy (model prog w) A env fun e s'=>R (.error e) s') s)
  (n:Nat) (h:I n s):codeAny (model prog w) A (.compLoop (.ListComp elt [⟨target,iter,ifs,0⟩] scope pos) 0 it acc env) R s:=by
 refine codeAny_loop rfl I (fun n s hI=>?_) n h
 show wpAny _ A ((compTurn (.ListComp elt [⟨target,iter,ifs,0⟩] scope pos) 0 it acc env).onRaise (fun x=>do noteFrame x env;theTreesLotGoes x)) _ _ s
 refine wpAny_noted ?_;rw[compTurn_list];refine u7 (wpAny_standAt (u7 (ub (turn n s hI) (fun r s₁ h₁=>?_) fun _ _ h'=>h')))
 cases r with
 |none=>exact ua h₁
 |some v =>
  refine u7 (ub h₁ (fun _ s₁' h₁'=>?_) fun _ _ h'=>h')
  refine u7 (ub h₁' (fun _ s₂ h₂=>u7 (ub h₂ (fun ok s₃ h₃=>?_) fun _ _ h'=>h')) fun _ _ h'=>h')
  cases ok with
  |false=>exact ua ⟨rfl,h₃⟩
  |true =>
   exact u7 (u7 (ub h₃ (fun x s₄ h₄=>u7 (ub h₄ (fun _ s₅ h₅=>ua (ua ⟨rfl,h₅⟩)) fun _ _ h'=>h')) fun _ _ h'=>h'))
section
variable {CX:au}{X:Cx}{c:CC}{G:GS}{T:Tx}{lv:Nat}{pins:ve}{σ:L2.St}{H:Hp}{s:Shared}
theorem kW(I:Inv X pins σ H s){N':List Str}{sc:Scope}{cl:List (Str×Addr)}{C:Addr}{fp:List Addr}{E:vd}(hk:sc.kind=.function)(hC:s.heap.objs.size≤C)
  (az:∀x a,cl.lookup x=some a→X.env.cells.lookup x=some a) (b0:∀x,(x,NameKind.free)∈sc.names→∃a,cl.lookup x=some a) (hnc:∀x∈sc.names,x.2≠.cell)
  (hf:∀b∈fp,oU X pins H b) (gj:∀b∈fp,b<s.heap.objs.size):(wR X N' sc cl C s H fp E).Ok where
 mod:=I.ok.mod
 kind:=hk
 glob:=I.ok.glob
 blt:=I.ok.blt
 above:=hC
 inj:=fun x y c h1 h2=>I.ok.inj x y c (az _ _ h1) (az _ _ h2)
 has:=fun x hx=>by
  have e:∀k,(relabel sc X.env).names.lookup x=some k→(k=.cell∨k=.free)→(x,NameKind.free)∈sc.names:=fun k e hk=>by
   rw[fN]at e;cases q:sc.names.lookup x with
   |none=>rw[q]at e;cases e
   |some k0 =>
    rw[q]at e;have hm:=t9 q
    by_cases fc:k0=.free
    ·subst fc;exact hm
    ·have hb:(k0 == NameKind.free)=false:=by simpa using fc
     simp only[ud,hb,Bool.false_and,qr,if_false,qg]at e;subst e
     rcases hk with z|z
     ·exact absurd z (hnc _ hm)
     ·exact absurd z fc
  rcases hx with hx|hx
  ·exact b0 x (e _ hx (.inl rfl))
  ·exact b0 x (e _ hx (.inr rfl))
 cab:=fun x c h=>by cases h
 hd:=I.ok.hd
 frames:=I.ok.frames
 stk:=.inl rfl
 exf:=fun b hb=>⟨tj (qz (gj b hb) hC),fun x c e=>(hf b hb).2.2.2.2.1 x c (az _ _ e)⟩
 bs:=I.bs
 bsz:=se I.ok.bsz I.sz
 noex:=fun b o e hb=>by
  obtain⟨_,_,_,h1,_⟩:=hf b hb
  rcases h1 with h1|h1
  ·exact I.ok.noex b o e h1
  ·exact absurd (qz (rq e) I.ok.bsz) (not_lt.mpr h1)
 exfs:=fun b hb hs=>by
  obtain⟨_,h1,h2,_⟩:=hf b hb
  rcases sg.mp (I.stkSub b hs) with z|z
  ·exact h1 z
  ·exact h2 z
 funs:=I.stack
 frf:=I.stkFree
end
section
variable {CX:au}{X:Cx}{c:CC}{G:GS}{T:Tx}{lv:Nat}{pins:ve}{σ:L2.St}{H:Hp}{s:Shared}
structure a9 (c:CC) (sc:Scope):Prop where
 kind:sc.kind=.function
 nocell:∀x∈sc.names,x.2≠.cell
 loc:∀x∈sc.names,x.2=.local→sc.names.lookup x.1=some .local
 fl:∀x∈sc.names,x.2=.free→sc.names.lookup x.1=some .free
 nd:(ownNames sc).Nodup
 dbg:∀x∈ownNames sc,(x == ("__debug__":Str))=false∧(x == ("__classdict__":Str))=false
 gdb:sc.names.lookup ("__debug__":Str)≠some .globalImplicit
 fre:∀x∈sc.names,x.2=.free→c.sc.names.lookup x.1=some .cell∨c.sc.names.lookup x.1=some .free
theorem qO{sc:Scope}(h:jZ c sc=true):a9 c sc:=by
 unfold jZ at h;simp only[qv]at h;obtain⟨⟨⟨⟨⟨⟨⟨h1,h2⟩,h3⟩,h8⟩,h4⟩,h5⟩,h6⟩,h7⟩:=h;rw[all_eq_true]at h2 h3 h5 h7 h8;refine⟨t7.mp h1,fun x hx=>?_,fun x hx e=>?_,fun x hx e=>?_,of_decide_eq_true h4,fun x hx=>?_,fun e=>?_,fun x hx e=>?_⟩
 ·have:=h2 x hx
  simpa using this
 ·have:=h3 x hx
  simpa [e] using this
 ·have:=h8 x hx
  simpa [e] using this
 ·have:=h5 x hx
  simpa [qv] using this
 ·rw[e]at h6;simp at h6
 ·have:=h7 x hx
  simpa [e] using this
theorem LH(h:XC CX X c G T lv){sc:Scope}(cs:a9 c sc){cl:List (Str×Addr)}{C:Addr}{s:Shared}{H:Hp}{fp:List Addr}{E:vd} :
  XC CX (wR X (ownNames sc) sc cl C s H fp E) { c with N:=ownNames sc,sc:=sc } G T lv where
 N:=rfl
 nd:=cs.nd
 kd:=fun x=>by
  show uD (sc.names.lookup x) ((relabel sc X.env).names.lookup x)
  rw[fN];cases q:sc.names.lookup x with
  |none=>trivial
  |some k =>
   cases k with
   | «local»=>rfl
   |cell=>exact absurd rfl (cs.nocell _ (t9 q))
   |free =>
    simp only[ud,uD]
    by_cases hc:((NameKind.free == NameKind.free)&&X.env.scope.kind == .function&&X.env.kindOf x == some .cell)=true
    ·rw[if_pos hc];exact .inr rfl
    ·rw[if_neg hc];exact .inl rfl
   |globalExplicit=>trivial
   |globalImplicit=>rfl
 own:=fun x e=>absurd rfl (cs.nocell _ (t9 e))
 dbg:=cs.dbg
 gdb:=by
  unfold aW;exact tf.mpr cs.gdb
 calm:=h.calm
 room:=h.room
 go:=⟨h.go.fn,h.go.me,h.go.cls,h.go.fld,h.go.mo,h.go.cst,h.go.bi,h.go.xcl,h.go.frs,h.go.cx0,h.go.cxf,h.go.xns,h.go.xk,h.go.sub,h.go.wd,h.go.dk⟩
theorem FC{sc:Scope}:∀{l:List (Str×NameKind)} {fr:List (Nat×Nat)} {i j:Nat},freeOf c sc l=some fr→fr.lookup i=some j→∃x∈l,(ownNames sc).idxOf? x.1=some i∧cV c x.1=some j:=by
 intro l
 induction l with
 |nil =>
  intro fr i j h e;simp only[freeOf]at h;cases h;simp at e
 |cons x r ih =>
  intro fr i j h e;simp only[freeOf,qo,qi]at h;obtain⟨a,h1,b,h2,t,h3,h4⟩:=h;cases h4;rw[lookup_cons]at e;cases q:i == a with
  |true =>
   rw[q]at e;cases e;have:i=a:=by simpa using q
   subst this;exact⟨x,by simp,h1,h2⟩
  |false =>
   rw[q]at e;obtain⟨y,hy,z⟩:=ih h3 e;exact⟨y,qt _ hy,z⟩
noncomputable def eJ(n:Nat)(fr:List (Nat×Nat))(σ:L2.St):L2.St:=(List.range n).map fun i=>match fr.lookup i with
 |some j=>σ.getD j none
 |none=>none
theorem KA{K:va}{S:Addr→Prop}{ρ:List Sl}{n:Nat}{fr:List (Nat×Nat)}(re:RE K T H S ρ σ):RE K T H S (frame n fr ρ) (eJ n fr σ):=by
 refine⟨re.dom,by simp[frame,eJ],fun i sl e=>?_⟩
 unfold frame at e;unfold eJ;rw[qk]at e ⊢;cases hr:(List.range n)[i]? with
 |none=>rw[hr]at e;cases e
 |some k =>
  rw[hr]at e;simp only[ud,qg]at e ⊢;subst e;cases q:fr.lookup k with
  |none=>trivial
  |some j =>
   simp only;cases q2:ρ[j]? with
   |none =>
    rw[q9,q2];trivial
   |some sl =>
    have h:=re.at_ j sl q2
    rw[q9,q2];simp only[getD_some];cases sl with
    |un=>trivial
    |im d =>
     obtain⟨v,e1,r⟩:=h;exact⟨v,by rw[q9,e1];rfl,r⟩
    |mu ds =>
     obtain⟨p,xs,e1,r⟩:=h;exact⟨p,xs,by rw[q9,e1];rfl,r⟩
theorem RE.gen{K:va}{H':Hp}{S S':Addr→Prop}{ρ:List Sl}(re:RE K T H S ρ σ)(mv:aO K H H' S S')(hm:∀a ob,S a→H a=some ob→(∃d,lV K T H S d ob)→S' a∧H' a=some ob)(hd:∀a,S' a→∃o,H' a=some o):RE K T H' S' ρ σ:=by
 refine⟨hd,re.len,fun i sl e=>?_⟩
 have h:=re.at_ i sl e
 cases sl with
 |un=>trivial
 |im d=>obtain⟨v,e1,r⟩:=h;exact⟨v,e1,Rep.gen mv d v r⟩
 |mu ds =>
  obtain⟨p,xs,e1,sp,hp,r⟩:=h;obtain⟨a1,a2⟩:=hm p xs sp hp ⟨ds,r⟩;exact⟨p,xs,e1,a1,a2,r.gen mv⟩
theorem JQ(h:XC CX X c G T lv)(I:Inv X pins σ H s){sc:Scope}(cs:a9 c sc){cl:List (Str×Addr)}{fr:List (Nat×Nat)}{C:Addr}{fp:List Addr}{E:vd}{s4:Shared}{m:vf}
  (aw:freeOf c sc (sc.names.filter fun x=>x.2 == .free)=some fr)
  (az:∀x a,cl.lookup x=some a→X.env.cells.lookup x=some a) (b0:∀x,(x,NameKind.free)∈sc.names→∃a,cl.lookup x=some a)
  (hf:∀b∈fp,oU X pins H b) (gj:∀b∈fp,b<s.heap.objs.size) (hC:s.heap.objs.size≤C) (hn:s4.heap.Ns C m) (hk:∀b o,s.heap.get? b=some o→s4.heap.get? b=some o)
  (j6:s4.os=s.os) (jm:AllBare s4.gens):Inv (wR X (ownNames sc) sc cl C s H fp E) [] (eJ (ownNames sc).length fr σ) H s4 where
 ok:=kW I cs.kind hC az b0 cs.nocell hf gj
 os:=j6
 bare:=jm
 base:=Un.kept hk
 loc:=⟨m,hn,fun i x v h1 h2 h3=>by
  unfold eJ at h2;rw[qk]at h2;cases hr:(List.range (ownNames sc).length)[i]? with
  |none=>rw[hr]at h2;cases h2
  |some k =>
   have ek:k=i:=by
    obtain⟨_,e⟩:=q8.mp hr;simpa using e.symm
   subst ek;rw[hr]at h2;simp only[ud,qg]at h2;cases q:fr.lookup k with
   |none=>rw[q]at h2;cases h2
   |some j =>
    rw[q]at h2;simp only at h2;obtain⟨y,hy,hy1,fu⟩:=FC aw q;have hyx:y.1=x:=by
     have:=hZ hy1
     have o7:(ownNames sc)[k]?=some x:=h1
     rw[o7]at this;exact(qw this).symm
    obtain⟨hym,hyf⟩:=List.mem_filter.mp hy;have hyf':y.2=.free:=by simpa using hyf
    have hxm:(x,NameKind.free)∈sc.names:=by
     rw[←hyx,←hyf'];exact hym
    obtain⟨hN,_⟩:=rJ fu;rw[hyx]at hN fu;have hσ:σ[j]?=some (some v):=by
     rw[q9]at h2;cases q2:σ[j]? with
     |none=>rw[q2]at h2;cases h2
     |some o=>rw[q2]at h2;simp only[getD_some]at h2;rw[h2]
    obtain⟨m0,_,hl⟩:=I.loc;have oy:=cs.fre _ hym hyf'
    rw[hyx]at oy;obtain⟨u,ru,lk⟩:=hl j x v (by rw[h.N];exact hN) hσ (h.vis (.inr oy))
    refine⟨u,ru,.inr ?_⟩;have kd:=h.kd x
    have notloc:X.env.kindOf x≠some .local:=by
     rcases oy with z|z
     ·rw[z]at kd;intro w;rw[kd]at w;cases w
     ·rw[z]at kd;intro w
      rcases kd with kd|kd<;>(rw[kd]at w;cases w)
    rcases lk with ⟨z,_⟩|⟨_,cc,e1,e2⟩
    ·exact absurd z notloc
    ·obtain⟨a,ha⟩:=b0 x hxm;have ea:=az x a ha
     rw[e1]at ea;cases ea;refine⟨?_,cc,ha,?_⟩
     ·show (relabel sc X.env).names.lookup x=some .cell∨(relabel sc X.env).names.lookup x=some .free
      rw[fN];have hlk:sc.names.lookup x=some .free:=cs.fl _ hxm rfl
      rw[hlk];simp only[ud];split
      ·exact .inl rfl
      ·exact .inr rfl
     ·obtain⟨o,h5,h6⟩:=e2;exact⟨o,hk _ _ h5,h6⟩⟩
 cell:=fun x a e=>by
  obtain⟨v,o,h5,h6⟩:=I.cell x a (az x a e);exact⟨v,o,hk _ _ h5,h6⟩
 free:=I.hok.fresh hC
 freeC:=fun x a e=>I.freeC x a (az x a e)
 pin:=fun p hp=>absurd (show p∈([]:ve) from hp) (by simp)
 hok:=I.hok.kept hk
 len:=by simp[eJ,wR]
end
section
variable {CX:au}{X:Cx}{c:CC}{G:GS}{T:Tx}{lv:Nat}{pins:ve}{σ:L2.St}{H:Hp}{s:Shared}
theorem wU{f:D→Option (Option D)}{d:D}{r out:List D}(h:bU f (d::r)=some out):∃o t,f d=some o∧bU f r=some t∧out=(match o with|some y=>y::t|none=>t):=by
 simp only[bU,qo,qi]at h;obtain⟨o,h1,t,h2,h3⟩:=h;refine⟨o,t,h1,h2,?_⟩;cases o<;>simp at h3<;>exact h3.symm
def TurnOk(CX:au)(G:GS)(T:Tx)(lv:Nat)(c':CC)(K:va)(ifs:List Expr)(elt:Expr)(ρ1:List Sl)(o:Option D):Prop:=
 ∀(X':Cx) (S:Addr→Prop),XC CX X' c' G T lv→X'.K=K →
  ((ifs=[]∧o.isSome=true)∨∃e,ifs=[e]∧PT X' e (gc X'.K T S ρ1 o.isSome))∧∀y,o=some y→PE X' elt (tD X'.K T S ρ1 y)
theorem oK(h:XC CX X c G T lv){sc:Scope}(cs:a9 c sc){tg iter elt:Expr}{ifs:List Expr}{pos:Pos}{cl:List (Str×Addr)}{fr:List (Nat×Nat)}{aT:List Nat}{tp:Bool}{ρ:List Sl}{S:Addr→Prop}
  {J:It} {fp:List Addr} {it:Addr} {tn:Nat→Heap→Prop} {ds outs:List D} {f:D→Option (Option D)} {RR:Value→Addr→Result→Shared→Prop} {E:vd}
  (aw:freeOf c sc (sc.names.filter fun x=>x.2 == .free)=some fr) (om:aT.all (fun i=>(fr.lookup i).isNone)=true) (ez:cZ { c with N:=ownNames sc,sc:=sc } tg=some (aT,tp))
  (az:∀x a,cl.lookup x=some a→X.env.cells.lookup x=some a) (b0:∀x,(x,NameKind.free)∈sc.names→∃a,cl.lookup x=some a)
  (I:Inv X pins σ H s) (re:RE X.K T H S ρ σ) (TU:Turn X.prog X.w X.K tg J fp it tn) (st:tn 0 s.heap) (hf:∀b∈fp,oU X pins H b) (jy:js X.K T S H J ds) (hlen:ds.length≤sizeLine)
  (gz:bU f ds=some outs) (du:∀d o,f d=some o→∃ρ1,bK aT tp d (frame (ownNames sc).length fr ρ)=some ρ1∧TurnOk CX G T lv { c with N:=ownNames sc,sc:=sc } X.K ifs elt ρ1 o)
  (hRR:∀(D C:Addr) (s':Shared) (H':Hp) (ys:List V) (m:vf),Inv X pins σ H' s'→aI H H'→H D=none→H' D=some (.lst ys)→aE X.K T (er H' D) S outs ys→s'.heap.Ns C m →
   (H' C=none∧C≠X.env.locals∧X.s₀.heap.objs.size≤C∧(∀x a,X.env.cells.lookup x=some a→a≠C)∧∀p∈X.pn++pins,p.1≠C)→RR (.ref D) C (.ok .next) s') :
  wpAny (model X.prog X.w) X.A (newList []) (fun acc s₃=>wpAny (model X.prog X.w) X.A (newFunctionEnv sc X.env.globals cl [] X.env.qual none .none (some X.env)) (fun cenv s₄ =>
   codeAny (model X.prog X.w) X.A (.compStart (.ListComp elt [⟨tg,iter,ifs,0⟩] sc pos) 0 (.ref it) acc { cenv with scope:=relabel sc X.env }) (RR acc cenv.locals) s₄) E s₃) E s:=by
 refine wpAny_newObj_type (wpAny_newFunctionEnv cs.nocell (by intro y hy;simp at hy) (fun h₁ hns₁ hsb₁=>?_) cs.kind)
 dsimp only at hns₁ hsb₁ ⊢;have I3:=I.lnew (t':=s.toks) (its:=[]) (ys:=[]) .nil (uw _)
 have gj:∀b∈fp,b<s.heap.objs.size:=fun b hb=>by
  obtain⟨o,e,_⟩:=TU.obj _ _ st b hb;exact rq e
 generalize hD:s.heap.objs.size=D at *;generalize hs3:s.heap.push { cls:=.type "list",dict:=none,data:=.seq ([]:List Value).toArray }=h3 at *;have hC:h3.objs.size=D+1:=by rw[←hs3,size_push,hD]
 generalize l8:h3.objs.size=C at *;have jo:H D=none:=by rw[←hD];exact I.hok.fresh (qm _)
 have hKD:X.K.lookup D=none:=by
  cases q:X.K.lookup D with
  |none=>rfl
  |some o =>
   have e:=I.kIn D o q
   exact absurd (rq e) (by rw[hD];exact u0 _)
 have k3:∀b o,s.heap.get? b=some o→h3.get? b=some o:=fun b o e=>by rw[←hs3];exact qq _ e
 have k4:∀b o,h3.get? b=some o→h₁.get? b=some o:=fun b o e=>hsb₁.extBut b o (by rw[←l8];exact tj (rq e)) (qq _ e)
 have re3:RE X.K T (upd H D (.lst [])) (fun a=>S a∨a=D) ρ σ:=re.gen (aO.add jo hKD) (fun a xs hs e _=>⟨.inl hs,by rw[aN (bE e jo)];exact e⟩) fun a hs=>by
  rcases hs with z|z
  ·obtain⟨o,e⟩:=re.dom a z;exact⟨o,by rw[aN (bE e jo)];exact e⟩
  ·subst z;exact⟨_,aM⟩
 have oz:∀b∈fp,oU X pins (upd H D (.lst [])) b:=fun b hb=>⟨by rw[aN (tj (gj b hb))];exact(hf b hb).1,(hf b hb).2⟩
 have hfl3:∀b∈fp,b<h3.objs.size:=fun b hb=>by rw[l8,hC];exact Nat.lt_succ_of_lt (gj b hb)
 have loop:∀(E':vd) (s4:Shared),s4={ s with heap:=h₁,toks:=s.toks+([]:List (Str×Value)).length } →
   codeAny (model X.prog X.w) X.A (.compLoop (.ListComp elt [⟨tg,iter,ifs,0⟩] sc pos) 0 (.ref it) (.ref D) (compEnvC sc cl C X.env)) (RR (.ref D) C) s4:=by
  rintro E' s4 rfl
  let EN:=notedBy (model X.prog X.w) X.A (compEnvC sc cl C X.env) fun e s'=>RR (.ref D) C (.error e) s'
  let Y:=wR X (ownNames sc) sc cl C { s with heap:=h3,toks:=s.toks } (upd H D (.lst [])) fp EN
  have xY:XC CX Y { c with N:=ownNames sc,sc:=sc } G T lv:=LH h cs
  have J0:Inv Y [] (eJ (ownNames sc).length fr σ) (upd H D (.lst [])) { s with heap:=h₁,toks:=s.toks+([]:List (Str×Value)).length }:=
   JQ h I3 cs aw az b0 oz hfl3 (by show h3.objs.size≤C;rw[l8];exact qm _) hns₁ k4 rfl I3.bare
  have eg:∀{H':Hp},(∀b∈fp,H' b=none)→∀b∈fp,oU Y [] H' b:=fun hn b hb =>
   ⟨hn b hb,((kW (E:=EN) (N':=ownNames sc) I3 cs.kind (show h3.objs.size≤C by rw[l8];exact qm _) az b0 cs.nocell oz hfl3).exf b hb).1,
    (kW (E:=EN) (N':=ownNames sc) I3 cs.kind (show h3.objs.size≤C by rw[l8];exact qm _) az b0 cs.nocell oz hfl3).exfs b hb,.inl hb,
    ((kW (E:=EN) (N':=ownNames sc) I3 cs.kind (show h3.objs.size≤C by rw[l8];exact qm _) az b0 cs.nocell oz hfl3).exf b hb).2,fun p hp=>absurd (show p∈([]:ve) from hp) (by simp)⟩
  have jl:∀(σ':L2.St) (H':Hp),aI H H'→(∃ys,H' D=some (.lst ys))→σ'.length=(ownNames sc).length→(∀j,j∉aT→σ'[j]?=(eJ (ownNames sc).length fr σ)[j]?) →
    RE X.K T H' (fun a=>S a∨a=D) (frame (ownNames sc).length fr ρ) σ':=fun σ' H' sm hys hl ag=>by
   have r0:=KA (n:=(ownNames sc).length) (fr:=fr) re
   have mv:aO X.K H H' S (fun a=>S a∨a=D):=fun a n hh=>by
    have ne:a≠D:=by
     rintro rfl
     rcases hh with ⟨u,e⟩|⟨u,e⟩
     ·rw[jo]at e;cases e
     ·rw[hKD]at e;cases e
    exact⟨fun z=>z.elim n ne,fun o e=>sm a o e⟩
   refine⟨fun a hs=>?_,by simp[frame,hl],fun j sl e=>?_⟩
   ·rcases hs with z|z
    ·obtain⟨o,e⟩:=re.dom a z;exact⟨o,sm a o e⟩
    ·subst z;obtain⟨ys,e⟩:=hys;exact⟨_,e⟩
   ·have h0:=r0.at_ j sl e
    by_cases hj:j∈aT
    ·have hu:sl=.un:=by
      unfold frame at e;rw[qk]at e;cases hr:(List.range (ownNames sc).length)[j]? with
      |none=>rw[hr]at e;cases e
      |some k =>
       have ek:k=j:=by
        obtain⟨_,e'⟩:=q8.mp hr;simpa using e'.symm
       subst ek;rw[hr]at e;simp only[ud,qg]at e;have:=all_eq_true.mp om k hj
       cases q:fr.lookup k with
       |none =>
        rw[q]at e;simpa using e.symm
       |some z=>rw[q]at this;simp at this
     subst hu;trivial
    ·rw[ag j hj];cases sl with
     |un=>trivial
     |im d=>obtain⟨v,e1,r⟩:=h0;exact⟨v,e1,Rep.gen mv d v r⟩
     |mu ds'=>obtain⟨p,xs,e1,sp,hp,r⟩:=h0;exact⟨p,xs,e1,.inl sp,sm _ _ hp,r.gen mv⟩
  refine tW (fun k s'=>∃(i:Nat) (σ':L2.St) (H':Hp) (ys:List V) (pre post:List Z.D),k=ds.length+1-i∧i≤ds.length∧Inv Y [] σ' H' s'∧tn i s'.heap∧(∀b∈fp,H' b=none) ∧
   aI H H'∧H' D=some (.lst ys)∧aE X.K T H' (fun a=>S a∨a=D) pre ys∧ys.length≤i∧outs=pre++post∧bU f (ds.drop i)=some post ∧
   σ'.length=(ownNames sc).length∧(∀j,j∉aT→σ'[j]?=(eJ (ownNames sc).length fr σ)[j]?)) ?_ (ds.length+1)
   ⟨0,_,_,[],[],outs,rfl,uw _,J0,TU.keep _ _ _ st fun b _ o e=>k4 b o (k3 b o e),fun b hb=>(oz b hb).1,aI.upd jo,aM,aE.nil,qm _,rfl,by simpa using gz,by simp[eJ],fun _ _=>rfl⟩
  rintro k s' ⟨i,σ',H',ys,pre,post,rfl,hi,IY,sti,fri,same,hHD,rp,hyl,ho,kc,hlσ,hag⟩;have rei:=jl σ' H' same ⟨ys,hHD⟩ hlσ hag
  have mv:aO X.K H H' S (fun a=>S a∨a=D):=fun a n hh=>by
   have ne:a≠D:=by
    rintro rfl
    rcases hh with ⟨u,e⟩|⟨u,e⟩
    ·rw[jo]at e;cases e
    ·rw[hKD]at e;cases e
   exact⟨fun z=>z.elim n ne,fun o e=>same a o e⟩
  obtain⟨it1,it2⟩:=jy H' _ mv rei.dom
  by_cases dw:i<ds.length
  ·obtain⟨d,hd⟩:∃d,ds[i]?=some d:=⟨ds[i],by simp[dw]⟩
   have hdr:ds.drop i=d::ds.drop (i+1):=by
    obtain⟨h1,h2⟩:=q8.mp hd;rw[←h2];exact List.drop_eq_getElem_cons h1
   rw[hdr]at kc;obtain⟨o,t,hfd,ht,hpost⟩:=wU kc;obtain⟨ρ1,hb,hok⟩:=du d o hfd;obtain⟨go,yl⟩:=it1 i d hd;refine af (TU.item Y rfl rfl rfl h.calm i [] s' σ' H' EN IY (eg fri) sti go) fun r s5 ⟨u,hr,h5⟩=>?_
   subst hr;refine af h5 fun _ s6 ⟨x,H6,I6,r6,y6,st6,fr6⟩=>?_
   obtain⟨nh,rd6⟩:=yl x H6 y6;have I6':=I6.pinned (eg fr6) (TU.obj _ _ st6)
   have hD6:H6 D=some (.lst ys):=nh _ _ hHD
   refine af (YI xY (S:=fun a=>S a∨a=D) ez hb _ s6 σ' H6 x u (fun σ2 H2=>H2=H6∧RE X.K T H6 (fun a=>S a∨a=D) ρ1 σ2∧∀j,j∉aT→σ2[j]?=σ'[j]?) I6' r6
    ⟨rei.same nh,rd6,fun σ7 nt ag7=>⟨rfl,nt,ag7⟩⟩) fun _ s7 ⟨σ7,H7,I7,e7,nt,ag7⟩=>?_
   subst e7;have next:∀(s9:Shared) (H9:Hp) (iw:List V) (pre':List Z.D),Inv Y ([]++lG fp s6.heap) σ7 H9 s9→aI H H9→H9 D=some (.lst iw)→aE X.K T H9 (fun a=>S a∨a=D) pre' iw→iw.length≤i+1→outs=pre'++t →
     ∃m,m<ds.length+1-i∧∃(i:Nat) (σ':L2.St) (H':Hp) (ys:List V) (pre post:List Z.D),m=ds.length+1-i∧i≤ds.length∧Inv Y [] σ' H' s9∧tn i s9.heap∧(∀b∈fp,H' b=none) ∧
      aI H H'∧H' D=some (.lst ys)∧aE X.K T H' (fun a=>S a∨a=D) pre ys∧ys.length≤i∧outs=pre++post∧bU f (ds.drop i)=some post ∧
      σ'.length=(ownNames sc).length∧(∀j,j∉aT→σ'[j]?=(eJ (ownNames sc).length fr σ)[j]?):=fun s9 H9 iw pre' I9 jv hD9 rp9 hl9 ho9=>by
    refine⟨ds.length+1-(i+1),by lia,i+1,σ7,H9,iw,pre',t,rfl,dw,I9.unpinned,?_,fun b hb=>?_,jv,hD9,rp9,hl9,ho9,ht,?_,fun j hj=>(ag7 j hj).trans (hag j hj)⟩
    ·exact TU.keep _ _ _ st6 fun b hb o e=>(I9.pin (b,o) (tu _ (tu _ (hV hb e)))).1
    ·obtain⟨o,e,_⟩:=TU.obj _ _ st6 b hb;exact(I9.pin (b,o) (tu _ (tu _ (hV hb e)))).2.1
    ·have l1:=nt.len
     have l2:=I9.len
     exact l2
   obtain⟨cq,helt⟩:=hok Y (fun a=>S a∨a=D) xY rfl
   have fin:∀(s8:Shared) (H8:Hp),Inv Y ([]++lG fp s6.heap) σ7 H8 s8→aI H7 H8 →
     (if o.isSome=true then wpAny (model X.prog X.w) X.A (eval elt (compEnvC sc cl C X.env)) (fun x s₄=>wpAny (model X.prog X.w) X.A (call (.builtin "list.append") [.ref D,x]) (fun _ s₅=>∃m,m<ds.length+1-i∧∃(i:Nat) (σ':L2.St) (H':Hp) (ys:List V) (pre post:List Z.D),m=ds.length+1-i∧i≤ds.length∧Inv Y [] σ' H' s₅∧tn i s₅.heap∧(∀b∈fp,H' b=none) ∧
      aI H H'∧H' D=some (.lst ys)∧aE X.K T H' (fun a=>S a∨a=D) pre ys∧ys.length≤i∧outs=pre++post∧bU f (ds.drop i)=some post ∧
      σ'.length=(ownNames sc).length∧(∀j,j∉aT→σ'[j]?=(eJ (ownNames sc).length fr σ)[j]?)) EN s₄) EN s8
     else ∃m,m<ds.length+1-i∧∃(i:Nat) (σ':L2.St) (H':Hp) (ys:List V) (pre post:List Z.D),m=ds.length+1-i∧i≤ds.length∧Inv Y [] σ' H' s8∧tn i s8.heap∧(∀b∈fp,H' b=none) ∧
      aI H H'∧H' D=some (.lst ys)∧aE X.K T H' (fun a=>S a∨a=D) pre ys∧ys.length≤i∧outs=pre++post∧bU f (ds.drop i)=some post ∧
      σ'.length=(ownNames sc).length∧(∀j,j∉aT→σ'[j]?=(eJ (ownNames sc).length fr σ)[j]?)):=fun s8 H8 I8 iz=>by
    have smH8:aI H H8:=same.trans (nh.trans iz)
    cases o with
    |none =>
     rw[if_neg (by simp)]
     refine next s8 H8 ys pre I8 smH8 (iz _ _ hD6) ((rp.same nh).same iz) (le_succ_of_le hyl) ?_
     rw[ho,hpost]
    |some y =>
     rw[if_pos (show (some y).isSome=true from rfl)]
     refine af (helt y rfl _ s8 σ7 H8 (fun v H9=>aI H8 H9∧Rep X.K T H9 (fun a=>S a∨a=D) y v) I8 ⟨nt.same iz,fun v H9 jv rv=>⟨jv,rv⟩⟩) fun u9 s9 ⟨v,H9,I9,r9,jv,rv⟩=>?_
     have hD9:H9 D=some (.lst ys):=jv _ _ (iz _ _ hD6)
     refine af (pY (X:=Y) _ s9 σ7 H9 (.ref D) [v] (.ref D) [u9] (fun _ H10=>H10=upd H9 D (.lst (ys++[v]))) I9 rfl (.cons r9 .nil) ⟨D,ys,v,rfl,rfl,hD9,by lia,rfl⟩) fun _ gf ⟨_,H10,I10,_,e10⟩=>?_
     subst e10;have smD:aI H (upd H9 D (.lst (ys++[v]))):=fun b ob e=>by
      rw[aN (bE e jo)];exact jv _ _ (smH8 _ _ e)
     have mvD:aO X.K H9 (upd H9 D (.lst (ys++[v]))) (fun a=>S a∨a=D) (fun a=>S a∨a=D):=fun a n _=>⟨n,fun ob e=>by rw[aN (fun z=>n (.inr z))];exact e⟩
     refine next gf _ (ys++[v]) (pre++[y]) I10 smD aM ?_ (by rw[sk];simp;lia) ?_
     ·exact aE.gen mvD _ _ (aE.app (((rp.same nh).same iz).same jv) (aE.cons rv aE.nil))
     ·rw[ho,hpost,qy];rfl
   rcases cq with ⟨hifs,hsome⟩|⟨e,hifs,hpt⟩
   ·subst hifs;refine wpAny_tests_nil ?_;have z:=fin s7 H7 I7 (aI.refl _)
    rw[hsome]at z;exact z
   ·subst hifs;refine wpAny_tests_one (af (hpt _ s7 σ7 H7 (fun b H8=>b=o.isSome∧aI H7 H8) I7 ⟨nt,fun H8 iz=>⟨rfl,iz⟩⟩) fun b s8 ⟨H8,I8,eb,iz⟩=>?_)
    subst eb;exact fin s8 H8 I8 iz
  ·have ei:i=ds.length:=by lia
   subst ei;refine af (TU.done Y rfl rfl rfl h.calm ds.length [] s' σ' H' EN IY (eg fri) sti (it2 _ (qm _))) fun r s5 ⟨hr,I5⟩=>?_
   subst hr;have hp0:post=[]:=by
    rw[uz]at kc;simp only[bU,qg]at kc;exact kc.symm
   subst hp0;rw[sq]at ho;subst ho;obtain⟨m,hnC,_⟩:=I5.loc;have I9:Inv X pins σ H' s5:=I3.call' I5.os I5.base I5.hok I5.bare fun b hb=>⟨(hf b hb).2.2.2.1,(hf b hb).2.1,(hf b hb).2.2.2.2.1,(hf b hb).2.2.2.2.2⟩
   have hCs:s.heap.objs.size≤C:=by rw[hD,hC];exact uf _
   refine hRR D C s5 H' ys m I9 same jo hHD (aE.disown (p:=D) (.inr rfl) (fun a z=>.inl z) rp) hnC ⟨I5.free,?_,se I.sz hCs,fun x a e=>?_,fun p hp=>?_⟩
   ·intro z;have:=I.lt
    rw[←z]at this;exact absurd this (not_lt.mpr hCs)
   ·intro z;obtain⟨v,ob,h5,_⟩:=I.cell x a e;rw[z]at h5;exact absurd (rq h5) (not_lt.mpr hCs)
   ·intro z;have:=(I.pin p hp).1
    rw[z]at this;exact absurd (rq this) (not_lt.mpr hCs)
 exact codeAny_compStart_list (loop E _ rfl) (TU.self X.A 0 _ _ _ (TU.keep _ _ _ st fun b _ o e=>k4 b o (k3 b o e)) (loop E _ rfl))
end
section
variable {CX:au}{X:Cx}{c:CC}{G:GS}{T:Tx}{lv:Nat}{ρ:List Sl}{S:Addr→Prop}{tg:Expr}
theorem JN{H1:Hp}{a:Addr}{xs:List V}{ds:List D}(n:¬S a)(hq:SqL X.K H1 a xs)(r:aE X.K T H1 S ds xs):js X.K T S H1 (Itl X.K a) ds:=fun H S' mv dom=>by
 obtain⟨n',k⟩:=mv a n (SqL.has hq);have d6:=SqL.keeps hq k
 refine⟨fun i d e=>?_,fun i hi=>⟨xs,d6,by rw[←r.len];exact hi⟩⟩
 obtain⟨x,e1,rx⟩:=r.get e;refine⟨⟨xs,x,d6,e1⟩,fun y H' ⟨eH,ey⟩=>?_⟩
 subst eH;have:=ey xs d6
 rw[e1]at this;cases this;exact⟨aI.refl _,Rep.gen mv d x rx⟩
theorem RV{H1:Hp}{a:Addr}{xs:List V}{ds:List D}(n:¬S a)(hq:SqT X.K H1 a xs)(r:aE X.K T H1 S ds xs):js X.K T S H1 (Itt X.K a) ds:=fun H S' mv dom=>by
 obtain⟨n',k⟩:=mv a n (SqT.has hq);have d6:=SqT.keeps hq k
 refine⟨fun i d e=>?_,fun i hi=>⟨xs,d6,by rw[←r.len];exact hi⟩⟩
 obtain⟨x,e1,rx⟩:=r.get e;refine⟨⟨xs,x,d6,e1⟩,fun y H' ⟨eH,ey⟩=>?_⟩
 subst eH;have:=ey xs d6
 rw[e1]at this;cases this;exact⟨aI.refl _,Rep.gen mv d x rx⟩
theorem AJ{H1:Hp}{lo hi:Int}:js X.K T S H1 (mG lo (hi-lo).toNat) (cK lo hi):=fun H S' mv dom=>by
 refine⟨fun i d e=>?_,fun i h=>by
  show (hi-lo).toNat≤i
  unfold cK at h;rw[ql,rh]at h;exact h⟩
 unfold cK at e;rw[qk]at e;cases hr:(List.range (hi-lo).toNat)[i]? with
 |none=>rw[hr]at e;cases e
 |some k =>
  obtain⟨h1,e'⟩:=q8.mp hr;have ek:k=i:=by simpa using e'.symm
  subst ek;rw[hr]at e;simp only[ud,qg]at e;subst e;refine⟨by show k<(hi-lo).toNat;simpa using h1,fun y H' ⟨eH,ey⟩=>?_⟩
  subst eH ey;exact⟨aI.refl _,by unfold Rep;rfl⟩
theorem QD{l:Expr}{d:D}{ds:List D}(hl:PE X l (tD X.K T S ρ d))(hi:items .seq d=some ds):PI X tg l (tI X.K T S ρ ds):=by
 intro pins s σ H R I ⟨re,q⟩;refine af (hl pins s σ H (fun v H'=>aI H H'∧Rep X.K T H' S d v) I ⟨re,fun v H' a b=>⟨a,b⟩⟩) fun v s1 ⟨x,H1,I1,r1,sm,rep⟩=>?_
 have golist:∀(a:Addr) (xs:List V),x=.ref a→¬S a→SqL X.K H1 a xs→aE X.K T H1 S ds xs→wpAny (model X.prog X.w) X.A (pyIter v) (PIE X pins σ tg R) X.xe s1:=fun a xs e n hq r=>by
  subst e;cases r1;obtain⟨its,rv,p,hz⟩:=I1.list hq;refine wpAny_pyIter_list p.isList ?_;refine⟨s1.heap.objs.size,[s1.heap.objs.size],_,_,H1,rfl,I1.kept (t':=s1.toks) fun b o e=>qq _ e,DP a _,⟨_,uc _ rfl,rfl,rfl⟩,fun b hb=>?_,q _ _ sm (JN n hq r) (by rw[r.len];exact hz)⟩
  have e:b=s1.heap.objs.size:=by simpa using hb
  subst e;exact I1.fpOk (qm _) (I1.hok.fresh (qm _))
 cases d<;>simp only[items,UR,reduceCtorEq,qg]at hi
 ·subst hi;unfold Rep at rep;obtain⟨a,xs,e,n,hq,r⟩:=rep;exact golist a xs e n (SqL.of hq) r
 ·subst hi;unfold Rep at rep;obtain⟨a,xs,e,n,hq,r⟩:=rep;subst e;cases r1;obtain⟨its,rv,p,hz⟩:=I1.tuple hq;refine wpAny_pyIter_tuple (show s1.heap.IsTuple a its.toArray from p) ?_
  refine⟨s1.heap.objs.size,[s1.heap.objs.size],_,_,H1,rfl,I1.kept (t':=s1.toks) fun b o e=>qq _ e,xG a _,⟨_,uc _ rfl,rfl,rfl⟩,fun b hb=>?_,q _ _ sm (RV n hq r) (by rw[r.len];exact hz)⟩
  have e:b=s1.heap.objs.size:=by simpa using hb
  subst e;exact I1.fpOk (qm _) (I1.hok.fresh (qm _))
 ·subst hi;unfold Rep at rep;obtain⟨a,xs,e,n,hq,r⟩:=rep;exact golist a xs e n hq r
theorem pV{lo hi:Int}(h:(hi-lo).toNat≤big):(cK lo hi).length≤sizeLine:=by
 unfold cK;rw[ql,rh];exact se h iY
theorem fV{i:Int}(h:dS i=true):-(2 ^ 62)≤i∧i<2 ^ 62:=by
 unfold dS at h;rw[qv]at h;exact⟨of_decide_eq_true h.1,of_decide_eq_true h.2⟩
theorem QE{args:List Expr}{p pos:Pos}{as ds:List D}(hg:Gl X "range")(hm:X.mg "range" = none)(ha:PA X args (c6 X.K T S ρ as))(hs:starEach args X.env=args.map fun e=>(false,eval e X.env))(hi:items .rng (.tup as)=some ds)(hlen:as.length=args.length) :
  PI X tg (.Call (.Name "range" p) args [] pos) (tI X.K T S ρ ds):=by
 simp only[items]at hi;unfold AK at hi;split at hi
 ·rename_i j;split at hi
  ·rename_i hc;rw[qv]at hc;cases hi;obtain⟨b1,b2⟩:=fV hc.1
   match args,hlen with
   |[a],_ =>
    intro pins s σ H R I ⟨re,q⟩;refine EB hg hm ha hs pins s σ H R I ⟨re,fun vs H' sm r=>?_⟩
    unfold aE at r;obtain⟨x,r',rfl,rx,rr⟩:=r;unfold aE at rr;subst rr;unfold Rep at rx;subst rx;refine⟨j,rfl,b1,b2,?_⟩;have hz:=pV (lo:=0) (hi:=j) (by simpa using of_decide_eq_true hc.2)
    have:=q (mG 0 (j-0).toNat) H' sm AJ hz
    simpa using this
  ·cases hi
 ·rename_i i j;split at hi
  ·rename_i hc;rw[qv,qv]at hc;cases hi;obtain⟨b1,b2⟩:=fV hc.1.1;obtain⟨b3,b4⟩:=fV hc.1.2
   match args,hlen with
   |[a,b],_ =>
    intro pins s σ H R I ⟨re,q⟩;refine EA hg hm ha hs (by
     have h2:=congrArg List.tail hs
     have e:starEach [a,b] X.env=(false,eval a X.env)::starEach [b] X.env:=by
      cases a<;>first|rfl|(simp[starEach]at hs)
     rw[e]at h2;exact h2) pins s σ H R I ⟨re,fun vs H' sm r=>?_⟩
    unfold aE at r;obtain⟨x,r',rfl,rx,rr⟩:=r;unfold aE at rr;obtain⟨y,r'',rfl,ry,rr⟩:=rr;unfold aE at rr;subst rr;unfold Rep at rx ry;subst rx ry;exact⟨i,j,rfl,⟨b1,b2,b3,b4⟩,q _ H' sm AJ (pV (of_decide_eq_true hc.2))⟩
  ·cases hi
 ·cases hi
theorem nV(h:XC CX X c G T lv){pins:ve}{σ:L2.St}{H:Hp}{s:Shared}(I:Inv X pins σ H s){sc:Scope}(cs:a9 c sc):∀x∈sc.names,x.2=.free→∃a,X.env.cells.lookup x.1=some a:=fun x hx hf=>by
 refine I.ok.has x.1 ?_;have k:=h.kd x.1
 rcases cs.fre x hx hf with e|e
 ·rw[e]at k;exact .inl k
 ·rw[e]at k
  rcases k with k|k
  ·exact .inr k
  ·exact .inl k
theorem QJ(h:XC CX X c G T lv){sc:Scope}(chk:jZ c sc=true){iter elt:Expr}{ifs:List Expr}{pos:Pos}{fr:List (Nat×Nat)}{aT:List Nat}{tp:Bool}{ds outs:List D}{f:D→Option (Option D)}
  (aw:freeOf c sc (sc.names.filter fun x=>x.2 == .free)=some fr) (om:aT.all (fun i=>(fr.lookup i).isNone)=true) (ez:cZ { c with N:=ownNames sc,sc:=sc } tg=some (aT,tp))
  (hi:PI X tg iter (tI X.K T S ρ ds)) (hs:∀x,foldedSetIterable iter X.env x=pure x)
  (gz:bU f ds=some outs) (du:∀d o,f d=some o→∃ρ1,bK aT tp d (frame (ownNames sc).length fr ρ)=some ρ1∧TurnOk CX G T lv { c with N:=ownNames sc,sc:=sc } X.K ifs elt ρ1 o) :
  PE X (.ListComp elt [⟨tg,iter,ifs,0⟩] sc pos) (ef X.K T S ρ outs):=by
 intro pins s σ H Q I ⟨re,q⟩;have cs:=qO chk
 obtain⟨cl,hclos,az,b0⟩:=oO (nV h I cs);rw[eval_ListComp];refine wpAny_comprehension_free (use:=none) rfl hs hclos cs.kind cs.loc (af (hi pins s σ H (fun J H2=>aI H H2∧js X.K T S H2 J ds∧ds.length≤sizeLine) I ⟨re,fun J H2 a b z=>⟨a,b,z⟩⟩) fun v s1 h1=>af h1 fun itv s2 h2=>?_)
 obtain⟨it,fp,tn,J,H2,e,I2,TU,gp,f2,sm,jy,hlen⟩:=h2;subst e;refine oK (RR:=fun acc C=>compPost (model X.prog X.w) X.A X.xe none (EP X pins σ Q) acc C) h cs aw om ez az b0 I2 (re.same sm) TU gp f2 jy hlen gz du ?_
 intro D C s' H' ys m I' jw hD hD' rp hn ⟨c1,c2,c3,c4,c5⟩;refine⟨m,hn,fun h' cz=>⟨.ref D,H',I'.turned (t':=s'.toks) (fun b o hb e=>cz.extBut b o hb e) c1 c2.symm.symm (.inr c3) c4 c5,rfl,?_⟩⟩
 exact q D ys H' (sm.trans jw) (sm.free hD) hD' rp
theorem zV(h:XC CX X c G T lv){sc:Scope}(chk:jZ c sc=true){iter elt:Expr}{ifs:List Expr}{pos spos px:Pos}{fr:List (Nat×Nat)}{aT:List Nat}{tp:Bool}{ds outs:List D}{f:D→Option (Option D)}{x:Str}{i:Nat}
  (aw:freeOf c sc (sc.names.filter fun x=>x.2 == .free)=some fr) (om:aT.all (fun i=>(fr.lookup i).isNone)=true) (ez:cZ { c with N:=ownNames sc,sc:=sc } tg=some (aT,tp))
  (hi:PI X tg iter (tI X.K T S ρ ds)) (hs:∀x,foldedSetIterable iter X.env x=pure x) (hx:fX c (.Name x px)=some i)
  (hsw:swapsWith (.ListComp elt [⟨tg,iter,ifs,0⟩] sc pos) (some (.Name x px)) spos.line X.env=pure true)
  (gz:bU f ds=some outs) (du:∀d o,f d=some o→∃ρ1,bK aT tp d (frame (ownNames sc).length fr ρ)=some ρ1∧TurnOk CX G T lv { c with N:=ownNames sc,sc:=sc } X.K ifs elt ρ1 o) :
  PS X (.Assign [.Name x px] (.ListComp elt [⟨tg,iter,ifs,0⟩] sc pos) spos) (fun D σ H=>RE X.K T H S ρ σ∧∀p xs H',aI H H'→H p=none→H' p=some (.lst xs)→aE X.K T (er H' p) S outs xs→D.nx (σ.set i (some (.ref p))) H'):=by
 intro pins s σ H DD I ⟨re,q⟩;have cs:=qO chk
 obtain⟨cl,hclos,az,b0⟩:=oO (nV h I cs);rw[exec_Assign_Name_used _ _ _ _ hsw];refine u7 (wpAny_standAt (u7 ?_));show wpAny _ X.A (do let _ ←comprehension (.ListComp elt [⟨tg,iter,ifs,0⟩] sc pos) sc X.env _ (newList []) false (eval iter X.env) (some (assign (.Name x px) X.env))) _ _ s
 refine u7 (ub (wpAny_comprehension_free (use:=some (assign (.Name x px) X.env)) (Q:=fun _ s'=>SP X pins DD .next s') rfl hs hclos cs.kind cs.loc
  (af (hi pins s σ H (fun J H2=>aI H H2∧js X.K T S H2 J ds∧ds.length≤sizeLine) I ⟨re,fun J H2 a b z=>⟨a,b,z⟩⟩) fun v s1 h1=>af h1 fun itv s2 h2=>?_)) (fun _ s' hq=>ua (ua hq)) fun _ _ e=>e)
 obtain⟨it,fp,tn,J,H2,e,I2,TU,gp,f2,sm,jy,hlen⟩:=h2;subst e;refine oK (RR:=fun acc C=>compPost (model X.prog X.w) X.A X.xe (some (assign (.Name x px) X.env)) (fun _ s'=>SP X pins DD .next s') acc C) h cs aw om ez az b0 I2 (re.same sm) TU gp f2 jy hlen gz du ?_
 intro D C s' H' ys m I' jw hD hD' rp hn ⟨c1,c2,c3,c4,c5⟩;obtain⟨hN,hk⟩:=gP hx;obtain⟨hl,hf⟩:=h.loc hk;show wpAny _ X.A (assign (.Name x px) X.env (.ref D)) _ _ _
 refine wpAny_assign_Name (pO I' (by rw[h.N];exact h.nd) (by rw[h.N];exact hN) hl (v:=.ref D) (u:=.ref D) rfl (fun nq I'' ⟨a,sb,ha⟩=>?_) hf)
 have hCa:C≠a:=by
  rcases ha with z|z
  ·rw[z];exact c2
  ·exact fun w=>c4 x a z w.symm
 refine⟨m,hn.sameBut sb hCa,fun h' cz=>⟨_,H',I''.turned (t':=nq.toks) (fun b o hb e=>cz.extBut b o hb e) c1 c2 (.inr c3) c4 c5,q D ys H' (sm.trans jw) (sm.free hD) hD' rp⟩⟩
end
noncomputable def Itv(K:va)(a:Addr)(n:Nat):It:=
 ⟨fun i H=>∃xs x,SqL K H a xs∧xs.length=n∧xs[n-1-i]?=some x∧i<n,fun i H x H'=>H'=H∧∀xs,SqL K H a xs→xs[n-1-i]?=some x,fun i H=>n≤i⟩
theorem GI{P:vc}{w:World}{K:va}{tg:Expr}(a it:Addr)(n:Nat):Turn P w K tg (Itv K a n) [it] it (fun i h=>i≤n∧h.IsRevIter it a ((n:Int)-1-(i:Int))) where
 mem:=by simp
 obj:=fun i h st b hb=>by
  have e:b=it:=by simpa using hb
  subst e;obtain⟨_,o,e,c,d⟩:=st;exact⟨o,e,fun v z=>by rw[d]at z;cases z⟩
 keep:=fun i h h' st k=>⟨st.1,st.2.at fun o e=>k it (by simp) o e⟩
 item:=by
  intro X hP hw hK hc i pins s σ H E I hf st hg;subst hP hw hK;obtain⟨xs,x,hq,hn,hx,hi⟩:=hg;obtain⟨its,rv,p,hz⟩:=I.list hq;obtain⟨u,hu,ru⟩:=rv.get hx;obtain⟨f0,f1,f2,f3,f4,f5⟩:=hf it (by simp)
  have e1:(n:Int)-1-(i:Int)=((n-1-i:Nat):Int):=by lia
  have gq:=st.2
  rw[e1]at gq;refine wpAny_pyNext_rev_item gq p.isList (x:=u) (by simpa using hu) fun h' ae sb=>?_
  have I1:Inv X pins σ H { s with heap:=h' }:=I.turned (t':=s.toks) (fun b o hb e=>(sb.2 b hb).trans e) f0 f1 f3 f4 f5
  obtain⟨o,e,c,d⟩:=id ae;have e2:((n-1-i:Nat):Int)-1=(n:Int)-1-((i+1:Nat):Int):=by lia
  rw[e2]at ae;exact⟨u,rfl,AU (s:={ s with heap:=h' }) e c d (by decide) ⟨x,H,I1,ru,⟨rfl,fun ys hy=>by rw[I.list_inj hy hq];exact hx⟩,⟨hi,ae⟩,fun b hb=>(hf b hb).1⟩⟩
 done:=by
  intro X hP hw hK hc i pins s σ H E I hf st hg;subst hP hw hK;have ja:n≤i:=hg
  have ei:i=n:=Nat.le_antisymm st.1 ja
  subst ei;obtain⟨f0,f1,f2,f3,f4,f5⟩:=hf it (by simp)
  have e1:(i:Int)-1-(i:Int)=-1:=by lia
  have gq:=st.2
  rw[e1]at gq;exact wpAny_pyNext_rev_end (I.ok.hd hc) gq fun h' eb=>⟨rfl,I.turned (t':=s.toks) (fun b o hb e=>eb b o hb e) f0 f1 f3 f4 f5⟩
 self:=fun _ _ _ _ _ st h=>wpAny_pyIter_revIter st.2 h
section
variable {CX:au}{X:Cx}{c:CC}{G:GS}{T:Tx}{lv:Nat}{ρ:List Sl}{S:Addr→Prop}{tg:Expr}
theorem RW{H1:Hp}{a:Addr}{xs:List V}{ds:List D}(n:¬S a)(hq:SqL X.K H1 a xs)(r:aE X.K T H1 S ds xs):js X.K T S H1 (Itv X.K a xs.length) ds.reverse:=fun H S' mv dom=>by
 obtain⟨n',k⟩:=mv a n (SqL.has hq);have d6:=SqL.keeps hq k
 have hl:=r.len
 refine⟨fun i d e=>?_,fun i hi=>?_⟩
 ·have hi:i<ds.length:=by
   have:=(q8.mp e).1
   simpa using this
  rw[List.getElem?_reverse hi]at e;obtain⟨x,e1,rx⟩:=r.get e;rw[hl]at e1 hi;refine⟨⟨xs,x,d6,rfl,e1,hi⟩,fun y H' ⟨eH,ey⟩=>?_⟩
  subst eH;have:=ey xs d6
  rw[e1]at this;cases this;exact⟨aI.refl _,Rep.gen mv d x rx⟩
 ·show xs.length≤i
  rw[←hl];simpa using hi
theorem QF{a:Expr}{p pos:Pos}{d:D}{ds:List D}(hg:Gl X "reversed")(hm:X.mg "reversed" = none)(ha:PA X [a] (c6 X.K T S ρ [d]))(hs:starEach [a] X.env=[(false,eval a X.env)])(hi:vS d=some ds) :
  PI X tg (.Call (.Name "reversed" p) [a] [] pos) (tI X.K T S ρ ds):=by
 intro pins s σ H R I ⟨re,q⟩;refine Call_ (gH I hg hm boot_reversed (sh (af (ha pos pins s σ H (fun vs H'=>aI H H'∧aE X.K T H' S [d] vs) I ⟨re,fun vs H' a b=>⟨a,b⟩⟩) fun us s1 ⟨vs,H1,I1,r1,sm,rl⟩=>?_) hs rfl))
 unfold aE at rl;obtain⟨x,r',rfl,rx,rr⟩:=rl;unfold aE at rr;subst rr;cases r1 with
 |cons r rr =>
  cases rr;cases d<;>simp only[vS,reduceCtorEq,qg]at hi
  rename_i ds';subst hi;unfold Rep at rx;obtain⟨l,xs,e,n,hq,rl⟩:=rx;subst e;cases r;obtain⟨its,rv,pl,hz⟩:=I1.list (SqL.of hq);have hlen:=rv.length
  refine call_reversed_list pl.isList ?_;have I2:Inv X pins σ H1 { s1 with heap:=s1.heap.push (revObj l ((its.toArray.size:Int)-1)) }:=I1.kept (t':=s1.toks) fun b o e=>qq _ e
  have hri:({ s1 with heap:=s1.heap.push (revObj l ((its.toArray.size:Int)-1)) }:Shared).heap.IsRevIter s1.heap.objs.size l ((xs.length:Int)-1):=by
   refine⟨_,uc _ rfl,rfl,?_⟩;have:(its.toArray.size:Int)=(xs.length:Int):=by rw[qu,hlen]
   show Data.fields #[.ref l,rawInt ((its.toArray.size:Int)-1)]=_
   rw[this]
  refine wpAny_pyIter_revIter hri ?_;refine⟨s1.heap.objs.size,[s1.heap.objs.size],_,_,H1,rfl,I2,GI l _ xs.length,⟨uw _,by simpa using hri⟩,fun b hb=>?_,q _ _ sm (RW n (SqL.of hq) rl) ?_⟩
  ·have e:b=s1.heap.objs.size:=by simpa using hb
   subst e;exact I1.fpOk (qm _) (I1.hok.fresh (qm _))
  ·rw[ux,rl.len];exact hz
end
theorem tZ:bootBuiltins "list" = some (.type "list"):=by decide +kernel
theorem EI:typeLookup (.type "list_reverseiterator") "__len__" = pure none:=by rw[typeLookup_type,builtinLookup_eq_fast];kernel_rfl
theorem JX:typeLookup (.type "list_reverseiterator") "__length_hint__" = pure (some (.builtin "list_reverseiterator.__length_hint__")):=by rw[typeLookup_type,builtinLookup_eq_fast];kernel_rfl
section
variable {prog:vc}{w:World}{A:Around}{E:vd}{s:Shared}
theorem pB{Q:vd}{I l:Addr}{items:Array Value}(hh:A.handled=none)(ie:l≠I)(hit:s.heap.IsRevIter I l ((items.size:Int)-1))(hl:s.heap.IsList l items)(hz:items.size≤sizeLine)
  (hQ:∀h' tk df c',(∀b o,b≠I→s.heap.get? b=some o→h'.get? b=some o)→h'.get? s.heap.objs.size=some { cls:=.type "list",dict:=none,data:=.seq df c',slots:=#[] } →
   df=items.reverse→Q (.ref s.heap.objs.size) { s with heap:=h',toks:=tk }) :
  wpAny (model prog w) A (call (.type "list") [.ref I]) Q E s:=by
 refine callType_codes (Q₁:=fun obj s₁=>obj=.ref s.heap.objs.size∧s₁={ s with heap:=s.heap.push { cls:=.type "list",data:=.seq #[] } }) F.called_list (F.typeCall_list_1 _) F.entry_list_init
  (code_list_new _ ⟨rfl,rfl⟩) fun obj s₁ h₁=>?_
 obtain⟨rfl,rfl⟩:=h₁;have hIlt:I<s.heap.objs.size:=by obtain⟨o,e,_⟩:=hit;exact rq e
 have hllt:l<s.heap.objs.size:=by obtain⟨o,e,_⟩:=hl;exact rq e
 have hS:(s.heap.push { cls:=.type "list",data:=.seq #[] }).get? s.heap.objs.size=some { cls:=.type "list",data:=.seq #[] }:=uc _ rfl
 have oj:∀b o,s.heap.get? b=some o→(s.heap.push { cls:=.type "list",data:=.seq #[] }).get? b=some o:=fun b o e=>qq _ e
 refine⟨⟨_,hS,rfl⟩,F.args_list_init_2 _ _,?_⟩;generalize hSe:s.heap.objs.size=S at *;generalize hs1:s.heap.push { cls:=.type "list",data:=.seq #[] }=h1 at *;have hSI:S≠I:=Nat.ne_of_gt hIlt
 have hSl:S≠l:=Nat.ne_of_gt hllt
 show wpAny _ _ (do let old ←Builtin.List.listItems (.ref S);Builtin.List.listUpdate (.ref S) (fun _=>#[]);letGo old.toList.reverse;Builtin.List.listExtendWith (.ref S) (.ref I) .none) _ _ _
 refine u7 ?_;unfold Builtin.List.listItems;refine u7 (wpAny_seqItems hS rfl (ua ?_));show wpAny _ _ (updateSeq S (fun _=>#[]) >>= fun _=>letGo (#[]:Array Value).toList.reverse >>= fun _=>Builtin.List.listExtendWith (.ref S) (.ref I) .none) _ _ _
 refine u7 (wpAny_updateSeq hS rfl ?_);have hS₂:=Heap.get?_update_self (Obj.mapSeq (fun _=>(#[]:Array Value))) hS rfl
 have oth:∀b o,b≠S→h1.get? b=some o→(h1.update S (Obj.mapSeq (fun _=>(#[]:Array Value)))).get? b=some o:=
  fun b o hb e=>(Heap.get?_update_other _ _ (Ne.symm hb)).trans e
 refine u7 (wpAny_letGo ?_);generalize h1.update S (Obj.mapSeq (fun _=>(#[]:Array Value)))=h2 at *
 have W:=(Walks.listRev (prog:=prog) (w:=w) (A:=A.in1.in1) hh I l ie items).toS
 have hit2:h2.IsRevIter I l ((items.size:Int)-1-((0:Nat):Int)):=by
  have e0:(items.size:Int)-1-((0:Nat):Int)=(items.size:Int)-1:=by lia
  rw[e0];exact hit.at fun o e=>oth I o (Ne.symm hSI) (oj _ _ e)
 have gh:h2.IsList l items:=hl.at fun o e=>oth l o (Ne.symm hSl) (oj _ _ e)
 have hT:({ s with heap:=h2 }:Shared).TypeIs (.ref I) "list_reverseiterator":=hit2.typeIs (s:={ s with heap:=h2 })
 have hSf:S∉[I,l]:=by simp[hSI,hSl]
 have hs1':Builtin.List.listSameRef (.ref S) (.ref I)=false:=by simp[Builtin.List.listSameRef,hSI]
 show wpAny _ _ (Builtin.List.listExtendWith (.ref S) (.ref I) .none) _ _ { s with heap:=h2 }
 unfold Builtin.List.listExtendWith;refine u7 (wpAny_typeOf hT ?_);rw[if_neg (by rw[hs1'];decide)]
 refine u7 (W.self 0 _ _ _ ⟨uw _,hit2,gh⟩ ?_);refine u7 (wpAny_holding ?_);unfold Builtin.List.listLengthHint;refine u7 (wpAny_specialOf hT EI ?_);show wpAny _ _ (specialOf (Value.ref I) (Str.ofString "__length_hint__") >>= _) _ _ _
 refine u7 (wpAny_specialOf hT JX ?_)
 (generalize hid:("list_reverseiterator.__length_hint__":String)=id0;(fail_if_success (clear hid id0));wp_delta;rw[show splitId id0=some ("list_reverseiterator","__length_hint__") from by subst hid;decide +kernel];subst hid)
 refine u7 (wpAny_isInstance (b:=true) hT (by rw[isSubtype_type];kernel_rfl) ?_)
 refine ua ?_;rw[if_neg (by decide)]
 refine ua ⟨plainId_quiet F.plain_extend_loop _,codeAny_extend_loopS W hz S hSf _ items.size 0 _ _ _ rfl (uw _) ⟨uw _,hit2,gh⟩ hS₂ (ItemsOf.nil _) fun s' df c' hm jn f7=>?_⟩
 refine⟨rfl,?_⟩;rw[Moved.eq_with hm];refine hQ s'.heap s'.toks df c' (fun b o hb e=>?_) jn ?_
 ·have hbS:b≠S:=fun z=>by
   subst z;exact absurd (rq e) (by rw[hSe];exact u0 _)
  exact hm.heap b o (by simp[hbS,hb]) (oth b o hbS (oj _ _ e))
 ·obtain⟨ka,gh⟩:=f7;apply Array.ext
  ·rw[ka,Array.size_reverse]
  ·intro i h3 h4;have h5:=gh i df[i] (Array.getElem?_eq_getElem h3)
   rw[Array.getElem_reverse];obtain⟨_,e⟩:=Array.getElem?_eq_some_iff.mp h5;exact e.symm
end
section
variable {CX:au}{X:Cx}{c:CC}{G:GS}{T:Tx}{lv:Nat}{ρ:List Sl}{S:Addr→Prop}
theorem xW{a:Expr}{p pos p2 pos2:Pos}{d:D}{ds:List D}(hc:X.calm=true)(hg:Gl X "reversed")(hm:X.mg "reversed" = none)(iN:Gl X "list")(hml:X.mg "list" = none)(ha:PA X [a] (c6 X.K T S ρ [d]))(hs:starEach [a] X.env=[(false,eval a X.env)])(hi:vS d=some ds) :
  PE X (.Call (.Name "list" p2) [.Call (.Name "reversed" p) [a] [] pos] [] pos2) (ef X.K T S ρ ds):=by
 intro pins s σ H Q I ⟨re,q⟩;refine Call_ (gH I iN hml tZ (sh (Calls.spliced_cons (Call_ (gH I hg hm boot_reversed (sh (af (ha pos pins s σ H (fun vs H'=>aI H H'∧aE X.K T H' S [d] vs) I ⟨re,fun vs H' a b=>⟨a,b⟩⟩) fun us s1 ⟨vs,H1,I1,r1,sm,rl⟩=>?_) hs rfl)))) rfl rfl))
 unfold aE at rl;obtain⟨x,r',rfl,rx,rr⟩:=rl;unfold aE at rr;subst rr;cases r1 with
 |cons r rr =>
  cases rr;cases d<;>simp only[vS,reduceCtorEq,qg]at hi
  rename_i ds';subst hi;unfold Rep at rx;obtain⟨l,xs,e,n,hq,rl⟩:=rx;subst e;cases r;obtain⟨its,rv,pl,hz⟩:=I1.list (SqL.of hq);have hlen:=rv.length
  refine call_reversed_list pl.isList ?_;refine Calls.spliced_nil ?_;have hllt:l<s1.heap.objs.size:=by obtain⟨o,e,_⟩:=pl.isList;exact rq e
  refine pB (I:=s1.heap.objs.size) (items:=its.toArray) (I1.ok.hd hc) (tj hllt) ⟨_,uc _ rfl,rfl,rfl⟩ (pl.isList.at fun o e=>qq _ e) (by rw[qu,←hlen];exact hz) fun h' tk df c' hk jn f7=>?_
  have e1:(s1.heap.push (revObj l ((its.toArray.size:Int)-1))).objs.size=s1.heap.objs.size+1:=size_push ..
  have I3:Inv X pins σ (upd H1 (s1.heap.push (revObj l ((its.toArray.size:Int)-1))).objs.size (.lst xs.reverse)) { s1 with heap:=h',toks:=tk }:=by
   refine I1.laid (fun b u e=>hk b u (tj (rq e)) (qq _ e)) (by rw[e1];exact uf _) ?_
   refine⟨by rw[ux];exact hz,its.reverse,c',aS.reverse rv,?_⟩
   rw[jn,f7];simp
  have aw:H1 (s1.heap.push (revObj l ((its.toArray.size:Int)-1))).objs.size=none:=I1.hok.fresh (by rw[e1];exact uf _)
  exact⟨.ref _,_,I3,rfl,q _ xs.reverse _ (sm.trans (aI.upd aw)) (sm.free aw) aM (by rw[iB aw];exact rl.rev)⟩
end
section
variable {CX:au}{X:Cx}{c:CC}{G:GS}{T:Tx}{lv:Nat}{ρ:List Sl}{S:Addr→Prop}{pos:Pos}{ea eb ec:Expr}{a b d:D}
theorem OG{i:Nat}(h:slot ρ i=some d):ρ[i]?=some (.im d):=by
 unfold slot at h;split at h
 ·rename_i e;cases h;exact e
 ·cases h
theorem aEj(h:XC CX X c G T lv){x:Str}{i:Nat}(e:cV c x=some i)(hs:slot ρ i=some d):PE X (.Name x pos) (tD X.K T S ρ d):=by
 obtain⟨hN,hk⟩:=rJ e;have hm:x∈c.N:=qh hN
 refine PE.mono (lH (by rw[h.N];exact hN) (h.vis hk) (h.dbg x hm).1 (h.dbg x hm).2) fun σ H Q ⟨re,q⟩=>?_
 obtain⟨v,e1,r⟩:=re.at_ i _ (OG hs);exact⟨v,e1,q v H (aI.refl H) r⟩
theorem vK(h:XC CX X c G T lv){x:Str}{i:Nat}(e:cV c x=some i):PE X (.Name x pos) (rH i):=by
 obtain⟨hN,hk⟩:=rJ e;have hm:x∈c.N:=qh hN
 exact lH (by rw[h.N];exact hN) (h.vis hk) (h.dbg x hm).1 (h.dbg x hm).2
theorem aEw(h:XC CX X c G T lv){x:Str}(e:aW c x=true)(hc:c.csts.contains x=true)(hd:G.cst x=some d):PE X (.Name x pos) (tD X.K T S ρ d):=by
 obtain⟨u,v,e1,r,hr⟩:=h.go.cst x d hd hc;intro pins s σ H Q I ⟨re,q⟩;exact dZ I (h.glob e) e1 ⟨v,H,I,r,q v H (aI.refl H) (hr H S (UQ I) re.dom)⟩ (h.gne e)
theorem aEu{i:Int}{j:Nat}:PE X (.Constant (.int i) j pos) (tD X.K T S ρ (.int i)):=PE.mono HX fun σ H Q ⟨re,q⟩=>q _ H (aI.refl H) (by unfold Rep;rfl)
theorem aHH{i:Bool}{j:Nat}:PE X (.Constant (.bool i) j pos) (tD X.K T S ρ (.bl i)):=PE.mono AB fun σ H Q ⟨re,q⟩=>q _ H (aI.refl H) (by unfold Rep;rfl)
theorem aEm{i:Str}{j:Nat}:PE X (.Constant (.str i) j pos) (tD X.K T S ρ (.str i)):=PE.mono fO fun σ H Q ⟨re,q⟩=>q _ H (aI.refl H) (by unfold Rep;rfl)
theorem aEr{j:Nat}:PE X (.Constant .none j pos) (tD X.K T S ρ .non):=PE.mono YL fun σ H Q ⟨re,q⟩=>q _ H (aI.refl H) (by unfold Rep;rfl)
theorem nD{o:O2}(hd:ah o a b=some d):∀σ H Q,tD X.K T S ρ d σ H Q→i8 (rD X.K T S o) (tD X.K T S ρ a) (tD X.K T S ρ b) σ H Q:=fun σ H Q ⟨re,q⟩ =>
 ⟨re,fun x H1 s1 r1=>⟨re.same s1,fun y H2 s2 r2=>⟨a,b,d,((re.same s1).same s2).dom,r1.same s2,r2,hd,fun v H' s3 r3=>q v H' (s1.trans (s2.trans s3)) r3⟩⟩⟩
theorem aEA{op:Operator}{o:O2}(ho:QR op=some o)(ha:PE X ea (tD X.K T S ρ a))(hb:PE X eb (tD X.K T S ρ b))(hd:ah o a b=some d):PE X (.BinOp ea op eb pos) (tD X.K T S ρ d):=
 PE.mono (UJ (QW ho) ha hb) (nD hd)
theorem ED:ay X (compareOp .IsNot) (rD X.K T S .isnot):=by
 rintro pins s σ H x y v u Q I rx ry ⟨a,b,d,dom,ra,rb,e,q⟩;have go:∀k,b=.non→k=decide (x=V.non)→d=.bl (!k)→wpAny (model X.prog X.w) X.A (compareOp .IsNot v u) (EP X pins σ Q) X.xe s:=fun k hb hk hd=>by
  subst hb hd hk;unfold Rep at rb;exact QO pins s σ H x y v u Q I rx ry ⟨rb,q _ H (aI.refl H) bS⟩
 simp only[ah,IV,isD]at e;split at e<;>simp only[ud,Option.map_none,qg,reduceCtorEq]at e
 all_goals subst e
 all_goals first
  | (unfold Rep at ra;refine go _ rfl ?_ rfl;first|(subst ra;rfl)|(obtain⟨_,_,rfl,_⟩:=ra;rfl)|(obtain⟨_,_,_,_,rfl,_⟩:=ra;rfl))
  | (unfold Rep at ra rb
     subst ra rb;cases rx;cases ry;exact isnot_bool ⟨.bl _,H,I,rfl,q _ H (aI.refl H) bS⟩)
theorem eQ(hu:X.A.units+64<cLine)(op:CmpOp):ay X (compareOp op) (rD X.K T S (jP op)):=by
 cases op
 ·exact ZF hu
 ·exact YX hu
 ·exact YY
 ·exact YZ
 ·exact ZD
 ·exact ZE
 ·exact ZA
 ·exact ED
 ·exact ZC hu
 ·exact EC hu
theorem aEz(hu:X.A.units+64<cLine){op:CmpOp}(ha:PE X ea (tD X.K T S ρ a))(hb:PE X eb (tD X.K T S ρ b))(hm:behindInMarks op eb=false)(hd:ah (jP op) a b=some d):PE X (.Compare ea [op] [eb] pos) (tD X.K T S ρ d):=
 PE.mono (zY (eQ hu op) ha hb hm) (nD hd)
theorem ZO(hu:X.A.units+64<cLine){op:CmpOp}{k:Bool}(ha:PE X ea (tD X.K T S ρ a))(hb:PE X eb (tD X.K T S ρ b))(hm:behindInMarks op eb=false)(hd:ah (jP op) a b=some (.bl k)):PT X (.Compare ea [op] [eb] pos) (gc X.K T S ρ k):=
 PT.mono (zU (eQ hu op) ha hb hm) fun σ H Q ⟨re,q⟩=>nD hd σ H _ ⟨re,fun v H' sm r=>by
  unfold Rep at r;exact⟨k,r,q H' sm⟩⟩
theorem oP{o o':O2}{c':D}{k:Bool}(h1:ah o a b=some (.bl k))(h2:if k=true then ah o' b c'=some d else d=.bl false):∀σ H Q,tD X.K T S ρ d σ H Q→xI (rD X.K T S o) (rD X.K T S o') (tD X.K T S ρ a) (tD X.K T S ρ b) (tD X.K T S ρ c') σ H Q:=
 fun σ H Q ⟨re,q⟩=>⟨re,fun x H1 s1 r1=>⟨re.same s1,fun y H2 s2 r2=>⟨a,b,.bl k,((re.same s1).same s2).dom,r1.same s2,r2,h1,fun z H3 s3 r3=>by
  unfold Rep at r3;refine⟨k,r3,?_⟩;cases k with
  |true =>
   rw[if_pos rfl]at h2 ⊢;exact⟨((re.same s1).same s2).same s3,fun w' H4 s4 r4=>⟨b,c',d,(((re.same s1).same s2).same s3).same s4 |>.dom,(r2.same s3).same s4,r4,h2,fun v H' s5 r5=>q v H' (s1.trans (s2.trans (s3.trans (s4.trans s5)))) r5⟩⟩
  |false =>
   rw[if_neg r8]at h2 ⊢;subst h2;exact q _ H3 (s1.trans (s2.trans s3)) bS⟩⟩⟩
theorem RJ(hu:X.A.units+64<cLine){op dm:CmpOp}{c':D}{k:Bool}(ha:PE X ea (tD X.K T S ρ a))(hb:PE X eb (tD X.K T S ρ b))(hc:PE X ec (tD X.K T S ρ c'))(hm:lastMarks [op,dm] [eb,ec]=false)
  (h1:ah (jP op) a b=some (.bl k)) (h2:if k=true then ah (jP dm) b c'=some d else d=.bl false):PE X (.Compare ea [op,dm] [eb,ec] pos) (tD X.K T S ρ d):=
 PE.mono (vE (eQ hu op) (eQ hu dm) ha hb hc hm) (oP h1 h2)
theorem JA(hu:X.A.units+64<cLine){op dm:CmpOp}{c':D}{k k':Bool}(ha:PE X ea (tD X.K T S ρ a))(hb:PE X eb (tD X.K T S ρ b))(hc:PE X ec (tD X.K T S ρ c'))(hm:lastMarks [op,dm] [eb,ec]=false)
  (h1:ah (jP op) a b=some (.bl k)) (h2:if k=true then ah (jP dm) b c'=some (.bl k') else D.bl k'=.bl false):PT X (.Compare ea [op,dm] [eb,ec] pos) (gc X.K T S ρ k'):=
 PT.mono (vB (eQ hu op) (eQ hu dm) ha hb hc hm) fun σ H Q ⟨re,q⟩=>oP h1 h2 σ H _ ⟨re,fun v H' sm r=>by
  unfold Rep at r;exact⟨k',r,q H' sm⟩⟩
theorem _root_.Z.aE.emp{K:va}{H:Hp}{ds:List D}{xs:List V}(r:aE K T H S ds xs):ds.isEmpty=xs.isEmpty:=by
 have:=r.len
 cases ds<;>cases xs<;>simp_all
theorem aBT{H:Hp}{v:V}{k:Bool}(r:Rep X.K T H S a v)(h:dg a=some k):aAL X.K v H k:=by
 cases a<;>simp only[dg,reduceCtorEq,qg]at h
 ·unfold Rep at r;subst r;exact h.symm
 ·unfold Rep at r;subst r;exact h.symm
 ·unfold Rep at r;subst r;exact h.symm
 ·unfold Rep at r;obtain⟨p,xs,rfl,_,e,rl⟩:=r;refine .inl ⟨xs,SqL.of e,?_⟩;rw[←h];rw[rl.emp]
 ·unfold Rep at r;obtain⟨p,xs,rfl,_,e,rl⟩:=r;refine .inr (.inl ⟨xs,e,?_⟩);rw[←h];rw[rl.emp]
 ·unfold Rep at r;obtain⟨p,xs,rfl,_,e,rl⟩:=r;refine .inl ⟨xs,e,?_⟩;rw[←h];rw[rl.emp]
theorem RH{k:Bool}(ha:PE X ea (tD X.K T S ρ a))(he:∀whole,isTrue ea X.env whole=(do let v ←whole;standAt ea.pos;holding [v] (truthy v)))(h:dg a=some k):PT X ea (gc X.K T S ρ k):=
 PT.mono (HL ha he) fun σ H Q ⟨re,q⟩=>⟨re,fun x H1 s1 r1=>⟨k,aBT r1 h,q H1 s1⟩⟩
theorem ZK{k:Bool}(ha:PT X ea (gc X.K T S ρ k)):PT X (.UnaryOp .Not ea pos) (gc X.K T S ρ (!k)):=PT.mono (HM ha) fun σ H Q ⟨re,q⟩=>⟨re,fun H1 s1=>q H1 s1⟩
theorem aEq{k:Bool}(ha:PE X ea (tD X.K T S ρ a))(h:dg a=some k):PE X (.UnaryOp .Not ea pos) (tD X.K T S ρ (.bl (!k))):=by
 intro pins s σ H Q I ⟨re,q⟩;refine UnaryOp_ (af (ha pins s σ H (fun v H'=>aI H H'∧Rep X.K T H' S a v) I ⟨re,fun v H' a b=>⟨a,b⟩⟩) fun v s1 ⟨x,H1,I1,r1,sm,rx⟩=>?_)
 exact not_of (af (GJ pins s1 σ H1 x v (fun b H2=>b=k∧H2=H1) I1 r1 ⟨k,aBT rx h,rfl,rfl⟩) fun b s2 ⟨H2,I2,eb,eH⟩=>by
  subst eb eH;exact⟨.bl (!b),H2,I2,rfl,q _ H2 sm bS⟩)
theorem UN{k:Bool}(hc:PT X ec (gc X.K T S ρ k))(ha:k=true→PE X ea (tD X.K T S ρ d))(hb:k=false→PE X eb (tD X.K T S ρ d)):PE X (.IfExp ec ea eb pos) (tD X.K T S ρ d):=by
 cases k with
 |true =>
  refine PE.mono (vD hc (ha rfl) (tb:=fun _ _ _=>False) (fun _ _ _ _ _ _ h=>h.elim)) fun σ H Q ⟨re,q⟩=>⟨re,fun H1 s1=>?_⟩
  exact EW ⟨re.same s1,fun v H' s2 r=>q v H' (s1.trans s2) r⟩
 |false =>
  refine PE.mono (vD hc (ta:=fun _ _ _=>False) (fun _ _ _ _ _ _ h=>h.elim) (hb rfl)) fun σ H Q ⟨re,q⟩=>⟨re,fun H1 s1=>?_⟩
  exact oY ⟨re.same s1,fun v H' s2 r=>q v H' (s1.trans s2) r⟩
theorem AF:PA X [] (c6 X.K T S ρ []):=PA.mono gG fun σ H Q ⟨re,q⟩=>q [] H (aI.refl H) aE.nil
theorem rS{es:List Expr}{ds:List D}(ha:PE X ea (tD X.K T S ρ a))(hr:PA X es (c6 X.K T S ρ ds))(hs:starEach (ea::es) X.env=(false,eval ea X.env)::starEach es X.env):PA X (ea::es) (c6 X.K T S ρ (a::ds)):=
 PA.mono (bJ ha hr hs) fun σ H Q ⟨re,q⟩=>⟨re,fun x H1 s1 r1=>⟨re.same s1,fun xs H2 s2 r2=>q _ H2 (s1.trans s2) (aE.cons (r1.same s2) r2)⟩⟩
theorem aEk{es:List Expr}{ds:List D}{x1:Nat}(h:PA X es (c6 X.K T S ρ ds))(hl:ds.length≤sizeLine):PE X (.Tuple es x1 pos) (tD X.K T S ρ (.tup ds)):=
 PE.mono (YJ h) fun σ H Q ⟨re,q⟩=>⟨re,fun xs H1 s1 r1=>⟨by rw[←r1.len];exact hl,fun p hp=>q _ _ (s1.trans (aI.upd hp)) (fW (re.same s1).dom hp r1)⟩⟩
theorem aEs{es:List Expr}{ds:List D}(h:PA X es (c6 X.K T S ρ ds))(hl:ds.length≤sizeLine):PE X (.List es pos) (ef X.K T S ρ ds):=
 PE.mono (xU h) fun σ H Q ⟨re,q⟩=>⟨re,fun xs H1 s1 r1=>⟨by rw[←r1.len];exact hl,fun p hp=>q _ _ _ (s1.trans (aI.upd hp)) (s1.free hp) aM (by rw[iB hp];exact r1)⟩⟩
theorem IZ{e:Expr}{ds:List D}(h:PE X e (ef X.K T S ρ ds)):PE X e (tD X.K T S ρ (.lst ds)):=
 PE.mono h fun σ H Q ⟨re,q⟩=>⟨re,fun p xs H' sm hp d7 r=>q _ H' sm (by unfold Rep;exact⟨p,xs,rfl,re.nS hp,d7,r.er⟩)⟩
theorem uB{K:va}{H:Hp}{ds:List D}{xs:List V}{i:Int}(r:aE K T H S ds xs)(h:atI ds i=some d):∃x,L2.atI xs i=some x∧Rep K T H S d x:=by
 unfold atI at h;unfold L2.atI;rw[qi]at h;obtain⟨j,h1,h2⟩:=h;obtain⟨x,e,rx⟩:=r.get h2;have o7:L2.ixN xs.length i=some j:=by rw[←r.len];exact h1
 exact⟨x,by rw[o7];exact e,rx⟩
theorem RU{i:Int}{ds:List D}(hc:a=.lst ds∨a=.tup ds∨a=.frz ds)(hd:atI ds i=some d):∀σ H Q,tD X.K T S ρ d σ H Q→i8 (rIx X.K) (tD X.K T S ρ a) (tD X.K T S ρ (.int i)) σ H Q:=fun σ H Q ⟨re,q⟩ =>
 ⟨re,fun x H1 s1 r1=>⟨re.same s1,fun y H2 s2 r2=>by
  have fq:=r1.same s2
  unfold Rep at r2
  rcases hc with rfl|rfl|rfl
  ·unfold Rep at fq;obtain⟨p,xs,ex,_,e,rl⟩:=fq;obtain⟨v,e1,rv⟩:=uB rl hd;exact .inl ⟨p,xs,i,v,ex,r2,SqL.of e,e1,q v H2 (s1.trans s2) rv⟩
  ·unfold Rep at fq;obtain⟨p,xs,ex,_,e,rl⟩:=fq;obtain⟨v,e1,rv⟩:=uB rl hd;exact .inr (.inl ⟨p,xs,i,v,ex,r2,e,e1,q v H2 (s1.trans s2) rv⟩)
  ·unfold Rep at fq;obtain⟨p,xs,ex,_,e,rl⟩:=fq;obtain⟨v,e1,rv⟩:=uB rl hd;exact .inl ⟨p,xs,i,v,ex,r2,e,e1,q v H2 (s1.trans s2) rv⟩⟩⟩
theorem ZM{i:Int}{ds:List D}(ha:PE X ea (tD X.K T S ρ a))(hb:PE X eb (tD X.K T S ρ (.int i)))(hp:nA eb)(hc:a=.lst ds∨a=.tup ds∨a=.frz ds)(hd:atI ds i=some d):PE X (.Subscript ea eb pos) (tD X.K T S ρ d):=
 PE.mono (UK aAc ha hb hp) (RU hc hd)
theorem tT{K:va}{H:Hp}{ds:List D}{xs:List V}{lo hi:Option Int}(r:aE K T H S ds xs):aE K T H S (cut ds lo hi) (wO xs lo hi):=by
 unfold cut wO;rw[r.len];exact(r.drop _).take _
noncomputable def ju(K:va)(T:Tx)(S:Addr→Prop)(ρ:List Sl)(o:Option Int):TO:=fun σ H Q=>RE K T H S ρ σ∧∀H',aI H H'→Q o H'
theorem aEp:PO X none (ju X.K T S ρ none):=fun pins s σ H Q I ⟨re,q⟩=>QB pins s σ H Q I (q H (aI.refl H))
theorem aEo{i:Int}(ha:PE X ea (tD X.K T S ρ (.int i))):PO X (some ea) (ju X.K T S ρ (some i)):=fun pins s σ H Q I ⟨re,q⟩=>QA ha pins s σ H Q I ⟨re,fun v H' sm r=>by
 unfold Rep at r;exact⟨i,r,q H' sm⟩⟩
theorem UM{lo hi:Option Expr}{l h:Option Int}{p2:Pos}{ds:List D}(ha:PE X ea (tD X.K T S ρ a))(hl:PO X lo (ju X.K T S ρ l))(hh:PO X hi (ju X.K T S ρ h))(hc:a=.lst ds∨a=.frz ds):PE X (.Subscript ea (.Slice lo hi none p2) pos) (ef X.K T S ρ (cut ds l h)):=
 PE.mono (vC OH ha hl hh) fun σ H Q ⟨re,q⟩=>⟨re,fun x H1 s1 r1=>⟨re.same s1,fun H2 s2=>⟨(re.same s1).same s2,fun H3 s3=>by
  have fq:=(r1.same s2).same s3
  have sm:=s1.trans (s2.trans s3)
  rcases hc with rfl|rfl
  ·unfold Rep at fq;obtain⟨p,xs,ex,_,e,rl⟩:=fq;exact⟨p,xs,ex,SqL.of e,fun p hp=>q _ _ _ (sm.trans (aI.upd hp)) (sm.free hp) aM (by rw[iB hp];exact tT rl)⟩
  ·unfold Rep at fq;obtain⟨p,xs,ex,_,e,rl⟩:=fq;exact⟨p,xs,ex,e,fun p hp=>q _ _ _ (sm.trans (aI.upd hp)) (sm.free hp) aM (by rw[iB hp];exact tT rl)⟩⟩⟩⟩
theorem aEn{lo hi:Option Expr}{l h:Option Int}{p2:Pos}{ds:List D}(ha:PE X ea (tD X.K T S ρ (.tup ds)))(hl:PO X lo (ju X.K T S ρ l))(hh:PO X hi (ju X.K T S ρ h))(hw:¬(sIx ds.length 0 l=0∧sIx ds.length ds.length h=ds.length)) :
  PE X (.Subscript ea (.Slice lo hi none p2) pos) (tD X.K T S ρ (.tup (cut ds l h))):=
 PE.mono (vC XD ha hl hh) fun σ H Q ⟨re,q⟩=>⟨re,fun x H1 s1 r1=>⟨re.same s1,fun H2 s2=>⟨(re.same s1).same s2,fun H3 s3=>by
  have fq:=(r1.same s2).same s3
  have sm:=s1.trans (s2.trans s3)
  have re3:=((re.same s1).same s2).same s3
  unfold Rep at fq;obtain⟨p,xs,ex,_,e,rl⟩:=fq;exact⟨p,xs,ex,e,by rw[←rl.len];exact hw,fun p hp=>q _ _ (sm.trans (aI.upd hp)) (fW re3.dom hp (tT rl))⟩⟩⟩⟩
theorem aEx(h:XC CX X c G T lv){cn f:Str}{fs:List (Str×D)}(ha:PE X ea (tD X.K T S ρ (.obj cn fs)))(hb:attributeBase ea f X.env (eval ea X.env)=eval ea X.env)(hf:(G.fl cn).contains f=true)(hd:fs.lookup f=some d):PE X (.Attribute ea f pos) (tD X.K T S ρ d):=
 PE.mono (YO ha hb) fun σ H Q ⟨re,q⟩=>⟨re,fun x H1 s1 r1=>by
  unfold Rep at r1;obtain⟨p,C,dx,gs,ex,_,ec,e,rf⟩:=r1;obtain⟨v,e1,rv⟩:=(cD.look rf).1 d hd;exact⟨p,C,dx,gs,v,ex,e,h.go.cls cn C ec,h.go.fld cn C f ec hf,e1,q v H1 s1 rv⟩⟩
theorem rQ(h:XC CX X c G T lv):fT CX X E0:=fun _ _ H s e s' _ z=>(h.go.cx0 _ H s e s' z).elim
theorem pQ{e:Expr}{es:List Expr}(hs:starEach (e::es) X.env=(e::es).map fun e=>(false,eval e X.env)):starEach (e::es) X.env=(false,eval e X.env)::starEach es X.env∧(backTo pos (starEach es X.env)).any (·.1)=false:=by
 have h2:starEach (e::es) X.env=(false,eval e X.env)::starEach es X.env:=by
  cases e<;>first|rfl|(simp[starEach]at hs)
 have h3:starEach es X.env=es.map fun e=>(false,eval e X.env):=by
  have:=congrArg List.tail (h2.symm.trans hs)
  simpa using this
 refine⟨h2,?_⟩;rw[h3];clear h2 h3 hs
 induction es with
 |nil=>rfl
 |cons a r ih=>exact ih
theorem ZP(h:XC CX X c G T lv){x:Str}{es:List Expr}{ds:List D}{p:Pos}(hg:aW c x=true)(hf:c.fns.contains x=true)(ha:PA X es (c6 X.K T S ρ ds))(hs:starEach es X.env=es.map fun e=>(false,eval e X.env))(hlen:ds.length=es.length)(hd:G.fn x ds=some (.ok d)) :
  PE X (.Call (.Name x p) es [] pos) (fun σ H Q=>RE X.K T H S ρ σ∧∀v H1 H',aI H H1→aI H1 H'→Rep X.K T H' S d v→(G.ff x=true→qX X.K T S H1 H' d v)→Q v H'):=by
 obtain⟨f,fd,ps,hm,hk,hb,hl,F⟩:=h.go.fn x hf;have key:∀σ H Q,(RE X.K T H S ρ σ∧∀v H1 H',aI H H1→aI H1 H'→Rep X.K T H' S d v→(G.ff x=true→qX X.K T S H1 H' d v)→Q v H')→uO (iy X.K T ps.length (G.fn x) (G.ff x)) [] E0 (c6 X.K T S ρ ds) σ H Q:=fun σ H Q ⟨re,q⟩ =>
  ⟨re,fun vs H1 s1 r1=>⟨by rw[sq,←r1.len];exact hl ds _ hd,S,ds,(re.same s1).dom,by rw[sq];exact r1,.inl ⟨d,hd,fun v H' s2 r2 fr=>q v H1 H' s1 s2 r2 fr⟩⟩⟩
 cases es with
 |nil =>
  refine PE.mono (vF F h.room (h.glob hg) hm hk hb .nil (rQ h) (h.gne hg)) fun σ H Q hq=>?_
  obtain⟨re,q⟩:=hq;have bp:ds=[]:=sr.mp hlen
  subst bp;exact(key σ H Q ⟨re,q⟩).2 [] H (aI.refl H) aE.nil
 |cons e es =>
  obtain⟨h1,h2⟩:=pQ (pos:=pos) hs;exact PE.mono (zZ F h.room (h.glob hg) hm hk hb .nil (rQ h) ha (h.gne hg) h1 h2) key
end
section
variable {CX:au}{X:Cx}{c:CC}{G:GS}{T:Tx}{lv:Nat}{ρ:List Sl}{S:Addr→Prop}{pos:Pos}{ea eb ec:Expr}{a b d:D}
def oT(X:Cx)(o:Expr)(m:Str)(args:List Expr)(apos pos:Pos):Prop:=∃pl:Sem Bool,eval (.Call (.Attribute o m apos) args [] pos) X.env=(do
   let ov ←eval o X.env
   standAt apos.atName
   let (f,first) ←holding [ov] (getMethod ov m pl)
   callWith pos f first (backTo pos (starEach args X.env)) (backToKw pos (keywordEach [] X.env)))
theorem ZL(h:XC CX X c G T lv){m cn:Str}{fs:List (Str×D)}{es:List Expr}{ds:List D}{apos:Pos}(ht:oT X ea m es apos pos)(ho:PE X ea (tD X.K T S ρ (.obj cn fs)))(hn:fs.lookup m=none)
  (ha:PA X es (c6 X.K T S ρ ds)) (hs:starEach es X.env=es.map fun e=>(false,eval e X.env)) (hlen:ds.length=es.length) (hd:G.me cn m (.obj cn fs::ds)=some (.ok d)) :
  PE X (.Call (.Attribute ea m apos) es [] pos) (fun σ H Q=>RE X.K T H S ρ σ∧∀v H1 H',aI H H1→aI H1 H'→Rep X.K T H' S d v→(G.mf cn m=true→qX X.K T S H1 H' d v)→Q v H'):=by
 obtain⟨pl,ht⟩:=ht;intro pins s σ H Q I ⟨re,q⟩;refine PySem.W.methodCall_KW (pl:=pl) (af (ho pins s σ H (fun v H'=>aI H H'∧Rep X.K T H' S (.obj cn fs) v) I ⟨re,fun v H' a b=>⟨a,b⟩⟩) fun u s1 ⟨x,H1,I1,rx,sm,ro⟩=>?_) ht
 have ro':=ro
 unfold Rep at ro;obtain⟨p,C,dx,gs,ex,_,ec,e,rf⟩:=ro;subst ex;obtain rfl:u=Value.ref p:=rx;obtain⟨f,fd,ps,hm,hb,hl,F⟩:=h.go.me cn C m _ _ ec hd;refine nU I1 e (h.go.cls cn C ec) hm ((cD.look rf).2 hn) ?_;have fin:∀(us:List Value) (vs:List V) (s2:Shared) (H2:Hp),Inv X pins σ H2 s2→aS vs us→aI H1 H2→aE X.K T H2 S ds vs→wpAny (model X.prog X.w) X.A (call (.ref f) (.ref p::us)) (EP X pins σ Q) X.xe s2:=fun us vs s2 H2 I2 r2 fo rl=>by
  refine rL (us:=.ref p::us) (vs:=.ref p::vs) (dvs:=[]) (ds:=[]) (E:=E0) F h.room hb .nil (rQ h) I2 (.cons rfl r2) ?_;refine⟨?_,S,.obj cn fs::ds,((re.same sm).same fo).dom,?_,.inl ⟨d,hd,fun v H' s3 r3 fr=>q v H2 H' (sm.trans fo) s3 r3 fr⟩⟩
  ·have:=hl _ _ hd
   simp only[sq,uj]at this ⊢;rw[←rl.len];exact this
  ·rw[sq];exact aE.cons (ro'.same fo) rl
 cases es with
 |nil =>
  have bp:ds=[]:=sr.mp hlen
  subst bp;exact callWith_K0 (first:=[.ref p]) I1.kIn hm.kp (fin [] [] s1 H1 I1 .nil (aI.refl _) aE.nil)
 |cons e es =>
  obtain⟨h1,h2⟩:=pQ (pos:=pos) hs;refine callWith_K (first:=[.ref p]) (h₀:=X.base) I.ok.mod.kin hm.kp (af (ha pos pins s1 σ H1 (fun vs H'=>aI H1 H'∧aE X.K T H' S ds vs) I1 ⟨re.same sm,fun vs H' a b=>⟨a,b⟩⟩) fun us s2 ⟨vs,H2,I2,r,fo,rl⟩=>⟨I2.kIn,?_⟩) h1 h2
  exact fin us vs s2 H2 I2 r fo rl
theorem DU{CX:au}{k:Nat}{f C:Addr}{fd:vb}{ps:List Str}{sp:Sp}{E:XK}{pins:ve}{σ:L2.St}{H:Hp}{s:Shared}{Q:VK}{us:List Value}{vs:List V}(M:Mk X.K C f)(F:FnOk X.prog X.w X.K X.mg X.base CX k f fd ps sp)(hr:Room (k+1) X.A)(hb:Binds X.K fd ps [])
  (hx:fT CX X E) (I:Inv X pins σ H s) (r:aS vs us)
  (h:∀x dx,H x=none→H dx=none→dx≠x→X.K.lookup x=none→X.K.lookup dx=none→sp (.ref x::vs) (upd (upd H dx (.own x)) x (.ins C dx [])) (fun v H2=>v=.non∧Q (.ref x) H2) E) :
  wpAny (model X.prog X.w) X.A (call (.ref C) us) (EP X pins σ Q) X.xe s:=by
 have nk:∀a,s.heap.objs.size≤a→X.K.lookup a=none:=fun a ha=>by
  cases q:X.K.lookup a with
  |none=>rfl
  |some o=>exact absurd (rq (I.kIn a o q)) (not_lt.mpr ha)
 have hq:=h (s.heap.objs.size+1) s.heap.objs.size (I.hok.fresh (uf _)) (I.hok.fresh (qm _)) (tj (uh _)) (nk _ (uf _)) (nk _ (qm _))
 have I2:=Inv.made (C:=C) I
 have r2:aS (V.ref (s.heap.objs.size+1)::vs) (Value.ref (s.heap.objs.size+1)::us):=.cons rfl r
 have hl:(Value.ref (s.heap.objs.size+1)::us++[]).length=ps.length:=by
  have e:=r2.length
  rw[F.len _ _ _ _ hq]at e;rw[sq];exact e.symm
 refine wpAny_call (JC (f:=f) I.kIn M.makes M.init (t7.mp M.fn) (codeAny_mono (F.run _ X.stack _ _ ⟨Value.ref (s.heap.objs.size+1)::us,[]⟩ (Value.ref (s.heap.objs.size+1)::us) _ _ E (hr.make C us [])
  (I2.env0.make C us []) (by have:=hb _ (Value.ref (s.heap.objs.size+1)::us) I2.kIn hl;rw[sq]at this;exact this) r2 hq) fun r s' d6=>?_))
 cases r with
 |error e=>exact hx pins σ _ _ e s' I2 d6
 |ok fl =>
  cases fl with
  |ret u =>
   obtain⟨v,H',I3,rv,ev,q3⟩:=I2.after d6;subst ev;exact⟨rv,⟨V.ref (s.heap.objs.size+1),H',I3,rfl,q3⟩⟩
  |next=>exact False.elim d6
  |brk=>exact False.elim d6
  |cont=>exact False.elim d6
theorem aHG(h:XC CX X c G T lv){x:Str}{es:List Expr}{ds:List D}{p:Pos}(hg:aW c x=true)(hf:c.cls.contains x=true)(ha:PA X es (c6 X.K T S ρ ds))(hs:starEach es X.env=es.map fun e=>(false,eval e X.env))(hlen:ds.length=es.length)(hd:G.mo x ds=some (.ok d)) :
  PE X (.Call (.Name x p) es [] pos) (tD X.K T S ρ d):=by
 obtain⟨C,f,fd,ps,j,hj,hm,M,hb,hl,F⟩:=h.go.mo x hf ds d hd;have fin:∀(pins:ve) (σ:L2.St) (H:Hp) (Q:VK) (us:List Value) (vs:List V) (s2:Shared) (H2:Hp),RE X.K T H S ρ σ→(∀v H',aI H H'→Rep X.K T H' S d v→Q v H')→Inv X pins σ H2 s2→aS vs us→aI H H2→aE X.K T H2 S ds vs→wpAny (model X.prog X.w) X.A (call (.ref C) us) (EP X pins σ Q) X.xe s2:=fun pins σ H Q us vs s2 H2 re q I2 r2 fo rl=>by
  refine DU (E:=E0) M F (h.room.mono hj) hb (rQ h) I2 r2 fun y dx hy hdx ne ky kdx=>?_
  have dom2:=(re.same fo).dom
  have m1:aO X.K H2 (upd H2 dx (.own y)) S S:=fun a n _=>⟨n,fun o e=>by rw[aN (bE e hdx)];exact e⟩
  have hy1:(upd H2 dx (.own y)) y=none:=by rw[aN (Ne.symm ne)];exact hy
  have m2:=aO.add (S:=S) (o:=.ins C dx []) hy1 ky
  refine⟨by simp only[uj];rw[←rl.len];exact hl,y,dx,vs,(fun a=>S a∨a=y),ds,d,rfl,aM,.inr rfl,fun a hs=>?_,aE.gen m2 _ _ (aE.gen m1 _ _ rl),hd,fun H' kp rp=>⟨rfl,q _ H' ?_ (rp S fun a ha=>⟨.inl ha,?_⟩)⟩⟩
  ·rcases hs with z|z
   ·obtain⟨o,e⟩:=dom2 a z;exact⟨o,by rw[aN (bE e hy),aN (bE e hdx)];exact e⟩
   ·subst z;exact⟨_,aM⟩
  ·intro b o e;have e2:=fo b o e
   refine kp b o (bE e2 hy) ?_;rw[aN (bE e2 hy),aN (bE e2 hdx)];exact e2
  ·intro z;subst z;obtain⟨o,e⟩:=dom2 a ha;rw[hy]at e;cases e
 cases es with
 |nil =>
  have bp:ds=[]:=sr.mp hlen
  subst bp;intro pins s σ H Q I ⟨re,q⟩;refine wpAny_Call_Name_kw (dZ I (h.glob hg) hm ?_ (h.gne hg));exact callWith_K0 I.kIn M.kp (fin pins σ H Q [] [] s H re q I .nil (aI.refl _) aE.nil)
 |cons e es =>
  obtain⟨h1,h2⟩:=pQ (pos:=pos) hs;intro pins s σ H Q I ⟨re,q⟩;refine wpAny_Call_Name_kw (dZ I (h.glob hg) hm ?_ (h.gne hg));refine callWith_K (h₀:=X.base) I.ok.mod.kin M.kp (af (ha pos pins s σ H (fun vs H'=>aI H H'∧aE X.K T H' S ds vs) I ⟨re,fun vs H' a b=>⟨a,b⟩⟩) fun us s1 ⟨vs,H1,I1,r,sm,rl⟩=>⟨I1.kIn,?_⟩) h1 h2
  exact fin pins σ H Q us vs s1 H1 re q I1 r sm rl
noncomputable def rBf(K:va)(T:Tx)(S:Addr→Prop)(g:List D→Option D):List V→Hp→VK→Prop:=fun xs H Q =>
 ∃ds d,(∀a,S a→∃o,H a=some o)∧aE K T H S ds xs∧g ds=some d∧∀v H',aI H H'→Rep K T H' S d v→Q v H'
theorem rep1{K:va}{H:Hp}{xs:List V}(r:aE K T H S [a] xs):∃x,xs=[x]∧Rep K T H S a x:=by
 unfold aE at r;obtain⟨x,r',rfl,rx,rr⟩:=r;unfold aE at rr;subst rr;exact⟨x,rfl,rx⟩
theorem rep2{K:va}{H:Hp}{xs:List V}(r:aE K T H S [a,b] xs):∃x y,xs=[x,y]∧Rep K T H S a x∧Rep K T H S b y:=by
 unfold aE at r;obtain⟨x,r',rfl,rx,rr⟩:=r;obtain⟨y,rfl,ry⟩:=rep1 rr;exact⟨x,y,rfl,rx,ry⟩
theorem jC{K:va}{H:Hp}{i:Int}:Rep K T H S (.int i) (.int i):=by unfold Rep;rfl
theorem aFk:gF X (.builtin "len") (rBf X.K T S SO):=by
 rintro pins s σ H xs us Q I r ⟨ds,d,dom,rl,e,q⟩;unfold SO at e;split at e
 ·obtain⟨x,rfl,rx⟩:=rep1 rl;cases e;unfold Rep at rx;obtain⟨p,ys,rfl,_,hq,ry⟩:=rx;exact iD pins s σ H _ us Q I r ⟨p,ys,rfl,.inl (SqL.of hq),by rw[←ry.len];exact q _ H (aI.refl H) jC⟩
 ·obtain⟨x,rfl,rx⟩:=rep1 rl;cases e;unfold Rep at rx;obtain⟨p,ys,rfl,_,hq,ry⟩:=rx;exact iD pins s σ H _ us Q I r ⟨p,ys,rfl,.inr hq,by rw[←ry.len];exact q _ H (aI.refl H) jC⟩
 ·obtain⟨x,rfl,rx⟩:=rep1 rl;cases e;unfold Rep at rx;obtain⟨p,ys,rfl,_,hq,ry⟩:=rx;exact iD pins s σ H _ us Q I r ⟨p,ys,rfl,.inl hq,by rw[←ry.len];exact q _ H (aI.refl H) jC⟩
 ·obtain⟨x,rfl,rx⟩:=rep1 rl;unfold Rep at rx;subst rx;split at e
  ·rename_i hz;cases e;exact tY pins s σ H _ us Q I r ⟨_,rfl,se hz iY,q _ H (aI.refl H) jC⟩
  ·cases e
 ·cases e
noncomputable def rBl(K:va)(T:Tx)(S:Addr→Prop):List V→Hp→VK→Prop:=fun xs H Q =>
 ∃ds es,aE K T H S ds xs∧wD ds=some (.lst es)∧∀p ys H',aI H H'→H p=none→H' p=some (.lst ys)→aE K T (er H' p) S es ys→Q (.ref p) H'
theorem aAJ:gF X (.type "list") (rBl X.K T S):=by
 rintro pins s σ H xs us Q I r ⟨ds,es,rl,e,q⟩;unfold wD at e;split at e
 ·obtain⟨x,rfl,rx⟩:=rep1 rl;cases e;unfold Rep at rx;obtain⟨p,ys,rfl,_,hq,ry⟩:=rx;exact iC pins s σ H _ us Q I r ⟨p,ys,rfl,.inl (SqL.of hq),fun l hl=>q l ys _ (aI.upd hl) hl aM (by rw[iB hl];exact ry)⟩
 ·obtain⟨x,rfl,rx⟩:=rep1 rl;cases e;unfold Rep at rx;obtain⟨p,ys,rfl,_,hq,ry⟩:=rx;exact iC pins s σ H _ us Q I r ⟨p,ys,rfl,.inr hq,fun l hl=>q l ys _ (aI.upd hl) hl aM (by rw[iB hl];exact ry)⟩
 ·obtain⟨x,rfl,rx⟩:=rep1 rl;cases e;unfold Rep at rx;obtain⟨p,ys,rfl,_,hq,ry⟩:=rx;exact iC pins s σ H _ us Q I r ⟨p,ys,rfl,.inl hq,fun l hl=>q l ys _ (aI.upd hl) hl aM (by rw[iB hl];exact ry)⟩
 ·cases e
theorem TJ:gF X (.type "tuple") (rBf X.K T S tN):=by
 rintro pins s σ H xs us Q I r ⟨ds,d,dom,rl,e,q⟩;unfold tN at e;split at e
 ·obtain⟨x,rfl,rx⟩:=rep1 rl;cases e;unfold Rep at rx;obtain⟨p,ys,rfl,_,hq,ry⟩:=rx;exact jQ pins s σ H _ us Q I r ⟨p,ys,rfl,.inl ⟨SqL.of hq,fun l hl=>q _ _ (aI.upd hl) (fW dom hl ry)⟩⟩
 ·obtain⟨x,rfl,rx⟩:=rep1 rl;cases e;have rx':=rx
  unfold Rep at rx;obtain⟨p,ys,rfl,_,hq,ry⟩:=rx;exact jQ pins s σ H _ us Q I r ⟨p,ys,rfl,.inr ⟨hq,q _ H (aI.refl H) rx'⟩⟩
 ·cases e
theorem qE{K:va}{H:Hp}:∀{ds:List D} {ns:List Int} {ys:List V} {us:List Value},gS ds=some ns→aE K T H S ds ys→aS ys us→IntsAre us ns
 |[],ns,ys,us,h,r,v=>by
  simp only[gS]at h;cases h;unfold aE at r;subst r;cases v;exact .nil
 |d::ds,ns,ys,us,h,r,v=>by
  cases d<;>simp only[gS,reduceCtorEq]at h
  rename_i i;rw[qx]at h;obtain⟨r',h1,rfl⟩:=h;unfold aE at r;obtain⟨x,w,rfl,rx,rr⟩:=r;unfold Rep at rx;subst rx;cases v with
  |cons v1 v2 =>
   obtain⟨t,rfl⟩:=v1;exact .cons i t (qE h1 rr v2)
section
variable {prog:vc}{w:World}{A:Around}{E:vd}{s:Shared}
theorem yG{l:Addr}{vs:List Value}{ns:List Int}{Q:vd}(hh:A.handled=none)(hl:s.heap.IsList l vs.toArray)(hi:IntsAre vs ns)(ie:0<ns.length)
  (h:∀h' M (t:Tok) tk,(∀b o,s.heap.get? b=some o→h'.get? b=some o)→M∈ns→(∀a,a∈ns→a≤M)→Q (.int M t) { s with heap:=h',toks:=tk }) :
  wpAny (model prog w) A (call (.builtin "max") [.ref l]) Q E s:=by
 obtain⟨xs,e⟩:=hi.allInts.items;have jj:ns=xs.toList.map (·.1):=by
  rw[←hi.numsOf,←nums_intItems,←e]
 have hsz:0<xs.size:=by
  have h3:=ie;rw[jj,ql,length_toList]at h3;exact h3
 rw[e]at hl;refine max_intList hh hl hsz fun v h' tk hv hk=>?_
 obtain⟨t,rfl⟩:=intItems_at hv;obtain⟨h1,h2⟩:=argBest_gt (numAt xs) (xs.size-1);refine h _ _ t tk hk ?_ fun a ha=>?_
 ·rw[jj,numAt_eq];exact getD_mem (by rw[ql,length_toList];lia)
 ·rw[jj]at ha;obtain⟨j,hj,rfl⟩:=mem_getD ha;rw[ql,length_toList]at hj;rw[←numAt_eq];exact h2 j (by lia)
end
theorem aFj(hc:X.calm=true):gF X (.builtin "max") (rBf X.K T S KI):=by
 rintro pins s σ H xs us Q I r ⟨ds,d,dom,rl,e,q⟩;unfold KI at e;split at e
 ·obtain⟨x,y,rfl,rx,ry⟩:=rep2 rl;cases e;unfold Rep at rx ry;subst rx ry;exact FW hc pins s σ H _ us Q I r ⟨_,_,rfl,q _ H (aI.refl H) jC⟩
 ·obtain⟨x,rfl,rx⟩:=rep1 rl;split at e
  ·rename_i i t he;cases e;unfold Rep at rx;obtain⟨p,ys,rfl,_,hq,ry⟩:=rx;obtain⟨u,rfl,ru⟩:=vals1 r;cases ru;obtain⟨its,rv,pl,hz⟩:=I.list (SqL.of hq);have hi:=qE he ry rv
   refine yG (I.ok.hd hc) pl.isList hi (by simp) fun h' M tt tk hk hM hle=>⟨.int M,H,I.kept (t':=tk) hk,⟨_,rfl⟩,?_⟩
   obtain⟨m1,m2,m3⟩:=pZ t i;have e1:lL i t∈i::t:=by
    rcases m1 with z|z
    ·rw[z];simp
    ·exact qt _ z
   have e2:M≤lL i t:=by
    rcases sg.mp hM with z|z
    ·rw[z];exact m2
    ·exact m3 M z
   have e3:M=lL i t:=Int.le_antisymm e2 (hle _ e1)
   rw[e3];exact q _ H (aI.refl H) jC
  ·cases e
 ·cases e
end
section
variable {CX:au}{X:Cx}{c:CC}{G:GS}{T:Tx}{lv:Nat}{ρ:List Sl}{S:Addr→Prop}{pos:Pos}{ea eb ec:Expr}{a b d:D}
noncomputable def k8:D→Option String
 |.non=>some "NoneType"
 |.bl _=>some "bool"
 |.int _=>some "int"
 |.str _=>some "str"
 |.lst _=>some "list"
 |.tup _=>some "tuple"
 |_=>none
theorem JO{pins:ve}{σ:L2.St}{H:Hp}{s:Shared}{A:Around}{E:vd}{Q:vd}{x:V}{u c:Value}{tn:String}{k:Bool}(I:Inv X pins σ H s)(rx:RelV x u)(rep:Rep X.K T H S d x)(ht:k8 d=some tn)
  (e:kitOne X.K (.type tn) c=some k) (h:∀tk,Q (.bool k) { s with toks:=tk }):wpAny (model X.prog X.w) A (call (.builtin "isinstance") [u,c]) Q E s:=by
 cases d<;>simp only[k8,reduceCtorEq,qg]at ht
 all_goals subst ht
 ·unfold Rep at rep;subst rep;exact gQ I rx (.non) e h
 ·unfold Rep at rep;subst rep;exact gQ I rx (.bl _) e h
 ·unfold Rep at rep;subst rep;exact gQ I rx (.int _) e h
 ·unfold Rep at rep;subst rep;exact gQ I rx (.str _) e h
 ·unfold Rep at rep;obtain⟨p,xs,rfl,_,hq,_⟩:=rep;exact gQ I rx (.lst hq) e h
 ·unfold Rep at rep;obtain⟨p,xs,rfl,_,hq,_⟩:=rep;obtain rfl:u=Value.ref p:=rx;obtain⟨its,rv,⟨o,h1,h2,_⟩,_⟩:=I.tuple hq;exact kia_one PySem.W.kitx_tuple I.kIn ⟨o,h1,h2⟩ e (fun z=>nomatch z) h
theorem gR(K:va):∀(t n:String),(t,n)∈([("NoneType","int"),("NoneType","bool"),("NoneType","str"),("NoneType","list"),("NoneType","tuple"),("bool","str"),("bool","list"),("bool","tuple"),("int","bool"),("int","str"),("int","list"),("int","tuple"),
  ("str","int"),("str","bool"),("str","list"),("str","tuple"),("list","int"),("list","bool"),("list","str"),("list","tuple"),("tuple","int"),("tuple","bool"),("tuple","str"),("tuple","list")]:List (String×String))→kitOne K (.type t) (.type n)=some false:=by
 intro t n h;simp only[sg,Prod.mk.injEq,uo,or_false]at h
 rcases h with ⟨rfl,rfl⟩|⟨rfl,rfl⟩|⟨rfl,rfl⟩|⟨rfl,rfl⟩|⟨rfl,rfl⟩|⟨rfl,rfl⟩|⟨rfl,rfl⟩|⟨rfl,rfl⟩|⟨rfl,rfl⟩|⟨rfl,rfl⟩|⟨rfl,rfl⟩|⟨rfl,rfl⟩|⟨rfl,rfl⟩|⟨rfl,rfl⟩|⟨rfl,rfl⟩|⟨rfl,rfl⟩|⟨rfl,rfl⟩|⟨rfl,rfl⟩|⟨rfl,rfl⟩|⟨rfl,rfl⟩|⟨rfl,rfl⟩|⟨rfl,rfl⟩|⟨rfl,rfl⟩|⟨rfl,rfl⟩<;>kernel_rfl
theorem JP(K:va):kitOne K (.type "bool") (.type "int")=some true:=by kernel_rfl
theorem iQ(K:va)(t:String):kitOne K (.type t) (.type t)=some true:=by
 unfold kitOne;rw[if_pos (by simp)]
theorem WJ:¬(("bool":Str) = "int")∧¬(("str":Str) = "int")∧¬(("list":Str) = "int")∧¬(("tuple":Str) = "int")∧¬(("int":Str) = "bool")∧¬(("str":Str) = "bool")∧¬(("list":Str) = "bool")∧¬(("tuple":Str) = "bool") ∧
  ¬(("int":Str) = "str")∧¬(("bool":Str) = "str")∧¬(("list":Str) = "str")∧¬(("tuple":Str) = "str")∧¬(("int":Str) = "list")∧¬(("bool":Str) = "list")∧¬(("str":Str) = "list")∧¬(("tuple":Str) = "list") ∧
  ¬(("int":Str) = "tuple")∧¬(("bool":Str) = "tuple")∧¬(("str":Str) = "tuple")∧¬(("list":Str) = "tuple"):=by decide +kernel
theorem aAf{t:Str}{k:Bool}{tn:String}(K:va)(ht:jA.contains t=true)(hd:k8 d=some tn)(h:iS G t d=some k):∃n:String,bootBuiltins t=some (.type n)∧kitOne K (.type tn) (.type n)=some k:=by
 obtain⟨n1,n2,n3,n4,n5,n6,n7,n8,n9,n10,n11,n12,n13,n14,n15,n16,n17,n18,n19,n20⟩:=WJ;have ht':t = "int"∨t = "bool"∨t = "str"∨t = "list"∨t = "tuple":=by
  simpa [jA] using ht
 have b1:bootBuiltins "int" = some (.type "int"):=by decide +kernel
 have b2:bootBuiltins "bool" = some (.type "bool"):=by decide +kernel
 have b3:bootBuiltins "str" = some (.type "str"):=by decide +kernel
 have b4:bootBuiltins "list" = some (.type "list"):=by decide +kernel
 have b5:bootBuiltins "tuple" = some (.type "tuple"):=by decide +kernel
 rcases ht' with rfl|rfl|rfl|rfl|rfl<;>cases d<;>simp only[k8,reduceCtorEq,qg]at hd
 all_goals subst hd
 all_goals simp only[iS,n1,n2,n3,n4,n5,n6,n7,n8,n9,n10,n11,n12,n13,n14,n15,n16,n17,n18,n19,n20,if_true,if_false,true_or,or_true,or_false,or_self,qg]at h
 all_goals subst h
 all_goals first
  |exact⟨_,b1,by first|exact iQ K _|exact JP K|exact gR K _ _ (by decide)⟩
  |exact⟨_,b2,by first|exact iQ K _|exact gR K _ _ (by decide)⟩
  |exact⟨_,b3,by first|exact iQ K _|exact gR K _ _ (by decide)⟩
  |exact⟨_,b4,by first|exact iQ K _|exact gR K _ _ (by decide)⟩
  |exact⟨_,b5,by first|exact iQ K _|exact gR K _ _ (by decide)⟩
theorem pC:bootBuiltins "isinstance" = some (.builtin "isinstance"):=by decide +kernel
theorem aEt(h:XC CX X c G T lv){t:Str}{p p2:Pos}{k:Bool}{tn:String}(hg:aW c "isinstance" = true)(hm:X.mg "isinstance" = none)(hgt:aW c t=true)(hmt:X.mg t=none)(ht:jA.contains t=true)(ha:PE X ea (tD X.K T S ρ a))(hs:starEach [ea,.Name t p2] X.env=[(false,eval ea X.env),(false,eval (.Name t p2) X.env)])
  (hd:k8 a=some tn) (hi:iS G t a=some k):PE X (.Call (.Name "isinstance" p) [ea,.Name t p2] [] pos) (tD X.K T S ρ (.bl k)):=by
 obtain⟨n,hb,hk⟩:=aAf X.K ht hd hi;have hnn:t≠"__name__":=by
  intro z;subst z
  revert ht
  decide +kernel
 have hp:PE X (.Name t p2) (tC (.ty n)):=AA (h.glob hgt) hmt hb rfl hnn (h.gne hgt)
 have hc:gF X (.builtin "isinstance") (fun xs H Q=>∃x,xs=[x,.ty n]∧Rep X.K T H S a x∧Q (.bl k) H):=by
  rintro pins s σ H xs us Q I r ⟨x,rfl,rep,q⟩;obtain⟨u,w',rfl,r1,r2⟩:=vals2 r;obtain rfl:w'=Value.type n:=r2;exact JO I r1 rep hd hk fun tk=>⟨.bl k,H,I.tok tk,rfl,q⟩
 have hs1:starEach [ea,.Name t p2] X.env=(false,eval ea X.env)::starEach [.Name t p2] X.env:=hs
 refine PE.mono (gN hc (h.glob hg) hm pC (bJ ha (bJ hp gG) hs1) (by decide +kernel) ?_ ?_ ?_) fun σ H Q ⟨re,q⟩=>⟨re,fun x H1 s1 r1=>⟨x,rfl,r1,q _ H1 s1 bS⟩⟩
 all_goals first|exact h.gne hg|exact hs1|rfl|decide +kernel
end
theorem kX{o:Expr}{m:Str}{env:Env}(ho:jI o=true):attributeBase o m env (eval o env)=eval o env:=by
 cases o<;>first|rfl|(simp[jI]at ho)
theorem xB{env:Env}{pos:Pos}:∀(l:List Expr),(backTo pos (l.map fun e=>(false,eval e env))).all (!·.1)=true
 |[]=>rfl
 |_::r=>xB r
theorem vM{X:Cx}{o:Expr}{m:Str}{args:List Expr}{apos pos:Pos}(ho:jI o=true)(hs:starEach args X.env=args.map fun e=>(false,eval e X.env))(hl:args.length<30)(hp:(apos.endLine == pos.line)=true):oT X o m args apos pos:=by
 refine⟨do return (←importBound o X.env).getD true,?_⟩
 show (do
  let ov ←attributeBase o m X.env (eval o X.env)
  standAt apos.atName
  methodCall o m apos pos X.env ov (args.length+0) (backTo pos (starEach args X.env)) (backToKw pos (keywordEach [] X.env)))=_
 rw[kX ho];have hf:methodCallForm (args.length+0) (backTo pos (starEach args X.env)) (backToKw pos (keywordEach [] X.env))=true:=by
  unfold methodCallForm;rw[hs,xB];simp[backToKw,keywordEach]
  first|lia|(refine⟨?_,?_⟩<;>first|rfl|lia)
 have hpp:methodCallPos true o X.env apos pos=pure pos:=by
  unfold methodCallPos;rw[hp];rfl
 unfold methodCall;rw[hf,hpp];unfold calleeOf;rfl
section
variable {K:va}{T:Tx}{H:Hp}{S:Addr→Prop}
theorem bC.len:∀{kvs:List (Int×D)} {gs:List (Key×V)},bC K T H S kvs gs→kvs.length=gs.length
 |[],gs,h=>by unfold bC at h;subst h;rfl
 | (i,d)::kvs,gs,h=>by
  unfold bC at h;obtain⟨x,r,rfl,_,q⟩:=h;exact congrArg (· + 1) (bC.len q)
theorem bC.nil:bC K T H S [] []:=by unfold bC;rfl
theorem bC.cons{i:Int}{d:D}{x:V}{kvs:List (Int×D)}{gs:List (Key×V)}(h:Rep K T H S d x)(g:bC K T H S kvs gs):bC K T H S ((i,d)::kvs) ((Sum.inl i,x)::gs):=by unfold bC;exact⟨x,gs,rfl,h,g⟩
theorem JT{i j:Int}(h:¬i=j):¬(Sum.inl i:Key)=Sum.inl j:=fun z=>h (Sum.inl.inj z)
theorem bC.val{k:Int}:∀{kvs:List (Int×D)} {gs:List (Key×V)},bC K T H S kvs gs→(∀d,dQ kvs k=some d→∃x,kZ gs (Sum.inl k)=some x∧Rep K T H S d x)∧(dQ kvs k=none→kZ gs (Sum.inl k)=none)
 |[],gs,h=>by unfold bC at h;subst h;exact⟨fun d e=>(nomatch (show none=some d from e)),fun _=>rfl⟩
 | (i,d)::kvs,gs,h=>by
  unfold bC at h;obtain⟨x,r,rfl,p,q⟩:=h;obtain⟨i1,i2⟩:=bC.val (k:=k) q
  by_cases e:i=k
  ·have e1:dQ ((i,d)::kvs) k=some d:=by unfold dQ;rw[List.find?_cons_of_pos (by simpa using e)];rfl
   rw[e1,kB (congrArg Sum.inl e)];exact⟨fun d' z=>⟨x,rfl,by cases z;exact p⟩,fun z=>by cases z⟩
  ·have e1:dQ ((i,d)::kvs) k=dQ kvs k:=by unfold dQ;rw[List.find?_cons_of_neg (by simpa using e)]
   rw[e1,kC (JT e)];exact⟨i1,i2⟩
theorem bC.any{k:Int}:∀{kvs:List (Int×D)} {gs:List (Key×V)},bC K T H S kvs gs→(kvs.any fun kv=>decide (kv.1=k))=gs.any fun kv=>decide (kv.1=(Sum.inl k:Key))
 |[],gs,h=>by unfold bC at h;subst h;rfl
 | (i,d)::kvs,gs,h=>by
  unfold bC at h;obtain⟨x,r,rfl,p,q⟩:=h;rw[any_cons,any_cons,bC.any q]
  congr 1
  exact decide_eq_decide.mpr ⟨fun z=>congrArg Sum.inl z,fun z=>Sum.inl.inj z⟩
theorem bC.repl{k:Int}{d:D}{v:V}(hv:Rep K T H S d v):∀{kvs:List (Int×D)} {gs:List (Key×V)},bC K T H S kvs gs→bC K T H S (kvs.map fun kv=>if kv.1=k then(kv.1,d) else kv) (gs.map fun kv=>if kv.1=(Sum.inl k:Key) then(kv.1,v) else kv)
 |[],gs,h=>by unfold bC at h;subst h;exact bC.nil
 | (i,d')::kvs,gs,h=>by
  unfold bC at h;obtain⟨x,r,rfl,p,q⟩:=h;rw[su,su]
  by_cases e:i=k
  ·rw[if_pos e,if_pos (congrArg Sum.inl e)];exact bC.cons hv (bC.repl hv q)
  ·rw[if_neg e,if_neg (JT e)];exact bC.cons p (bC.repl hv q)
theorem bC.snoc{k:Int}{d:D}{v:V}(hv:Rep K T H S d v):∀{kvs:List (Int×D)} {gs:List (Key×V)},bC K T H S kvs gs→bC K T H S (kvs++[(k,d)]) (gs++[(Sum.inl k,v)])
 |[],gs,h=>by unfold bC at h;subst h;exact bC.cons hv bC.nil
 | (i,d')::kvs,gs,h=>by
  unfold bC at h;obtain⟨x,r,rfl,p,q⟩:=h;exact bC.cons p (bC.snoc hv q)
theorem bC.put{k:Int}{d:D}{v:V}(hv:Rep K T H S d v){kvs:List (Int×D)}{gs:List (Key×V)}(h:bC K T H S kvs gs):bC K T H S (lF kvs k d) (putK gs (Sum.inl k) v):=by
 unfold lF putK;rw[bC.any h];split
 ·exact bC.repl hv h
 ·exact bC.snoc hv h
end
section
variable {CX:au}{X:Cx}{c:CC}{G:GS}{T:Tx}{lv:Nat}{ρ:List Sl}{S:Addr→Prop}{pos:Pos}{ea eb ec:Expr}{a b d:D}
theorem aEy(hu:X.A.units+1<cLine){i:Int}{kvs:List (Int×D)}(ha:PE X ea (tD X.K T S ρ (.dct kvs)))(hb:PE X eb (tD X.K T S ρ (.int i)))(hp:nA eb)(hd:dQ kvs i=some d):PE X (.Subscript ea eb pos) (tD X.K T S ρ d):=
 PE.mono (QI hu ha hb hp) fun σ H Q ⟨re,q⟩=>⟨re,fun x H1 s1 r1=>⟨re.same s1,fun y H2 s2 r2=>by
  have r1:=r1.same s2
  unfold Rep at r1 r2;subst r2;obtain⟨p,gs,rfl,_,e,rk⟩:=r1;obtain⟨v,e1,rv⟩:=(bC.val (k:=i) rk).1 d hd;refine⟨p,v,rfl,?_,q v H2 (s1.trans s2) rv⟩;rw[←e1];exact GB.k (k:=Sum.inl i) e⟩⟩
end
structure Plain (e:Expr):Prop where
 star:∀(env:Env) (es:List Expr),starEach (e::es) env=(false,eval e env)::starEach es env
 marks:∀op,behindInMarks op e=false
 set_:∀env x,foldedSetIterable e env x=pure x
 ix:nA e
theorem dW{n:Nat}{c:CC}{e:Expr}{ir:IE}(h:cE n c e=some ir):Plain e:=by
 cases e<;>first|exact⟨fun _ _=>rfl,fun _=>rfl,fun _ _=>rfl,fun _ _=>rfl⟩|(cases n<;>exact nomatch (show none=some ir from h))
section
variable {CX:au}{G:GS}{T:Tx}{lv:Nat}
def fw(CX:au)(G:GS)(T:Tx)(lv n:Nat):Prop:=∀(X:Cx) (c:CC) (S:Addr→Prop) (ρ:List Sl) (e:Expr) (ir:IE),XC CX X c G T lv→cE n c e=some ir→∀d,ev G ir ρ=some d →
 PE X e (tD X.K T S ρ d)∧(gI c e=true→∀ds,d=.lst ds→PE X e (ef X.K T S ρ ds))
def mz(CX:au)(G:GS)(T:Tx)(lv n:Nat):Prop:=∀(X:Cx) (c:CC) (S:Addr→Prop) (ρ:List Sl) (e:Expr) (ir:IE),XC CX X c G T lv→cT n c e=some ir→∀k,ev G ir ρ=some (.bl k)→PT X e (gc X.K T S ρ k)
def p9(CX:au)(G:GS)(T:Tx)(lv n:Nat):Prop:=∀(X:Cx) (c:CC) (S:Addr→Prop) (ρ:List Sl) (k:Bool) (vs:List Expr) (ir:IE) (pos:Pos),XC CX X c G T lv →
 (cB n c false k vs=some ir→∀d,ev G ir ρ=some d→PE X (.BoolOp (if k then .And else .Or) vs pos) (tD X.K T S ρ d)) ∧
 (cB n c true k vs=some ir→∀b,ev G ir ρ=some (.bl b)→PW X (.BoolOp (if k then .And else .Or) vs pos) (gc X.K T S ρ b))
def jr(CX:au)(G:GS)(T:Tx)(lv n:Nat):Prop:=∀(X:Cx) (c:CC) (S:Addr→Prop) (ρ:List Sl) (es:List Expr) (ir:IE),XC CX X c G T lv→cA n c es=some ir→∀d,ev G ir ρ=some d →
 ∃ds,d=.tup ds∧ds.length=es.length∧PA X es (c6 X.K T S ρ ds)∧starEach es X.env=es.map fun e=>(false,eval e X.env)
def LY(_:Src)(_:Expr):Prop:=True
theorem NU{c:CC}{tg:Expr}{aT:List Nat}{tp:Bool}{k:Src}(ez:cZ c tg=some (aT,tp))(h:UT tp k=true):LY k tg:=trivial
def OkI(CX:au)(G:GS)(T:Tx)(lv n:Nat):Prop:=∀(X:Cx) (c:CC) (S:Addr→Prop) (ρ:List Sl) (e:Expr) (k:Src) (ir:IE),XC CX X c G T lv→cI n c e=some (k,ir)→∀d ds,ev G ir ρ=some d→items k d=some ds →
 (∀tg,LY k tg→PI X tg e (tI X.K T S ρ ds))∧∀x,foldedSetIterable e X.env x=pure x
theorem IT{n:Nat}(hE:fw CX G T lv n)(hA:jr CX G T lv n):jr CX G T lv (n+1):=by
 intro X c S ρ es ir xc h d hd;cases es with
 |nil =>
  cases (show some IE.nil=some ir from h)
  simp only[ev,qg]at hd;exact⟨[],hd.symm,rfl,AF,rfl⟩
 |cons e es =>
  obtain⟨x,hx,h⟩:=aG h;obtain⟨y,hy,rfl⟩:=aQ h;simp only[ev,qo,qi]at hd;obtain⟨a,ha,w,hw,hd⟩:=hd;obtain⟨ds,rfl,hl,pa,hs⟩:=hA X c S ρ es y xc hy w hw;simp only[qg]at hd;have st:=(dW hx).star X.env es
  refine⟨a::ds,hd.symm,by simp[hl],rS (hE X c S ρ e x xc hx a ha).1 pa st,?_⟩
  rw[st,hs];rfl
theorem IR{n:Nat}(hE:fw CX G T lv n)(hT:mz CX G T lv n)(hB:p9 CX G T lv n):p9 CX G T lv (n+1):=by
 intro X c S ρ k vs ir pos xc;refine⟨fun h d hd=>?_,fun h b hb=>?_⟩
 ·cases vs with
  |nil=>exact nomatch (show none=some ir from h)
  |cons a r =>
   cases r with
   |nil =>
    exact YK (hE X c S ρ a ir xc h d hd).1
   |cons b r =>
    obtain⟨x,hx,h⟩:=aG h;obtain⟨y,hy,rfl⟩:=aQ h;cases k with
    |true =>
     simp only[if_true,ev,qo,qi]at hd;obtain⟨w,hw,hd⟩:=hd;have p1:=(hE X c S ρ a x xc hx w hw).1
     cases w<;>first|(simp only[reduceCtorEq]at hd;done)|skip
     rename_i kk;cases kk with
     |true =>
      simp only[qi]at hd;obtain⟨z,hz,hd⟩:=hd;have p2:=(hB X c S ρ true (b::r) y pos xc).1 hy z hz
      have jz:z=d:=by cases z<;>simp_all
      subst jz;exact PE.mono (IB p1 p2) fun σ H Q ⟨re,q⟩=>⟨re,fun x H1 s1 r1=>by
       unfold Rep at r1;exact⟨true,r1,EW ⟨re.same s1,fun v H' s2 r=>q v H' (s1.trans s2) r⟩⟩⟩
     |false =>
      simp only[qg]at hd;subst hd;exact PE.mono (IB p1 (tb:=fun _ _ _=>False) (fun _ _ _ _ _ _ h=>h.elim)) fun σ H Q ⟨re,q⟩=>⟨re,fun x H1 s1 r1=>by
       unfold Rep at r1;exact⟨false,r1,oY (q _ H1 s1 bS)⟩⟩
    |false =>
     simp only[qr,if_false,ev,qo,qi]at hd;obtain⟨w,hw,hd⟩:=hd;have p1:=(hE X c S ρ a x xc hx w hw).1
     cases w<;>first|(simp only[reduceCtorEq]at hd;done)|skip
     rename_i kk;cases kk with
     |false =>
      simp only[qi]at hd;obtain⟨z,hz,hd⟩:=hd;have p2:=(hB X c S ρ false (b::r) y pos xc).1 hy z hz
      have jz:z=d:=by cases z<;>simp_all
      subst jz;exact PE.mono (UI p1 p2) fun σ H Q ⟨re,q⟩=>⟨re,fun x H1 s1 r1=>by
       unfold Rep at r1;exact⟨false,r1,oY ⟨re.same s1,fun v H' s2 r=>q v H' (s1.trans s2) r⟩⟩⟩
     |true =>
      simp only[qg]at hd;subst hd;exact PE.mono (UI p1 (tb:=fun _ _ _=>False) (fun _ _ _ _ _ _ h=>h.elim)) fun σ H Q ⟨re,q⟩=>⟨re,fun x H1 s1 r1=>by
       unfold Rep at r1;exact⟨true,r1,EW (q _ H1 s1 bS)⟩⟩
 ·cases vs with
  |nil=>exact nomatch (show none=some ir from h)
  |cons a r =>
   cases r with
   |nil =>
    cases k with
    |true=>exact PV (hT X c S ρ a ir xc h b hb)
    |false=>exact HE (hT X c S ρ a ir xc h b hb)
   |cons b' r =>
    obtain⟨x,hx,h⟩:=aG h;obtain⟨y,hy,rfl⟩:=aQ h;cases k with
    |true =>
     simp only[if_true,ev,qo,qi]at hb;obtain⟨w,hw,hb⟩:=hb;cases w<;>first|(simp only[reduceCtorEq]at hb;done)|skip
     rename_i kk;have p1:=hT X c S ρ a x xc hx kk hw
     cases kk with
     |true =>
      simp only[qi]at hb;obtain⟨z,hz,hb⟩:=hb;have jz:z=.bl b:=by cases z<;>simp_all
      subst jz;have p2:=(hB X c S ρ true (b'::r) y pos xc).2 hy b hz
      exact PW.mono (HG p1 p2) fun σ H Q ⟨re,q⟩=>⟨re,fun H1 s1=>EW ⟨re.same s1,fun H' s2=>q H' (s1.trans s2)⟩⟩
     |false =>
      simp only[qg,D.bl.injEq]at hb;subst hb;exact PW.mono (HG p1 (tB':=fun _ _ _=>False) (fun _ _ _ _ _ _ _ h=>h.elim)) fun σ H Q ⟨re,q⟩=>⟨re,fun H1 s1=>oY (q H1 s1)⟩
    |false =>
     simp only[qr,if_false,ev,qo,qi]at hb;obtain⟨w,hw,hb⟩:=hb;cases w<;>first|(simp only[reduceCtorEq]at hb;done)|skip
     rename_i kk;have p1:=hT X c S ρ a x xc hx kk hw
     cases kk with
     |false =>
      simp only[qi]at hb;obtain⟨z,hz,hb⟩:=hb;have jz:z=.bl b:=by cases z<;>simp_all
      subst jz;have p2:=(hB X c S ρ false (b'::r) y pos xc).2 hy b hz
      exact PW.mono (HF p1 p2) fun σ H Q ⟨re,q⟩=>⟨re,fun H1 s1=>oY ⟨re.same s1,fun H' s2=>q H' (s1.trans s2)⟩⟩
     |true =>
      simp only[qg,D.bl.injEq]at hb;subst hb;exact PW.mono (HF p1 (tB':=fun _ _ _=>False) (fun _ _ _ _ _ _ _ h=>h.elim)) fun σ H Q ⟨re,q⟩=>⟨re,fun H1 s1=>EW (q H1 s1)⟩
theorem iE(xc:XC CX X c G T lv){x:Str}(h1:fH.contains x=true)(h2:c.fns.contains x=false)(h3:c.cls.contains x=false):X.mg x=none:=xc.go.bi x h1 h2 h3
theorem IP{n:Nat}(hE:fw CX G T lv n)(hA:jr CX G T lv n):OkI CX G T lv (n+1):=by
 intro X c S ρ e k ir xc h d ds hd hi;have h:(match (lT c e).bind fun q=>(srcOf q.1).map fun k=>(k,q.2) with
  |some q=>(match q.1 with
   |.rng=>(cA n c q.2).map fun y=>(Src.rng,IE.tup y)
   |k=>(one? q.2).bind fun a=>(cE n c a).map fun y=>(k,y))
  |none=>(cE n c e).map fun y=>(Src.seq,y))=some (k,ir):=h
 cases hb:((lT c e).bind fun q=>(srcOf q.1).map fun k=>(k,q.2)) with
 |none =>
  rw[hb]at h;obtain⟨y,hy,e1⟩:=aQ h;cases e1;exact⟨fun tg _=>QD (hE X c S ρ e ir xc hy d hd).1 hi,(dW hy).set_ X.env⟩
 |some q =>
  rw[hb]at h;obtain⟨r,hr,hq⟩:=aG hb;obtain⟨k',hk,rfl⟩:=aQ hq;obtain⟨p1,p2,rfl,hg,ho⟩:=iZ hr;obtain⟨hf,hc⟩:=AD ho;have hx:(r.1 = "range"∧k'=.rng)∨(r.1 = "reversed"∧k'=.rev):=by
   unfold srcOf at hk;split at hk
   ·rename_i e0;cases hk;exact .inl ⟨e0,rfl⟩
   ·split at hk
    ·rename_i e0;cases hk;exact .inr ⟨e0,rfl⟩
    ·cases hk
  obtain⟨x,args⟩:=r
  rcases hx with ⟨rfl,rfl⟩|⟨rfl,rfl⟩
  ·obtain⟨y,hy,e1⟩:=aQ h;cases e1;simp only[ev,qx]at hd;obtain⟨as,has,rfl⟩:=hd;have ke:ev G y ρ=some (.tup as):=by
    unfold bG at has;split at has
    ·cases has;assumption
    ·cases has
   obtain⟨as',e1,hl,pa,hs⟩:=hA X _ S ρ args y xc hy _ ke;cases e1;exact⟨fun tg _=>QE (xc.glob hg) (iE xc (by decide +kernel) hf hc) pa hs hi hl,fun _=>rfl⟩
  ·obtain⟨a,ha,h⟩:=aG h;obtain rfl:=bO ha;obtain⟨y,hy,e1⟩:=aQ h;cases e1;have st:=(dW hy).star X.env []
   exact⟨fun tg _=>QF (xc.glob hg) (iE xc (by decide +kernel) hf hc) (rS (hE X _ S ρ a ir xc hy d hd).1 AF st) st hi,fun _=>rfl⟩
end
section
variable {CX:au}{X:Cx}{c:CC}{G:GS}{T:Tx}{lv:Nat}{ρ:List Sl}{S:Addr→Prop}{pos p:Pos}{ea:Expr}
noncomputable def RY:Bool→CmpOp
 |false=>.In
 |true=>.NotIn
theorem IC(h:XC CX X c G T lv){x y:Str}{kvs:List (Str×D)}(e:aW c x=true)(hk:G.dk x=some kvs)(ha:PE X ea (tD X.K T S ρ (.str y)))(neg:Bool):PC X (RY neg) ea (.Name x p) (tD X.K T S ρ (.bl (neg != (kvs.lookup y).isSome))):=by
 obtain⟨a,hm,hs,o,vs,hl,hd,hks,_⟩:=h.go.dk x kvs hk;intro pins s σ H Q I ⟨re,q⟩;refine af (ha pins s σ H (fun v H'=>aI H H'∧Rep X.K T H' S (.str y) v) I ⟨re,fun v H' sm r=>⟨sm,r⟩⟩) fun iv s1 ⟨v,H1,I1,ry,sm,r⟩=>?_
 refine dZ I1 (h.glob e) hm ?_ (h.gne e);unfold Rep at r;subst r;obtain⟨t,rfl⟩:=ry;have dd:s1.heap.DictOf (bQ X.prog X.w) a vs:=Heap.dictOf_iff.mpr ⟨o,I1.kIn a o hl,hd⟩
 have fin:∀b,b=(neg != (kvs.lookup y).isSome)→EP X pins σ Q (.bool b) { s1 with toks:=s1.toks+1 }:=fun b hb=>⟨.bl b,H1,I1.tok _,rfl,q _ H1 sm (by rw[hb];unfold Rep;rfl)⟩
 cases neg with
 |false=>exact wpAny_in_of (knd:=bQ X.prog X.w) (eU X.prog X.w y t) hs dd.mapOf (fin _ (by rw[hks];simp))
 |true=>exact wpAny_notIn_of (knd:=bQ X.prog X.w) (eU X.prog X.w y t) hs dd.mapOf (fin _ (by rw[hks];simp))
theorem aEv(h:XC CX X c G T lv){x y:Str}{kvs:List (Str×D)}(e:aW c x=true)(hk:G.dk x=some kvs)(ha:PE X ea (tD X.K T S ρ (.str y)))(neg:Bool):PE X (.Compare ea [RY neg] [.Name x p] pos) (tD X.K T S ρ (.bl (neg != (kvs.lookup y).isSome))):=YQ (IC h e hk ha neg) (by cases neg<;>rfl)
theorem ZN(h:XC CX X c G T lv){x y:Str}{kvs:List (Str×D)}(e:aW c x=true)(hk:G.dk x=some kvs)(ha:PE X ea (tD X.K T S ρ (.str y)))(neg:Bool):PT X (.Compare ea [RY neg] [.Name x p] pos) (gc X.K T S ρ (neg != (kvs.lookup y).isSome)):=
 PT.mono (YD (IC h e hk ha neg) (by cases neg<;>rfl)) fun σ H Q ⟨re,q⟩=>⟨re,fun v H' sm r=>by
  unfold Rep at r;exact⟨_,r,q H' sm⟩⟩
end
end Z
namespace Z
open PySem PySem.W PyProof.Rows
structure Ord (n:Nat) (lt:Nat→Nat→Bool):Prop where
 tot:∀a b,a<n→b<n→a≠b→lt a b=false→lt b a=true
 asy:∀a b,a<n→b<n→lt a b=true→lt b a=false
 tra:∀a b c,a<n→b<n→c<n→lt a b=true→lt b c=true→lt a c=true
noncomputable def fp(p:Array Nat)(i:Nat):Nat:=p.getD i 0
theorem iT{p q:Array Nat}{i j:Nat}(h:p[i]?=q[j]?):fp p i=fp q j:=by
 unfold fp;rw[getD_eq_getD_getElem?,getD_eq_getD_getElem?,h]
structure Prm (n:Nat) (p:Array Nat):Prop where
 pm:p.toList.Perm (List.range n)
theorem Prm.size{n:Nat}{p:Array Nat}(h:Prm n p):p.size=n:=by
 have:=h.pm.length_eq
 simpa using this
theorem Prm.lt{n:Nat}{p:Array Nat}(h:Prm n p){i:Nat}(hi:i<n):fp p i<n:=by
 have hs:=h.size
 have:p[i]∈p.toList:=by simp
 have:=h.pm.mem_iff.mp this
 unfold fp;rw[getD_eq_getD_getElem?,Array.getElem?_eq_getElem (by lia)]
 simpa using this
theorem Prm.ne{n:Nat}{p:Array Nat}(h:Prm n p){i j:Nat}(hi:i<n)(hj:j<n)(e:i≠j):fp p i≠fp p j:=by
 have hs:=h.size
 have nd:p.toList.Nodup:=h.pm.nodup_iff.mpr List.nodup_range
 unfold fp;rw[getD_eq_getD_getElem?,Array.getElem?_eq_getElem (by lia),getD_eq_getD_getElem?,Array.getElem?_eq_getElem (by lia)]
 simp only[getD_some];intro z;have l1:i<p.toList.length:=by simp;lia
 have l2:j<p.toList.length:=by simp;lia
 exact e ((List.getElem_inj (h₀:=l1) (h₁:=l2) nd).mp (by simpa using z))
theorem Prm.perm{n:Nat}{p q:Array Nat}(h:Prm n p)(k:q.Perm p):Prm n q:=⟨(Array.perm_iff_toList_perm.mp k).trans h.pm⟩
section
variable {n:Nat}{lt:Nat→Nat→Bool}{p:Array Nat}
def nc(lt:Nat→Nat→Bool)(p:Array Nat)(k:Nat):Prop:=∀i j,i<j→j<k→lt (fp p i) (fp p j)=true
theorem lQ{k d:Nat}(hk:k<p.size)(hd:d≤k)(i:Nat):fp (bubble p k d) i=if i=k-d then fp p k else if k-d<i∧i≤k then fp p (i-1) else fp p i:=by
 have e:=getElem?_bubble hk d hd i
 by_cases h1:i=k-d
 ·rw[if_pos h1]at e ⊢;exact iT e
 ·rw[if_neg h1]at e ⊢
  by_cases h2:k-d<i∧i≤k
  ·rw[if_pos h2]at e ⊢;exact iT e
  ·rw[if_neg h2]at e ⊢;exact iT e
end
noncomputable def fZ:Bool→Keyed→Array Keyed→Nat→Nat→Nat→StateT SortSt Sem (Option Nat):=sortPriv% PySem.Builtin.gallop
noncomputable def vN:Array Keyed→Array Keyed→StateT SortSt Sem (Array Keyed):=sortPriv% PySem.Builtin.mergeLo
noncomputable def vO:Array Keyed→Array Keyed→StateT SortSt Sem (Array Keyed):=sortPriv% PySem.Builtin.mergeHi
section
variable {prog:vc}{w:World}{A:Around}{E:vd}{κ:SortKind}{it:Array Keyed}{n:Nat}{lt:Nat→Nat→Bool}{s:Shared}{α β:Type}
def SK(prog:vc)(w:World)(A:Around)(E:vd)(s:Shared){α:Type}(m:StateT SortSt Sem α)(Q:α→SortSt→Prop)(st:SortSt):Prop:=kasC (model prog w) A E m (fun a ae s'=>s'=s∧Q a ae) st s
theorem aC{m:StateT SortSt Sem α}{f:α→StateT SortSt Sem β}{Q:β→SortSt→Prop}{st:SortSt}(h:SK prog w A E s m (fun a ae=>SK prog w A E s (f a) Q ae) st):SK prog w A E s (m >>= f) Q st:=by
 refine kasC_bind (ub h (fun r s' hr=>?_) fun _ _ e=>e)
 obtain⟨rfl,h⟩:=hr;exact h
theorem bP{m:StateT SortSt Sem α}{Q Q':α→SortSt→Prop}{st:SortSt}(h:SK prog w A E s m Q st)(hq:∀a ae,Q a ae→Q' a ae):SK prog w A E s m Q' st:=ub h (fun r s' hr=>⟨hr.1,hq _ _ hr.2⟩) fun _ _ e=>e
theorem aF{a:α}{Q:α→SortSt→Prop}{st:SortSt}(h:Q a st):SK prog w A E s (pure a) Q st:=kasC_pure ⟨rfl,h⟩
theorem dC{c:Prop}[Decidable c]{a b:StateT SortSt Sem α}{Q:α→SortSt→Prop}{st:SortSt}(hc:c)(h:SK prog w A E s a Q st):SK prog w A E s (if c then a else b) Q st:=by rw[if_pos hc];exact h
theorem dD{c:Prop}[Decidable c]{a b:StateT SortSt Sem α}{Q:α→SortSt→Prop}{st:SortSt}(hc:¬c)(h:SK prog w A E s b Q st):SK prog w A E s (if c then a else b) Q st:=by rw[if_neg hc];exact h
theorem eF{Q:SortSt→SortSt→Prop}{st:SortSt}(h:Q st st):SK prog w A E s get Q st:=kasC_get ⟨rfl,h⟩
theorem bM{f:SortSt→SortSt}{Q:PUnit→SortSt→Prop}{st:SortSt}(h:Q ⟨⟩ (f st)):SK prog w A E s (modify f) Q st:=kasC_modify ⟨rfl,h⟩
theorem XF{x:SortSt}{Q:PUnit→SortSt→Prop}{st:SortSt}(h:Q ⟨⟩ x):SK prog w A E s (set x) Q st:=by
 show SK prog w A E s (modify fun _=>x) Q st
 exact bM h
theorem gY{x:String}{Q:PUnit→SortSt→Prop}{st:SortSt}(h:Q ⟨⟩ st):SK prog w A E s (liftM (rule x):StateT SortSt Sem PUnit) Q st:=kasC_lift (wpAny_rule ⟨rfl,h⟩)
theorem bD{arr:Array Keyed}{i:Nat}{x:Keyed}{Q:Keyed→SortSt→Prop}{st:SortSt}(e:arr[i]?=some x)(h:Q x st):SK prog w A E s (elem' arr i) Q st:=by
 rw[elem'_eq,e];exact aF h
def fk(prog:vc)(w:World)(A:Around)(κ:SortKind)(it:Array Keyed)(n:Nat)(lt:Nat→Nat→Bool)(s:Shared):Prop:=∀i j (C:Bool→Shared→Prop),i<n→j<n→C (lt i j) s→kas_cmp prog w A κ it i j C s
theorem uS(hc:fk prog w A κ it n lt s){i j:Nat}{Q:Option Bool→SortSt→Prop}{st:SortSt}(hk:kindOf st=κ)(hi:i<n)(hj:j<n)(h:Q (some (lt i j)) st):SK prog w A E s (lt' (kas_item it i) (kas_item it j)) Q st:=by
 unfold SK;rw[lt'_eq];refine kasC_bind (kasC_get ?_);rw[hk];exact kasC_bind (kasC_lift (wpAny_attempt (ub (hc i j (fun c s'=>s'=s∧c=lt i j) hi hj ⟨rfl,rfl⟩) (fun c s' hc=>by obtain⟨rfl,rfl⟩:=hc;exact kasC_pure ⟨rfl,h⟩) fun _ _ hF=>hF.elim)))
abbrev pP(Q I:β→SortSt→Prop)(r:ForInStep β)(st:SortSt):Prop:=match r with
 |.done b=>Q b st
 |.yield b=>I b st
theorem zO{f:Nat→β→StateT SortSt Sem (ForInStep β)}{Q:β→SortSt→Prop}(I:Nat→β→SortSt→Prop)(hf:∀x i b st,I i b st→SK prog w A E s (f x b) (pP Q (I (i+1))) st) :
  ∀(m a i:Nat) (b:β) (st:SortSt),I i b st→(∀b st,I (i+m) b st→Q b st)→SK prog w A E s (forIn (range' a m) b f) Q st
 | 0,a,i,b,st,hI,hQ=>by
  show SK prog w A E s (forIn [] b f) Q st
  exact kasC_nil ⟨rfl,hQ b st hI⟩
 |m+1,a,i,b,st,hI,hQ=>by
  show SK prog w A E s (forIn (a::range' (a+1) m) b f) Q st
  refine kasC_cons (ub (hf a i b st hI) (fun r s' hr=>?_) fun _ _ e=>e)
  obtain⟨r,ae⟩:=r;obtain⟨e,h⟩:=hr;rw[e];cases r with
  |done b'=>exact⟨rfl,h⟩
  |yield b'=>exact zO I hf m (a+1) (i+1) b' ae h fun b st z=>hQ b st (by rwa [Nat.add_assoc,add_comm 1 m]at z)
theorem hG{a m:Nat}{f:Nat→β→StateT SortSt Sem (ForInStep β)}{Q:β→SortSt→Prop}{b:β}{st:SortSt}(I:Nat→β→SortSt→Prop)(h0:I 0 b st)(hf:∀x i b st,I i b st→SK prog w A E s (f x b) (pP Q (I (i+1))) st)(hQ:∀b st,I (m-a) b st→Q b st):SK prog w A E s (forIn [a:m] b f) Q st:=
 kasC_range (zO I hf (m-a) a 0 b st h0 fun b st h=>hQ b st (by rwa [sj]at h))
theorem fJ(hc:fk prog w A κ it n lt s){left:Bool}{key base k hint m:Nat}{q:Nat→Nat}{arr:Array Keyed}{st:SortSt}{Q:Option Nat→SortSt→Prop}(hk:kindOf st=κ)(hkey:key<n)(hq:∀i,i<k→q i<n)(ha:∀i,i<k→arr[base+i]?=some (kas_item it (q i)))
  (hb:∀i,i<k→(if left then lt (q i) key else !lt key (q i))=decide (i<m)) (hm:m≤k) (hh:hint<k) (h:Q (some m) st):SK prog w A E s (fZ left (kas_item it key) arr base k hint) Q st:=by
 have bey:∀(i:Nat) (R:Option Bool→SortSt→Prop),i<k→R (some (decide (i<m))) st→SK prog w A E s (do let x ←elem' arr (base+i);if left then lt' x (kas_item it key) else return (←lt' (kas_item it key) x).map (!·)) R st:=fun i R hi hR=>by
  refine aC (bD (ha i hi) ?_);have e:=hb i hi
  cases left with
  |true =>
   rw[if_pos rfl]at e ⊢;exact uS hc hk (hq i hi) hkey (by rw[e];exact hR)
  |false =>
   rw[if_neg (by decide)]at e ⊢
   exact aC (uS hc hk hkey (hq i hi) (aF (by show R (some (!lt key (q i))) st;rw[e];exact hR)))
 unfold fZ;refine aC (bey hint _ hh ?_);dsimp only;have fin:∀(lo hi:Nat),lo≤m→m≤hi→hi≤k→SK prog w A E s (forIn [:k] ((none,lo,hi):Option (Option Nat)×Nat×Nat) fun x bj =>
   if bj.snd.fst ≥ bj.snd.snd then pure (ForInStep.done (none,bj.snd.fst,bj.snd.snd))
   else do
    let p6 ←(do let x ←elem' arr (base+(bj.snd.fst+(bj.snd.snd-bj.snd.fst) / 2));if left then lt' x (kas_item it key) else return (←lt' (kas_item it key) x).map (!·))
    match p6 with
     |some more=>if more=true then pure (ForInStep.yield (none,bj.snd.fst+(bj.snd.snd-bj.snd.fst) / 2+1,bj.snd.snd)) else pure (ForInStep.yield (none,bj.snd.fst,bj.snd.fst+(bj.snd.snd-bj.snd.fst) / 2))
     |x=>pure (ForInStep.done (some none,bj.snd.fst,bj.snd.snd))) (fun b ae=>b=(none,m,m)∧ae=st) st:=fun lo hi h1 h2 h3=>by
  refine hG (fun i b ae=>ae=st∧∃lo hi,b=(none,lo,hi)∧lo≤m∧m≤hi∧hi≤k∧hi-lo≤k-i) ⟨rfl,lo,hi,rfl,h1,h2,h3,by lia⟩ ?_ ?_
  ·rintro x i b ae ⟨rfl,lo,hi,rfl,h1,h2,h3,h4⟩;dsimp only
   by_cases hl:lo ≥ hi
   ·rw[if_pos hl];refine aF ⟨?_,rfl⟩;rw[show lo=m by lia,show hi=m by lia]
   ·rw[if_neg hl];refine aC (bey _ _ (by lia) ?_)
    dsimp only
    by_cases hx:lo+(hi-lo) / 2<m
    ·rw[if_pos (by simpa using hx)]
     exact aF ⟨rfl,_,_,rfl,by lia,h2,h3,by lia⟩
    ·rw[if_neg (by simpa using hx)]
     exact aF ⟨rfl,_,_,rfl,h1,by lia,by lia,by lia⟩
  ·rintro b ae ⟨rfl,lo,hi,rfl,h1,h2,h3,h4⟩;refine⟨?_,rfl⟩;rw[show lo=m by lia,show hi=m by lia]
 by_cases hx:hint<m
 ·rw[if_pos (by simpa using hx)]
  refine aC (bP (hG (Q:=fun b ae=>ae=st∧∃l o,b=((none,l,o):Option (Option Nat)×Nat×Nat)∧l<o∧hint+l<m∧m≤hint+min o (k-hint)) (fun i b ae=>ae=st∧∃l o,b=(none,l,o)∧l<o∧hint+l<m∧i+1≤o) ⟨rfl,0,1,rfl,by lia,by lia,by lia⟩ ?_ ?_) fun b ae hb=>?_)
  ·rintro x i b ae ⟨rfl,l,o,rfl,h1,h2,h3⟩;dsimp only
   by_cases ho:o ≥ k-hint
   ·rw[if_pos ho];exact aF ⟨rfl,l,o,rfl,h1,h2,by lia⟩
   ·rw[if_neg ho];refine aC (bey _ _ (by lia) ?_)
    dsimp only
    by_cases hy:hint+o<m
    ·rw[if_neg (by simpa using hy)]
     exact aF ⟨rfl,_,_,rfl,by lia,hy,by lia⟩
    ·rw[if_pos (by simpa using hy)]
     exact aF ⟨rfl,l,o,rfl,h1,h2,by lia⟩
  ·rintro b ae ⟨rfl,l,o,rfl,h1,h2,h3⟩;exact⟨rfl,l,o,rfl,h1,h2,by lia⟩
  ·obtain⟨rfl,l,o,rfl,h1,h2,h3⟩:=hb;dsimp only;refine aC (bP (fin (hint+l+1) (hint+min o (k-hint)) (by lia) h3 (by lia)) fun b ae hb=>?_)
   obtain⟨rfl,rfl⟩:=hb;exact aF h
 ·rw[if_neg (by simpa using hx)]
  refine aC (bP (hG (Q:=fun b ae=>ae=st∧∃l o,b=((none,l,o):Option (Option Nat)×Nat×Nat)∧l<o∧m≤hint-l∧l≤hint∧hint+1-min o (hint+1)≤m) (fun i b ae=>ae=st∧∃l o,b=(none,l,o)∧l<o∧m≤hint-l∧l≤hint∧i+1≤o) ⟨rfl,0,1,rfl,by lia,by lia,by lia,by lia⟩ ?_ ?_) fun b ae hb=>?_)
  ·rintro x i b ae ⟨rfl,l,o,rfl,h1,h2,gk,h3⟩;dsimp only
   by_cases ho:o ≥ hint+1
   ·rw[if_pos ho];exact aF ⟨rfl,l,o,rfl,h1,h2,gk,by lia⟩
   ·rw[if_neg ho];refine aC (bey _ _ (by lia) ?_)
    dsimp only
    by_cases hy:hint-o<m
    ·rw[if_pos (by simpa using hy)]
     exact aF ⟨rfl,l,o,rfl,h1,h2,gk,by lia⟩
    ·rw[if_neg (by simpa using hy)]
     exact aF ⟨rfl,_,_,rfl,by lia,by lia,by lia,by lia⟩
  ·rintro b ae ⟨rfl,l,o,rfl,h1,h2,gk,h3⟩;exact⟨rfl,l,o,rfl,h1,h2,gk,by lia⟩
  ·obtain⟨rfl,l,o,rfl,h1,h2,gk,h3⟩:=hb;dsimp only;refine aC (bP (fin (hint+1-min o (hint+1)) (hint-l) h3 h2 (by lia)) fun b ae hb=>?_)
   obtain⟨rfl,rfl⟩:=hb;exact aF h
end
section
variable {lt:Nat→Nat→Bool}{it:Array Keyed}{xs ys:List Nat}
abbrev So(lt:Nat→Nat→Bool)(zs:List Nat):Prop:=zs.Pairwise fun i j=>lt i j=true
noncomputable def aK(it:Array Keyed)(zs:List Nat):Array Keyed:=(zs.map (kas_item it)).toArray
theorem aH{zs:List Nat}:(aK it zs).size=zs.length:=by unfold aK;simp
theorem bH{zs:List Nat}{i x:Nat}(h:zs[i]?=some x):(aK it zs)[i]?=some (kas_item it x):=by
 unfold aK;rw[List.getElem?_toArray,qk,h];rfl
theorem lU{zs:List Nat}{x:Nat}:(aK it zs).push (kas_item it x)=aK it (zs++[x]):=by unfold aK;simp
theorem cO{zs us:List Nat}:aK it zs++aK it us=aK it (zs++us):=by unfold aK;simp
theorem dH{zs:List Nat}{i j:Nat}:(aK it zs).extract i j=aK it ((zs.drop i).take (j-i)):=by
 unfold aK;rw[List.extract_toArray,List.extract_eq_take_drop,←List.map_drop,←List.map_take]
structure MG (lt:Nat→Nat→Bool) (n:Nat) (xs ys:List Nat):Prop where
 o:Ord n lt
 xn:∀x∈xs,x<n
 yn:∀y∈ys,y<n
 sx:So lt xs
 sy:So lt ys
 ne:∀x∈xs,∀y∈ys,x≠y
def MI(lt:Nat→Nat→Bool)(it:Array Keyed)(xs ys:List Nat)(out:Array Keyed)(ia ib:Nat):Prop:=
 ∃zs,out=aK it zs∧zs.Perm (xs.take ia++ys.take ib)∧So lt zs∧∀z∈zs,∀x,x∈xs.drop ia∨x∈ys.drop ib→lt z x=true
def Res(lt:Nat→Nat→Bool)(it:Array Keyed)(xs ys:List Nat)(r:Array Keyed):Prop:=∃zs,r=aK it zs∧zs.Perm (xs++ys)∧So lt zs
variable {n:Nat}
theorem cM{l:List Nat}{i x:Nat}(h:l[i]?=some x):l.drop i=x::l.drop (i+1):=by
 obtain⟨hi,e⟩:=q8.mp h;rw[List.drop_eq_getElem_cons hi,e]
theorem eP{l:List Nat}{i x:Nat}(h:l[i]?=some x):l.take (i+1)=l.take i++[x]:=by rw[um,h];rfl
theorem jB{l:List Nat}(h:So lt l){i x:Nat}(hx:l[i]?=some x):∀y∈l.drop (i+1),lt x y=true:=by
 have:=List.Pairwise.drop (i:=i) h
 rw[cM hx]at this;exact(v7.mp this).1
theorem eW{l m:List Nat}(h1:So lt l)(h2:So lt m)(h:∀a∈l,∀b∈m,lt a b=true):So lt (l++m):=v8.mpr ⟨h1,h2,h⟩
theorem MI.pushB(g:MG lt n xs ys){out:Array Keyed}{ia ib x y:Nat}(h:MI lt it xs ys out ia ib)(hx:xs[ia]?=some x)(hy:ys[ib]?=some y)(hl:lt y x=true):MI lt it xs ys (out.push (kas_item it y)) ia (ib+1):=by
 obtain⟨zs,rfl,hp,hs,hz⟩:=h;have hyd:y∈ys.drop ib:=by rw[cM hy];exact ug
 refine⟨zs++[y],lU,?_,eW hs (pairwise_singleton _ _) fun a ha b hb=>?_,fun z dq v hv=>?_⟩
 ·rw[eP hy,←qy];exact hp.append_right [y]
 ·rw[sf.mp hb];exact hz a ha y (.inr hyd)
 ·rcases v9.mp dq with q|q
  ·exact hz z q v (hv.imp id fun w=>by rw[cM hy];exact qt _ w)
  ·rw[sf.mp q]
   rcases hv with hv|hv
   ·rw[cM hx]at hv
    rcases sg.mp hv with e|hv
    ·rw[e];exact hl
    ·have xm:=qh hx
     exact g.o.tra _ _ _ (g.yn y (qh hy)) (g.xn x xm) (g.xn v (mem_of_mem_drop hv)) hl (jB g.sx hx v hv)
   ·exact jB g.sy hy v hv
theorem MI.pushA(g:MG lt n xs ys){out:Array Keyed}{ia ib x y:Nat}(h:MI lt it xs ys out ia ib)(hx:xs[ia]?=some x)(hy:ys[ib]?=some y)(hl:lt x y=true):MI lt it xs ys (out.push (kas_item it x)) (ia+1) ib:=by
 obtain⟨zs,rfl,hp,hs,hz⟩:=h;have hxd:x∈xs.drop ia:=by rw[cM hx];exact ug
 refine⟨zs++[x],lU,?_,eW hs (pairwise_singleton _ _) fun a ha b hb=>?_,fun z dq v hv=>?_⟩
 ·rw[eP hx];refine(hp.append_right [x]).trans ?_;rw[qy,qy];exact List.Perm.append_left _ perm_append_comm
 ·rw[sf.mp hb];exact hz a ha x (.inl hxd)
 ·rcases v9.mp dq with q|q
  ·exact hz z q v (hv.imp (fun w=>by rw[cM hx];exact qt _ w) id)
  ·rw[sf.mp q]
   rcases hv with hv|hv
   ·exact jB g.sx hx v hv
   ·rw[cM hy]at hv
    rcases sg.mp hv with e|hv
    ·rw[e];exact hl
    ·exact g.o.tra _ _ _ (g.xn x (qh hx)) (g.yn y (qh hy)) (g.yn v (mem_of_mem_drop hv)) hl (jB g.sy hy v hv)
theorem kR{zs:List Nat}{i k x:Nat}(h:zs[i+k]?=some x):(aK it zs).extract i (i+(k+1))=((aK it zs).extract i (i+k)).push (kas_item it x):=by
 rw[dH,dH,show i+(k+1)-i=k+1 by lia,show i+k-i=k by lia,um,getElem?_drop,h,lU]
 rfl
theorem MI.moveA(g:MG lt n xs ys){ia ib y:Nat}(hy:ys[ib]?=some y):∀(k:Nat) {out:Array Keyed},MI lt it xs ys out ia ib→(∀i,i<k→∃x,xs[ia+i]?=some x∧lt x y=true)→MI lt it xs ys (out++(aK it xs).extract ia (ia+k)) (ia+k) ib
 | 0,out,h,_=>by
  rw[dH,show ia+0-ia=0 by lia,take_zero,show aK it []=#[] from rfl,append_empty]
  exact h
 |k+1,out,h,hl=>by
  obtain⟨x,hx,eu⟩:=hl k (uh k);rw[kR hx,Array.append_push];exact(MI.moveA g hy k h fun i hi=>hl i (by lia)).pushA g hx hy eu
theorem MI.moveB(g:MG lt n xs ys){ia ib x:Nat}(hx:xs[ia]?=some x):∀(k:Nat) {out:Array Keyed},MI lt it xs ys out ia ib→(∀i,i<k→∃y,ys[ib+i]?=some y∧lt y x=true)→MI lt it xs ys (out++(aK it ys).extract ib (ib+k)) ia (ib+k)
 | 0,out,h,_=>by
  rw[dH,show ib+0-ib=0 by lia,take_zero,show aK it []=#[] from rfl,append_empty]
  exact h
 |k+1,out,h,hl=>by
  obtain⟨y,hy,eu⟩:=hl k (uh k);rw[kR hy,Array.append_push];exact(MI.moveB g hx k h fun i hi=>hl i (by lia)).pushB g hx hy eu
theorem jM{zs:List Nat}{i:Nat}:(aK it zs).extract i (aK it zs).size=aK it (zs.drop i):=by
 rw[dH,aH,List.take_of_length_le (by rw[v3];lia)]
theorem MI.doneB(g:MG lt n xs ys){out:Array Keyed}{ia ib:Nat}(h:MI lt it xs ys out ia ib)(hb:ib=ys.length):Res lt it xs ys (out++(aK it xs).extract ia (aK it xs).size++(aK it ys).extract ib (aK it ys).size):=by
 obtain⟨zs,rfl,hp,hs,hz⟩:=h;subst hb;refine⟨zs++xs.drop ia,by rw[jM,jM,uz,cO,cO,sq],?_,eW hs (List.Pairwise.drop g.sx) fun a ha b hb=>hz a ha b (.inl hb)⟩
 rw[uy]at hp;refine(hp.append_right _).trans ?_;rw[qy];refine(List.Perm.append_left _ perm_append_comm).trans ?_;rw[←qy,take_append_drop]
theorem MI.doneA(g:MG lt n xs ys){out:Array Keyed}{ia ib:Nat}(h:MI lt it xs ys out ia ib)(ha:ia=xs.length):Res lt it xs ys (out++(aK it xs).extract ia (aK it xs).size++(aK it ys).extract ib (aK it ys).size):=by
 obtain⟨zs,rfl,hp,hs,hz⟩:=h;subst ha;refine⟨zs++ys.drop ib,by rw[jM,jM,uz,cO,cO,sq],?_,eW hs (List.Pairwise.drop g.sy) fun a ha b hb=>hz a ha b (.inr hb)⟩
 rw[uy]at hp;refine(hp.append_right _).trans ?_;rw[qy,take_append_drop]
theorem MI.last(g:MG lt n xs ys){out:Array Keyed}{ia ib x:Nat}(h:MI lt it xs ys out ia ib)(ha:ia+1=xs.length)(hx:xs[ia]?=some x)(hl:∀y∈ys,lt y x=true):Res lt it xs ys (out++(aK it ys).extract ib (aK it ys).size++(aK it xs).extract ia (aK it xs).size):=by
 obtain⟨zs,rfl,hp,hs,hz⟩:=h;have e:xs.drop ia=[x]:=by rw[cM hx,ha,uz]
 refine⟨zs++ys.drop ib++[x],by rw[jM,jM,e,cO,cO],?_,eW (eW hs (List.Pairwise.drop g.sy) fun a ha b hb=>hz a ha b (.inr hb)) (pairwise_singleton _ _) fun a ha b hb=>?_⟩
 ·rw[←e];refine((hp.append_right _).append_right _).trans ?_;rw[qy (xs.take ia),take_append_drop,qy];refine(List.Perm.append_left _ perm_append_comm).trans ?_;rw[←qy,take_append_drop]
 ·rw[sf.mp hb]
  rcases v9.mp ha with q|q
  ·exact hz a q x (.inl (by rw[e];exact sf.mpr rfl))
  ·exact hl a (mem_of_mem_drop q)
theorem bound:∀(k:Nat) (f:Nat→Bool),(∀i j,i<j→j<k→f j=true→f i=true)→∃m,m≤k∧∀i,i<k→f i=decide (i<m)
 | 0,f,_=>⟨0,qm _,fun i hi=>absurd hi (Nat.not_lt_zero _)⟩
 |k+1,f,h=>by
  obtain⟨m,hm,e⟩:=bound k f fun i j a b=>h i j a (by lia)
  cases hf:f k with
  |false =>
   refine⟨m,by lia,fun i hi=>?_⟩
   by_cases q:i=k
   ·rw[q,hf];exact(qp (by lia)).symm
   ·exact e i (by lia)
  |true =>
   refine⟨k+1,qm _,fun i hi=>?_⟩
   rw[sv hi]
   by_cases q:i=k
   ·rw[q];exact hf
   ·exact h i k (by lia) (by lia) hf
end
section
variable {prog:vc}{w:World}{A:Around}{E:vd}{κ:SortKind}{it:Array Keyed}{n:Nat}{lt:Nat→Nat→Bool}{s:Shared}{xs ys:List Nat}
def SS(st ae:SortSt):Prop:=kindOf ae=kindOf st∧arrOf ae=arrOf st∧pendingOf ae=pendingOf st∧failedOf ae=failedOf st
theorem SS.refl{st:SortSt}:SS st st:=⟨rfl,rfl,rfl,rfl⟩
theorem getD_at{l:List Nat}{i:Nat}(h:i<l.length):l[i]?=some (l.getD i 0):=by
 rw[qj h,q9,qj h];rfl
theorem GQ{l:List Nat}(h:So lt l){i j x y:Nat}(hx:l[i]?=some x)(hy:l[j]?=some y)(dc:i<j):lt x y=true:=
 jB h hx y (qh (i:=j-(i+1)) (by rw[getElem?_drop];rw[show i+1+(j-(i+1))=j by lia];exact hy))
theorem aEV(g:MG lt n xs ys){ia ib y:Nat}(hy:ys[ib]?=some y):∃m,m≤xs.length-ia∧(∀i,i<xs.length-ia→(!lt y (xs.getD (ia+i) 0))=decide (i<m))∧(∀i,i<m→∃x,xs[ia+i]?=some x∧lt x y=true)∧∀x,xs[ia+m]?=some x→lt y x=true:=by
 have ym:=qh hy
 obtain⟨m,hm,e⟩:=bound (xs.length-ia) (fun i=>!lt y (xs.getD (ia+i) 0)) fun i j dc hj h=>by
  have h1:=getD_at (l:=xs) (i:=ia+i) (by lia)
  have h2:=getD_at (l:=xs) (i:=ia+j) (by lia)
  have h3:lt y (xs.getD (ia+j) 0)=false:=by simpa using h
  show (!lt y (xs.getD (ia+i) 0))=true
  cases q:lt y (xs.getD (ia+i) 0) with
  |false=>rfl
  |true =>
   have:=g.o.tra _ _ _ (g.yn y ym) (g.xn _ (qh h1)) (g.xn _ (qh h2)) q (GQ g.sx h1 h2 (by lia))
   rw[h3]at this;cases this
 refine⟨m,hm,e,fun i hi=>?_,fun x hx=>?_⟩
 ·have h1:=getD_at (l:=xs) (i:=ia+i) (by lia)
  refine⟨_,h1,?_⟩;have:=e i (by lia)
  rw[sv hi]at this;have xm:=qh h1
  exact g.o.tot _ _ (g.yn y ym) (g.xn _ xm) (fun z=>g.ne _ xm y ym z.symm) (by simpa using this)
 ·have hl:=(q8.mp hx).1
  have:=e m (by lia)
  rw[qp (u0 m),getD_at (l:=xs) (i:=ia+m) hl |>.symm.trans hx |> qw]at this
  simpa using this
theorem aET(g:MG lt n xs ys){ia ib x:Nat}(hx:xs[ia]?=some x):∃m,m≤ys.length-ib∧(∀i,i<ys.length-ib→lt (ys.getD (ib+i) 0) x=decide (i<m))∧(∀i,i<m→∃y,ys[ib+i]?=some y∧lt y x=true)∧∀y,ys[ib+m]?=some y→lt x y=true:=by
 have xm:=qh hx
 obtain⟨m,hm,e⟩:=bound (ys.length-ib) (fun i=>lt (ys.getD (ib+i) 0) x) fun i j dc hj h=>by
  have h1:=getD_at (l:=ys) (i:=ib+i) (by lia)
  have h2:=getD_at (l:=ys) (i:=ib+j) (by lia)
  exact g.o.tra _ _ _ (g.yn _ (qh h1)) (g.yn _ (qh h2)) (g.xn x xm) (GQ g.sy h1 h2 (by lia)) h
 refine⟨m,hm,e,fun i hi=>?_,fun y hy=>?_⟩
 ·exact⟨_,getD_at (l:=ys) (i:=ib+i) (by lia),by rw[e i (by lia)];exact sv hi⟩
 ·have hl:=(q8.mp hy).1
  have:=e m (by lia)
  rw[qp (u0 m),getD_at (l:=ys) (i:=ib+m) hl |>.symm.trans hy |> qw]at this
  have ym:=qh hy
  exact g.o.tot _ _ (g.yn y ym) (g.xn x xm) (fun z=>g.ne x xm y ym z.symm) this
theorem zP(hc:fk prog w A κ it n lt s)(g:MG lt n xs ys){ia ib y m:Nat}{st:SortSt}{Q:Option Nat→SortSt→Prop}(hk:kindOf st=κ)(hy:ys[ib]?=some y)(hi:ia<xs.length)(hm:m≤xs.length-ia)(e:∀i,i<xs.length-ia→(!lt y (xs.getD (ia+i) 0))=decide (i<m))(h:Q (some m) st) :
  SK prog w A E s (fZ false (kas_item it y) (aK it xs) ia ((aK it xs).size-ia) 0) Q st:=by
 rw[aH];exact fJ hc (q:=fun i=>xs.getD (ia+i) 0) hk (g.yn y (qh hy)) (fun i hi=>g.xn _ (qh (getD_at (by lia)))) (fun i hi=>bH (getD_at (by lia))) (fun i hi=>e i hi) hm (by lia) h
theorem OJ(hc:fk prog w A κ it n lt s)(g:MG lt n xs ys){ia ib x m:Nat}{st:SortSt}{Q:Option Nat→SortSt→Prop}(hk:kindOf st=κ)(hx:xs[ia]?=some x)(hi:ib<ys.length)(hm:m≤ys.length-ib)(e:∀i,i<ys.length-ib→lt (ys.getD (ib+i) 0) x=decide (i<m))(h:Q (some m) st) :
  SK prog w A E s (fZ true (kas_item it x) (aK it ys) ib ((aK it ys).size-ib) 0) Q st:=by
 rw[aH];exact fJ hc (q:=fun i=>ys.getD (ib+i) 0) hk (g.xn x (qh hx)) (fun i hi=>g.yn _ (qh (getD_at (by lia)))) (fun i hi=>bH (getD_at (by lia))) (fun i hi=>e i hi) hm (by lia) h
def LI(lt:Nat→Nat→Bool)(it:Array Keyed)(xs ys:List Nat)(st:SortSt)(da c9:Nat)(b:Option (Array Keyed)×Array Keyed×Nat×Nat×Nat×Nat×Nat)(ae:SortSt):Prop:=
 SS st ae∧∃av ba ar mg ac bc,b=(none,av,ba,ar,mg,ac,bc)∧MI lt it xs ys av ba ar∧ba+1<xs.length∧ar<ys.length∧da+c9≤ba+ar
def LQ(lt:Nat→Nat→Bool)(it:Array Keyed)(xs ys:List Nat)(st:SortSt)(da c9:Nat)(b:Option (Array Keyed)×Array Keyed×Nat×Nat×Nat×Nat×Nat)(ae:SortSt):Prop:=
 SS st ae∧((∃r rest,b=(some r,rest)∧Res lt it xs ys r)∨∃av ba ar mg ac bc,b=(none,av,ba,ar,mg,ac,bc)∧MI lt it xs ys av ba ar∧ba+1<xs.length∧ar<ys.length∧da+c9≤ba+ar)
theorem LI.mk{st ae:SortSt}{da c9 ia ib mg ac bc:Nat}{out:Array Keyed}(s:SS st ae)(m:MI lt it xs ys out ia ib)(ha:ia+1<xs.length)(hb:ib<ys.length)(hr:da+c9≤ia+ib):LI lt it xs ys st da c9 (none,out,ia,ib,mg,ac,bc) ae:=⟨s,_,_,_,_,_,_,rfl,m,ha,hb,hr⟩
theorem LI.q{st ae:SortSt}{da c9:Nat}{b:Option (Array Keyed)×Array Keyed×Nat×Nat×Nat×Nat×Nat}(h:LI lt it xs ys st da c9 b ae):LQ lt it xs ys st da c9 b ae:=⟨h.1,.inr h.2⟩
abbrev loT(it:Array Keyed)(xs ys:List Nat)(out:Array Keyed)(ia ib mg ac bc:Nat):StateT SortSt Sem (ForInStep (Option (Array Keyed)×Array Keyed×Nat×Nat×Nat×Nat×Nat)):=
 elem' (aK it xs) ia >>= fun v=>if (ia+1+1 == (aK it xs).size)=true then pure (ForInStep.done (some (out.push v++(aK it ys).extract ib (aK it ys).size++(aK it xs).extract (ia+1) (aK it xs).size),out.push v,ia+1,ib,mg,ac,bc))
  else if (decide (ac<7)&&decide (bc<7))=true then pure (ForInStep.done (none,out.push v,ia+1,ib,mg,ac,bc)) else pure (ForInStep.yield (none,out.push v,ia+1,ib,mg,ac,bc))
theorem yD(hc:fk prog w A κ it n lt s)(g:MG lt n xs ys){x0 y0 xl:Nat}(j4:xs[0]?=some x0)(j1:ys[0]?=some y0)(h1:lt y0 x0=true)(oh:xs[xs.length-1]?=some xl)(h2:∀y∈ys,lt y xl=true){st:SortSt}(hk:kindOf st=κ){Q:Array Keyed→SortSt→Prop}
  (h:∀r ae,Res lt it xs ys r→SS st ae→Q r ae):SK prog w A E s (vN (aK it xs) (aK it ys)) Q st:=by
 have lx:0<xs.length:=(q8.mp j4).1
 have ly:0<ys.length:=(q8.mp j1).1
 have m1:MI lt it xs ys #[kas_item it y0] 0 1:=MI.pushB g (out:=#[]) (ib:=0) ⟨[],rfl,.refl _,List.Pairwise.nil,fun z hz=>by cases hz⟩ j4 j1 h1
 have dn:∀{out:Array Keyed} {ia ib:Nat},MI lt it xs ys out ia ib→ia+1=xs.length→Res lt it xs ys (out++(aK it ys).extract ib (aK it ys).size++(aK it xs).extract ia (aK it xs).size):=fun {out ia ib} m e=>m.last g e (x:=xl) (by rw[show ia=xs.length-1 by lia];exact oh) h2
 unfold vN;refine aC (gY ?_);refine aC (bD (bH j1) ?_)
 by_cases c1:1=ys.length
 ·refine dC (by rw[aH];simpa using c1) ?_
  exact aF (h _ _ (m1.doneB g c1) SS.refl)
 refine dD (by rw[aH];simpa using c1) ?_
 by_cases c2:0+1=xs.length
 ·refine dC (by rw[aH];simpa using c2) ?_
  exact aF (h _ _ (dn m1 c2) SS.refl)
 refine dD (by rw[aH];simpa using c2) ?_
 refine aC (eF ?_);refine aC (bP (hG (Q:=fun b ae=>SS st ae∧∃r rest,b=(some r,rest)∧Res lt it xs ys r) (fun i b ae=>SS st ae∧∃out ia ib mg,b=(none,out,ia,ib,mg)∧MI lt it xs ys out ia ib∧ia+1<xs.length∧ib<ys.length∧i+1≤ia+ib) ⟨SS.refl,_,_,_,_,rfl,m1,by lia,by lia,by lia⟩ ?_ ?_) ?_)
 ·rintro _ i b gq ⟨s1,out,ia,ib,mg,rfl,m,ha,hb,hr⟩;refine aC (bP (hG (Q:=fun b ae=>SS st ae∧((∃r rest,b=(some r,rest)∧Res lt it xs ys r)∨∃av ba ar ac bc,b=(none,av,ba,ar,ac,bc)∧MI lt it xs ys av ba ar∧ba+1<xs.length∧ar<ys.length∧ia+ib+1≤ba+ar))
   (fun j b ae=>SS st ae∧∃av ba ar ac bc,b=(none,av,ba,ar,ac,bc)∧MI lt it xs ys av ba ar∧ba+1<xs.length∧ar<ys.length∧ia+ib+j≤ba+ar) ⟨s1,_,_,_,_,_,rfl,m,ha,hb,by(try dsimp only);lia⟩ ?_ ?_) ?_)
  ·rintro _ j b gp ⟨s2,out,ba,ar,ac,bc,rfl,m,cy,de,fb⟩;clear lx ly c1 c2 ha hb hr;have hx:=getD_at (l:=xs) (i:=ba) (by lia)
   have hy:=getD_at (l:=ys) (i:=ar) de
   generalize xs.getD ba 0=x at hx;generalize ys.getD ar 0=y at hy;have xm:=qh hx
   have ym:=qh hy
   refine aC (bD (bH hy) (aC (bD (bH hx) (aC (uS hc (s2.1.trans hk) (g.yn y ym) (g.xn x xm) ?_)))))
   by_cases hl:lt y x=true
   ·refine dC hl ?_;refine aC (bD (bH hy) ?_);have m':=m.pushB g hx hy hl
    by_cases e:ar+1=ys.length
    ·refine dC (by rw[aH];simpa using e) ?_
     exact aF ⟨s2,.inl ⟨_,_,rfl,m'.doneB g e⟩⟩
    ·refine dD (by rw[aH];simpa using e) ?_
     split
     ·exact aF ⟨s2,.inr ⟨_,_,_,_,_,rfl,m',cy,by(try dsimp only);lia,by(try dsimp only);lia⟩⟩
     ·exact aF ⟨s2,_,_,_,_,_,rfl,m',cy,by(try dsimp only);lia,by(try dsimp only);lia⟩
   ·refine dD hl ?_;have hl':lt x y=true:=g.o.tot _ _ (g.yn y ym) (g.xn x xm) (fun z=>g.ne x xm y ym z.symm) (by simpa using hl)
    refine aC (bD (bH hx) ?_);have m':=m.pushA g hx hy hl'
    by_cases e:ba+1+1=xs.length
    ·refine dC (by rw[aH];simpa using e) ?_
     exact aF ⟨s2,.inl ⟨_,_,rfl,dn m' e⟩⟩
    ·refine dD (by rw[aH];simpa using e) ?_
     split
     ·exact aF ⟨s2,.inr ⟨_,_,_,_,_,rfl,m',by(try dsimp only);lia,de,by(try dsimp only);lia⟩⟩
     ·exact aF ⟨s2,_,_,_,_,_,rfl,m',by(try dsimp only);lia,de,by(try dsimp only);lia⟩
  ·rintro b gp ⟨s2,out,ba,ar,ac,bc,rfl,m,cy,de,fb⟩;rw[aH,aH]at fb;exact⟨s2,.inr ⟨_,_,_,_,_,rfl,m,cy,de,by lia⟩⟩
  ·rintro b gp ⟨s2,⟨r,rest,rfl,hR⟩|⟨out,da,c9,ac,bc,rfl,m,o6,o5,hr1⟩⟩
   ·exact aF ⟨s2,_,_,rfl,hR⟩
   refine aC (gY ?_);refine aC (bP (hG (Q:=LQ lt it xs ys st da c9) (fun _=>LI lt it xs ys st da c9) ⟨s2,_,_,_,_,_,_,rfl,m,o6,o5,qm _⟩ ?_ ?_) ?_)
   ·rintro _ j b jf ⟨s3,out,ba,ar,ft,ac',iq,rfl,m,cy,de,fb⟩;clear lx ly c1 c2 ha hb hr o6 o5 hr1;have hy:=getD_at (l:=ys) (i:=ar) de
    generalize ys.getD ar 0=y at hy;obtain⟨k,k1,k2,k3,k4⟩:=aEV g (ia:=ba) hy;have mA:=m.moveA g hy k k3
    have pM:∀(ej:SortSt) (s4:SS st ej) (out:Array Keyed) (ia ib mg ac bc x y:Nat),MI lt it xs ys out ia ib→ia+1<xs.length→xs[ia]?=some x→ys[ib]?=some y→lt x y=true→da+c9≤ia+ib →
      SK prog w A E s (loT it xs ys out ia ib mg ac bc)
       (pP (LQ lt it xs ys st da c9) (LI lt it xs ys st da c9)) ej:=fun ej s4 out ia ib mg ac bc x y m hi hx hy hl hr=>by
     unfold loT;refine aC (bD (bH hx) ?_);have m2:=m.pushA g hx hy hl
     have hj:=(q8.mp hy).1
     by_cases e5:ia+1+1=xs.length
     ·exact dC (by rw[aH];simpa using e5) (aF ⟨s4,.inl ⟨_,_,rfl,dn m2 e5⟩⟩)
     refine dD (by rw[aH];simpa using e5) ?_
     have L:=LI.mk (mg:=mg) (ac:=ac) (bc:=bc) s4 m2 (by lia) hj (by lia:da+c9≤ia+1+ib)
     by_cases e6:(decide (ac<7)&&decide (bc<7))=true
     ·exact dC e6 (aF L.q)
     ·exact dD e6 (aF L)
    have bz:∀(ej:SortSt) (s4:SS st ej) (out:Array Keyed) (ia mg ac bc x:Nat),MI lt it xs ys out ia ar→ia+1<xs.length→xs[ia]?=some x→lt y x=true→da+c9≤ia+ar →
      SK prog w A E s (elem' (aK it ys) ar >>= fun v=>if (ar+1 == (aK it ys).size)=true then pure (ForInStep.done (some (out.push v++(aK it xs).extract ia (aK it xs).size++(aK it ys).extract (ar+1) (aK it ys).size),out.push v,ia,ar+1,mg,ac,bc))
       else elem' (aK it xs) ia >>= fun x=>fZ true x (aK it ys) (ar+1) ((aK it ys).size-(ar+1)) 0 >>= fun r=>match r with
        |some k=>if k > 0 then(if (ar+1+k == (aK it ys).size)=true then pure (ForInStep.done (some (out.push v++(aK it ys).extract (ar+1) (ar+1+k)++(aK it xs).extract ia (aK it xs).size++(aK it ys).extract (ar+1+k) (aK it ys).size),out.push v++(aK it ys).extract (ar+1) (ar+1+k),ia,ar+1+k,mg,ac,k))
          else loT it xs ys (out.push v++(aK it ys).extract (ar+1) (ar+1+k)) ia (ar+1+k) mg ac k)
          else loT it xs ys (out.push v) ia (ar+1) mg ac k
        |_=>pure (ForInStep.done (some (out.push v++(aK it xs).extract ia (aK it xs).size++(aK it ys).extract (ar+1) (aK it ys).size),out.push v,ia,ar+1,mg,ac,bc)))
       (pP (LQ lt it xs ys st da c9) (LI lt it xs ys st da c9)) ej:=fun ej s4 out ia mg ac bc x m hi hx hl hr=>by
     refine aC (bD (bH hy) ?_);have m':=m.pushB g hx hy hl
     by_cases e3:ar+1=ys.length
     ·exact dC (by rw[aH];simpa using e3) (aF ⟨s4,.inl ⟨_,_,rfl,m'.doneB g e3⟩⟩)
     refine dD (by rw[aH];simpa using e3) ?_
     refine aC (bD (bH hx) ?_);obtain⟨j2,j1',j2',j3',og⟩:=aET g (ib:=ar+1) hx;refine aC (OJ hc g (s4.1.trans hk) hx (by lia) j1' j2' ?_)
     have mB:=m'.moveB g hx j2 j3'
     by_cases ow:j2 > 0
     ·refine dC ow ?_
      by_cases e4:ar+1+j2=ys.length
      ·exact dC (by rw[aH];simpa using e4) (aF ⟨s4,.inl ⟨_,_,rfl,mB.doneB g e4⟩⟩)
      refine dD (by rw[aH];simpa using e4) ?_
      have fu:=getD_at (l:=ys) (i:=ar+1+j2) (by lia)
      exact pM _ s4 _ _ _ _ _ _ _ _ mB hi hx fu (og _ fu) (by lia)
     ·refine dD ow ?_;have j0:j2=0:=by lia
      have fu:=getD_at (l:=ys) (i:=ar+1) (by lia)
      exact pM _ s4 _ _ _ _ _ _ _ _ m' hi hx fu (og _ (by rw[j0];exact fu)) (by lia)
    by_cases ig:ft > 1
    ·refine dC ig ?_;refine aC (bM ?_);refine aC (bD (bH hy) ?_);refine aC (zP hc g (s3.1.trans hk) hy (by(try dsimp only);lia) k1 k2 ?_)
     by_cases fc:k > 0
     ·refine dC fc ?_
      by_cases e1:ba+k+1=xs.length
      ·exact dC (by rw[aH];simpa using e1) (aF ⟨s3,.inl ⟨_,_,rfl,dn mA e1⟩⟩)
      refine dD (by rw[aH];simpa using e1) ?_
      by_cases e2:ba+k=xs.length
      ·exact dC (by rw[aH];simpa using e2) (aF ⟨s3,.inl ⟨_,_,rfl,mA.doneA g e2⟩⟩)
      refine dD (by rw[aH];simpa using e2) ?_
      have hx:=getD_at (l:=xs) (i:=ba+k) (by lia)
      refine bz _ ?_ _ (ba+k) (ft-1) k iq _ mA (by lia) hx (k4 _ hx) (by lia)
      exact s3
     ·refine dD fc ?_;have kz:k=0:=by lia
      have hx:=getD_at (l:=xs) (i:=ba) (by lia)
      refine bz _ ?_ _ ba (ft-1) k iq _ m cy hx (k4 _ (by rw[kz];exact hx)) fb
      exact s3
    ·refine dD ig ?_;refine aC (bM ?_);refine aC (bD (bH hy) ?_);refine aC (zP hc g (s3.1.trans hk) hy (by(try dsimp only);lia) k1 k2 ?_)
     by_cases fc:k > 0
     ·refine dC fc ?_
      by_cases e1:ba+k+1=xs.length
      ·exact dC (by rw[aH];simpa using e1) (aF ⟨s3,.inl ⟨_,_,rfl,dn mA e1⟩⟩)
      refine dD (by rw[aH];simpa using e1) ?_
      by_cases e2:ba+k=xs.length
      ·exact dC (by rw[aH];simpa using e2) (aF ⟨s3,.inl ⟨_,_,rfl,mA.doneA g e2⟩⟩)
      refine dD (by rw[aH];simpa using e2) ?_
      have hx:=getD_at (l:=xs) (i:=ba+k) (by lia)
      refine bz _ ?_ _ (ba+k) ft k iq _ mA (by lia) hx (k4 _ hx) (by lia)
      exact s3
     ·refine dD fc ?_;have kz:k=0:=by lia
      have hx:=getD_at (l:=xs) (i:=ba) (by lia)
      refine bz _ ?_ _ ba ft k iq _ m cy hx (k4 _ (by rw[kz];exact hx)) fb
      exact s3
   ·rintro b jf ⟨s3,out,ba,ar,ft,ac',iq,rfl,m,cy,de,fb⟩;exact⟨s3,.inr ⟨_,_,_,_,_,_,rfl,m,cy,de,fb⟩⟩
   ·rintro b jf ⟨s3,⟨r,rest,rfl,hR⟩|⟨out,ia2,ib2,mg2,ac2,bc2,rfl,m,l7,l6,hr2⟩⟩
    ·exact aF ⟨s3,_,_,rfl,hR⟩
    ·dsimp only;refine aC (bM ?_);exact aF ⟨s3,_,_,_,_,rfl,m,l7,l6,by lia⟩
 ·rintro b gq ⟨s1,out,ia,ib,mg,rfl,m,ha,hb,hr⟩;rw[aH,aH]at hr;lia
 ·rintro b gq ⟨s1,r,rest,rfl,hR⟩;exact aF (h _ _ hR s1)
end
section
variable {lt:Nat→Nat→Bool}{it:Array Keyed}{xs ys:List Nat}{n:Nat}
def MH(lt:Nat→Nat→Bool)(it:Array Keyed)(xs ys:List Nat)(out:Array Keyed)(na nb:Nat):Prop:=
 ∃zs,out=(aK it zs).reverse∧zs.Perm (xs.drop na++ys.drop nb)∧So lt zs∧∀z∈zs,∀v,v∈xs.take na∨v∈ys.take nb→lt v z=true
theorem uX{zs:List Nat}{x:Nat}:(aK it zs).reverse.push (kas_item it x)=(aK it (x::zs)).reverse:=by unfold aK;simp
theorem kF{l:List Nat}(h:So lt l){i x:Nat}(hx:l[i]?=some x):∀y∈l.take i,lt y x=true:=by
 intro y hy;have:=List.Pairwise.take (i:=i+1) h
 rw[eP hx]at this;exact(v8.mp this).2.2 y hy x (sf.mpr rfl)
theorem MH.pushA(g:MG lt n xs ys){out:Array Keyed}{na nb x y:Nat}(h:MH lt it xs ys out (na+1) (nb+1))(hx:xs[na]?=some x)(hy:ys[nb]?=some y)(hl:lt y x=true):MH lt it xs ys (out.push (kas_item it x)) na (nb+1):=by
 obtain⟨zs,rfl,hp,hs,hz⟩:=h;refine⟨x::zs,uX,?_,v7.mpr ⟨fun z dq=>hz z dq x (.inl (by rw[eP hx];simp)),hs⟩,fun z dq v hv=>?_⟩
 ·rw[cM hx];exact hp.cons x
 ·rcases sg.mp dq with e|dq
  ·rw[e]
   rcases hv with hv|hv
   ·exact kF g.sx hx v hv
   ·rw[eP hy]at hv
    rcases v9.mp hv with hv|hv
    ·exact g.o.tra _ _ _ (g.yn v (mem_of_mem_take hv)) (g.yn y (qh hy)) (g.xn x (qh hx)) (kF g.sy hy v hv) hl
    ·rw[sf.mp hv];exact hl
  ·exact hz z dq v (hv.imp (fun q=>by rw[eP hx];exact tw _ q) id)
theorem MH.pushB(g:MG lt n xs ys){out:Array Keyed}{na nb x y:Nat}(h:MH lt it xs ys out (na+1) (nb+1))(hx:xs[na]?=some x)(hy:ys[nb]?=some y)(hl:lt x y=true):MH lt it xs ys (out.push (kas_item it y)) (na+1) nb:=by
 obtain⟨zs,rfl,hp,hs,hz⟩:=h;refine⟨y::zs,uX,?_,v7.mpr ⟨fun z dq=>hz z dq y (.inr (by rw[eP hy];simp)),hs⟩,fun z dq v hv=>?_⟩
 ·rw[cM hy];exact(hp.cons y).trans (List.perm_middle).symm
 ·rcases sg.mp dq with e|dq
  ·rw[e]
   rcases hv with hv|hv
   ·rw[eP hx]at hv
    rcases v9.mp hv with hv|hv
    ·exact g.o.tra _ _ _ (g.xn v (mem_of_mem_take hv)) (g.xn x (qh hx)) (g.yn y (qh hy)) (kF g.sx hx v hv) hl
    ·rw[sf.mp hv];exact hl
   ·exact kF g.sy hy v hv
  ·exact hz z dq v (hv.imp id fun q=>by rw[eP hy];exact tw _ q)
theorem CW{out e:Array Keyed}{v:Keyed}:out++(e.push v).reverse=out.push v++e.reverse:=by
 apply Array.toList_inj.mp;simp
theorem MH.moveA(g:MG lt n xs ys){na nb y:Nat}(hy:ys[nb]?=some y):∀(k:Nat) {out:Array Keyed},MH lt it xs ys out (na+k) (nb+1)→(∀i,i<k→∃x,xs[na+i]?=some x∧lt y x=true)→MH lt it xs ys (out++((aK it xs).extract na (na+k)).reverse) na (nb+1)
 | 0,out,h,_=>by
  rw[dH,show na+0-na=0 by lia,take_zero,show (aK it []).reverse=#[] from rfl,append_empty]
  exact h
 |k+1,out,h,hl=>by
  obtain⟨x,hx,eu⟩:=hl k (uh k);rw[kR hx,CW];exact MH.moveA g hy k (MH.pushA g h hx hy eu) fun i hi=>hl i (by lia)
theorem MH.moveB(g:MG lt n xs ys){na nb x:Nat}(hx:xs[na]?=some x):∀(k:Nat) {out:Array Keyed},MH lt it xs ys out (na+1) (nb+k)→(∀i,i<k→∃y,ys[nb+i]?=some y∧lt x y=true)→MH lt it xs ys (out++((aK it ys).extract nb (nb+k)).reverse) (na+1) nb
 | 0,out,h,_=>by
  rw[dH,show nb+0-nb=0 by lia,take_zero,show (aK it []).reverse=#[] from rfl,append_empty]
  exact h
 |k+1,out,h,hl=>by
  obtain⟨y,hy,eu⟩:=hl k (uh k);rw[kR hy,CW];exact MH.moveB g hx k (MH.pushB g h hx hy eu) fun i hi=>hl i (by lia)
theorem qL{zs:List Nat}{i:Nat}:(aK it zs).extract 0 i=aK it (zs.take i):=by rw[dH,drop_zero,Nat.sub_zero]
theorem MH.doneA(g:MG lt n xs ys){out:Array Keyed}{nb:Nat}(h:MH lt it xs ys out 0 nb):Res lt it xs ys ((aK it xs).extract 0 0++(aK it ys).extract 0 nb++out.reverse):=by
 obtain⟨zs,rfl,hp,hs,hz⟩:=h;refine⟨ys.take nb++zs,by rw[qL,qL,Array.reverse_reverse,cO,cO,take_zero,nil_append],?_,eW (List.Pairwise.take g.sy) hs fun a ha b hb=>hz b hb a (.inr ha)⟩
 refine(hp.append_left _).trans ?_;rw[drop_zero];refine perm_append_comm.trans ?_;rw[qy];refine List.Perm.append_left _ (perm_append_comm.trans ?_);rw[take_append_drop]
theorem MH.doneB(g:MG lt n xs ys){out:Array Keyed}{na:Nat}(h:MH lt it xs ys out na 0):Res lt it xs ys ((aK it xs).extract 0 na++(aK it ys).extract 0 0++out.reverse):=by
 obtain⟨zs,rfl,hp,hs,hz⟩:=h;refine⟨xs.take na++zs,by rw[qL,qL,Array.reverse_reverse,cO,cO,take_zero,sq],?_,eW (List.Pairwise.take g.sx) hs fun a ha b hb=>hz b hb a (.inl ha)⟩
 refine(hp.append_left _).trans ?_;rw[drop_zero,←qy,take_append_drop]
theorem MH.first(g:MG lt n xs ys){out:Array Keyed}{na y:Nat}(h:MH lt it xs ys out na 1)(hy:ys[0]?=some y)(hl:∀x∈xs,lt y x=true):Res lt it xs ys ((aK it ys).extract 0 1++(aK it xs).extract 0 na++out.reverse):=by
 obtain⟨zs,rfl,hp,hs,hz⟩:=h;have e:ys.take 1=[y]:=by rw[eP hy];rfl
 refine⟨[y]++xs.take na++zs,by rw[qL,qL,Array.reverse_reverse,cO,cO,e],?_,eW (eW (pairwise_singleton _ _) (List.Pairwise.take g.sx) fun a ha b hb=>?_) hs fun a ha b hb=>?_⟩
 ·refine(hp.append_left _).trans ?_;rw[qy,←qy (xs.take na),take_append_drop];refine perm_append_comm.trans ?_;rw[qy];refine List.Perm.append_left _ (perm_append_comm.trans ?_);rw[←e,take_append_drop]
 ·rw[sf.mp ha];exact hl b (mem_of_mem_take hb)
 ·rcases v9.mp ha with q|q
  ·exact hz b hb a (.inr (by rw[e];exact q))
  ·exact hz b hb a (.inl q)
theorem aEU(g:MG lt n xs ys){na nb y:Nat}(hn:na≤xs.length)(hy:ys[nb]?=some y):∃m,m≤na∧(∀i,i<na→(!lt y (xs.getD (0+i) 0))=decide (i<m))∧(∀i,i<na-m→∃x,xs[m+i]?=some x∧lt y x=true)∧∀i x,i+1=m→xs[i]?=some x→lt x y=true:=by
 obtain⟨m,m1,m2,m3,m4⟩:=aEV g (ia:=0) hy;have ym:=qh hy
 refine⟨min m na,min_le_right _ _,fun i hi=>?_,fun i hi=>?_,fun i x hi hx=>?_⟩
 ·rw[m2 i (by lia)]
  exact decide_eq_decide.mpr (by lia)
 ·have h1:=getD_at (l:=xs) (i:=min m na+i) (by lia)
  refine⟨_,h1,?_⟩;have:=m2 (min m na+i) (by lia)
  rw[qp (by lia),sj]at this
  simpa using this
 ·obtain⟨x',dt,hl⟩:=m3 i (by lia)
  rw[sj,hx]at dt;cases dt;exact hl
theorem aES(g:MG lt n xs ys){na nb x:Nat}(hn:nb≤ys.length)(hx:xs[na]?=some x):∃m,m≤nb∧(∀i,i<nb→lt (ys.getD (0+i) 0) x=decide (i<m))∧(∀i,i<nb-m→∃y,ys[m+i]?=some y∧lt x y=true)∧∀i y,i+1=m→ys[i]?=some y→lt y x=true:=by
 obtain⟨m,m1,m2,m3,m4⟩:=aET g (ib:=0) hx;have xm:=qh hx
 refine⟨min m nb,min_le_right _ _,fun i hi=>?_,fun i hi=>?_,fun i y hi hy=>?_⟩
 ·rw[m2 i (by lia)]
  exact decide_eq_decide.mpr (by lia)
 ·have h1:=getD_at (l:=ys) (i:=min m nb+i) (by lia)
  refine⟨_,h1,?_⟩;have:=m2 (min m nb+i) (by lia)
  rw[qp (by lia),sj]at this
  have ym:=qh h1
  exact g.o.tot _ _ (g.yn _ ym) (g.xn x xm) (fun z=>g.ne x xm _ ym z.symm) this
 ·obtain⟨y',cb,hl⟩:=m3 i (by lia)
  rw[sj,hy]at cb;cases cb;exact hl
end
section
variable {prog:vc}{w:World}{A:Around}{E:vd}{κ:SortKind}{it:Array Keyed}{n:Nat}{lt:Nat→Nat→Bool}{s:Shared}{xs ys:List Nat}
theorem uV(hc:fk prog w A κ it n lt s)(g:MG lt n xs ys){na nb y m:Nat}{st:SortSt}{Q:Option Nat→SortSt→Prop}(hk:kindOf st=κ)(hy:ys[nb]?=some y)(hi:0<na)(hn:na≤xs.length)(hm:m≤na)(e:∀i,i<na→(!lt y (xs.getD (0+i) 0))=decide (i<m))(h:Q (some m) st) :
  SK prog w A E s (fZ false (kas_item it y) (aK it xs) 0 na (na-1)) Q st:=
 fJ hc (q:=fun i=>xs.getD (0+i) 0) hk (g.yn y (qh hy)) (fun i hi=>g.xn _ (qh (getD_at (by lia)))) (fun i hi=>bH (getD_at (by lia))) (fun i hi=>e i hi) hm (by lia) h
theorem GU(hc:fk prog w A κ it n lt s)(g:MG lt n xs ys){na nb x m:Nat}{st:SortSt}{Q:Option Nat→SortSt→Prop}(hk:kindOf st=κ)(hx:xs[na]?=some x)(hi:0<nb)(hn:nb≤ys.length)(hm:m≤nb)(e:∀i,i<nb→lt (ys.getD (0+i) 0) x=decide (i<m))(h:Q (some m) st) :
  SK prog w A E s (fZ true (kas_item it x) (aK it ys) 0 nb (nb-1)) Q st:=
 fJ hc (q:=fun i=>ys.getD (0+i) 0) hk (g.xn x (qh hx)) (fun i hi=>g.yn _ (qh (getD_at (by lia)))) (fun i hi=>bH (getD_at (by lia))) (fun i hi=>e i hi) hm (by lia) h
end
end Z
set_option maxHeartbeats 2000000
namespace Z
open PySem PySem.W PyProof.Rows
section
variable {prog:vc}{w:World}{A:Around}{E:vd}{κ:SortKind}{it:Array Keyed}{n:Nat}{lt:Nat→Nat→Bool}{s:Shared}{xs ys:List Nat}
theorem MH.doneA'(g:MG lt n xs ys){out:Array Keyed}{na nb:Nat}(h:MH lt it xs ys out na nb)(e:na=0):Res lt it xs ys ((aK it xs).extract 0 na++(aK it ys).extract 0 nb++out.reverse):=by
 subst e;exact h.doneA g
theorem MH.doneB'(g:MG lt n xs ys){out:Array Keyed}{na nb:Nat}(h:MH lt it xs ys out na nb)(e:nb=0):Res lt it xs ys ((aK it xs).extract 0 na++(aK it ys).extract 0 nb++out.reverse):=by
 subst e;exact h.doneB g
theorem MH.cast{out:Array Keyed}{na nb aq ai:Nat}(h:MH lt it xs ys out na nb)(e1:na=aq)(e2:nb=ai):MH lt it xs ys out aq ai:=by
 subst e1 e2;exact h
def HI(lt:Nat→Nat→Bool)(it:Array Keyed)(xs ys:List Nat)(st:SortSt)(c7 b8:Nat)(b:Option (Array Keyed)×Nat×Nat×Array Keyed×Nat×Nat×Nat)(ae:SortSt):Prop:=
 SS st ae∧∃aq ai av mg ac bc,b=(none,aq,ai,av,mg,ac,bc)∧MH lt it xs ys av aq ai∧0<aq∧1<ai∧aq≤xs.length∧ai≤ys.length∧aq+ai≤c7+b8
def HQ(lt:Nat→Nat→Bool)(it:Array Keyed)(xs ys:List Nat)(st:SortSt)(c7 b8:Nat)(b:Option (Array Keyed)×Nat×Nat×Array Keyed×Nat×Nat×Nat)(ae:SortSt):Prop:=
 SS st ae∧((∃r rest,b=(some r,rest)∧Res lt it xs ys r)∨∃aq ai av mg ac bc,b=(none,aq,ai,av,mg,ac,bc)∧MH lt it xs ys av aq ai∧0<aq∧1<ai∧aq≤xs.length∧ai≤ys.length∧aq+ai≤c7+b8)
theorem HI.mk{st ae:SortSt}{c7 b8 na nb mg ac bc:Nat}{out:Array Keyed}(s:SS st ae)(m:MH lt it xs ys out na nb)(h1:0<na)(h2:1<nb)(h3:na≤xs.length)(h4:nb≤ys.length)(hr:na+nb≤c7+b8):HI lt it xs ys st c7 b8 (none,na,nb,out,mg,ac,bc) ae:=⟨s,_,_,_,_,_,_,rfl,m,h1,h2,h3,h4,hr⟩
theorem HI.q{st ae:SortSt}{c7 b8:Nat}{b:Option (Array Keyed)×Nat×Nat×Array Keyed×Nat×Nat×Nat}(h:HI lt it xs ys st c7 b8 b ae):HQ lt it xs ys st c7 b8 b ae:=⟨h.1,.inr h.2⟩
abbrev hiE(it:Array Keyed)(xs ys:List Nat)(out:Array Keyed)(na nb:Nat):Array Keyed:=(aK it xs).extract 0 na++(aK it ys).extract 0 nb++out.reverse
abbrev hiF(it:Array Keyed)(xs ys:List Nat)(out:Array Keyed)(na nb:Nat):Array Keyed:=(aK it ys).extract 0 nb++(aK it xs).extract 0 na++out.reverse
abbrev hiT(it:Array Keyed)(xs ys:List Nat)(out:Array Keyed)(na nb mg ac bc:Nat):StateT SortSt Sem (ForInStep (Option (Array Keyed)×Nat×Nat×Array Keyed×Nat×Nat×Nat)):=
 elem' (aK it xs) (na-1) >>= fun v=>if (na-1 == 0)=true then pure (ForInStep.done (some (hiE it xs ys (out.push v) (na-1) nb),na-1,nb,out.push v,mg,ac,bc))
  else if (decide (ac<7)&&decide (bc<7))=true then pure (ForInStep.done (none,na-1,nb,out.push v,mg,ac,bc)) else pure (ForInStep.yield (none,na-1,nb,out.push v,mg,ac,bc))
theorem yE(hc:fk prog w A κ it n lt s)(g:MG lt n xs ys){x0 y0 xl:Nat}(j4:xs[0]?=some x0)(j1:ys[0]?=some y0)(h1:lt y0 x0=true)(oh:xs[xs.length-1]?=some xl)(h2:∀y∈ys,lt y xl=true){st:SortSt}(hk:kindOf st=κ){Q:Array Keyed→SortSt→Prop}
  (h:∀r ae,Res lt it xs ys r→SS st ae→Q r ae):SK prog w A E s (vO (aK it xs) (aK it ys)) Q st:=by
 have lx:0<xs.length:=(q8.mp j4).1
 have ly:0<ys.length:=(q8.mp j1).1
 have sza:(aK it xs).size=xs.length:=aH
 have szb:(aK it ys).size=ys.length:=aH
 have hy0x:∀x∈xs,lt y0 x=true:=fun x hx=>by
  have:xs=x0::xs.drop 1:=by rw[←cM j4,drop_zero]
  rw[this]at hx
  rcases sg.mp hx with e|hx
  ·rw[e];exact h1
  ·exact g.o.tra _ _ _ (g.yn y0 (qh j1)) (g.xn x0 (qh j4)) (g.xn x (mem_of_mem_drop hx)) h1 (jB g.sx j4 x hx)
 have m1:MH lt it xs ys #[kas_item it xl] (xs.length-1) ys.length:=by
  refine⟨[xl],rfl,?_,pairwise_singleton _ _,fun z hz v hv=>?_⟩
  ·rw[cM oh,show xs.length-1+1=xs.length by lia,uz,uz]
   exact List.Perm.refl _
  ·rw[sf.mp hz]
   rcases hv with hv|hv
   ·exact kF g.sx oh v hv
   ·rw[uy]at hv;exact h2 v hv
 have first:∀{out:Array Keyed} {na nb:Nat},MH lt it xs ys out na nb→nb=1→Res lt it xs ys ((aK it ys).extract 0 nb++(aK it xs).extract 0 na++out.reverse):=fun {out na nb} m e=>by
  subst e;exact m.first g j1 hy0x
 unfold vO;refine aC (gY ?_);refine aC (bD (bH (by rw[aH];exact oh)) ?_)
 by_cases c1:xs.length-1=0
 ·refine dC (by rw[aH];simpa using c1) ?_
  refine aF (h _ _ ?_ SS.refl);rw[aH,aH];exact m1.doneA' g c1
 refine dD (by rw[aH];simpa using c1) ?_
 by_cases c2:ys.length=1
 ·refine dC (by rw[aH];simpa using c2) ?_
  refine aF (h _ _ ?_ SS.refl);rw[aH,aH];exact first m1 c2
 refine dD (by rw[aH];simpa using c2) ?_
 refine aC (eF ?_);refine aC (bP (hG (Q:=fun b ae=>SS st ae∧∃r rest,b=(some r,rest)∧Res lt it xs ys r) (fun i b ae=>SS st ae∧∃na nb out mg,b=(none,na,nb,out,mg)∧MH lt it xs ys out na nb∧0<na∧na≤xs.length∧1<nb∧nb≤ys.length∧na+nb+i+1≤xs.length+ys.length) ⟨SS.refl,_,_,_,_,rfl,m1.cast (by rw[aH]) (by rw[aH]),by lia,by lia,by lia,by lia,by lia⟩ ?_ ?_) ?_)
 ·rintro _ i b gq ⟨s1,na,nb,out,mg,rfl,m,ha,l7,hb,l6,hr⟩;refine aC (bP (hG (Q:=fun b ae=>SS st ae∧((∃r rest,b=(some r,rest)∧Res lt it xs ys r)∨∃aq ai av ac bc,b=(none,aq,ai,av,ac,bc)∧MH lt it xs ys av aq ai∧0<aq∧1<ai∧aq≤xs.length∧ai≤ys.length∧aq+ai+1≤na+nb))
   (fun j b ae=>SS st ae∧∃aq ai av ac bc,b=(none,aq,ai,av,ac,bc)∧MH lt it xs ys av aq ai∧0<aq∧1<ai∧aq≤xs.length∧ai≤ys.length∧aq+ai+j≤na+nb) ⟨s1,_,_,_,_,_,rfl,m,ha,hb,l7,l6,by(try dsimp only);lia⟩ ?_ ?_) ?_)
  ·rintro _ j b gp ⟨s2,aq,ai,out,ac,bc,rfl,m,cy,de,cf,fh,fb⟩;clear sza szb lx ly c1 c2 ha l7 hb l6 hr;have hx:=getD_at (l:=xs) (i:=aq-1) (by lia)
   have hy:=getD_at (l:=ys) (i:=ai-1) (by lia)
   generalize xs.getD (aq-1) 0=x at hx;generalize ys.getD (ai-1) 0=y at hy;have xm:=qh hx
   have ym:=qh hy
   have mm:=m.cast (show aq=aq-1+1 by lia) (show ai=ai-1+1 by lia)
   refine aC (bD (bH hy) (aC (bD (bH hx) (aC (uS hc (s2.1.trans hk) (g.yn y ym) (g.xn x xm) ?_)))))
   by_cases hl:lt y x=true
   ·refine dC hl ?_;refine aC (bD (bH hx) ?_);have m':=(mm.pushA g hx hy hl).cast rfl (show ai-1+1=ai by lia)
    by_cases e:aq-1=0
    ·refine dC (by simpa using e) ?_
     exact aF ⟨s2,.inl ⟨_,_,rfl,m'.doneA' g e⟩⟩
    ·refine dD (by simpa using e) ?_
     split
     ·exact aF ⟨s2,.inr ⟨_,_,_,_,_,rfl,m',by(try dsimp only);lia,de,by(try dsimp only);lia,fh,by(try dsimp only);lia⟩⟩
     ·exact aF ⟨s2,_,_,_,_,_,rfl,m',by(try dsimp only);lia,de,by(try dsimp only);lia,fh,by(try dsimp only);lia⟩
   ·refine dD hl ?_;have hl':lt x y=true:=g.o.tot _ _ (g.yn y ym) (g.xn x xm) (fun z=>g.ne x xm y ym z.symm) (by simpa using hl)
    refine aC (bD (bH hy) ?_);have m':=(mm.pushB g hx hy hl').cast (show aq-1+1=aq by lia) rfl
    by_cases e:ai-1=1
    ·refine dC (by simpa using e) ?_
     exact aF ⟨s2,.inl ⟨_,_,rfl,first m' e⟩⟩
    ·refine dD (by simpa using e) ?_
     split
     ·exact aF ⟨s2,.inr ⟨_,_,_,_,_,rfl,m',cy,by(try dsimp only);lia,cf,by(try dsimp only);lia,by(try dsimp only);lia⟩⟩
     ·exact aF ⟨s2,_,_,_,_,_,rfl,m',cy,by(try dsimp only);lia,cf,by(try dsimp only);lia,by(try dsimp only);lia⟩
  ·rintro b gp ⟨s2,aq,ai,out,ac,bc,rfl,m,cy,de,cf,fh,fb⟩;rw[aH,aH]at fb;exact⟨s2,.inr ⟨_,_,_,_,_,rfl,m,cy,de,cf,fh,by lia⟩⟩
  ·rintro b gp ⟨s2,⟨r,rest,rfl,hR⟩|⟨c7,b8,out,ac,bc,rfl,m,o6,o5,ha21,hb21,hr1⟩⟩
   ·exact aF ⟨s2,_,_,rfl,hR⟩
   refine aC (gY ?_);refine aC (bP (hG (Q:=HQ lt it xs ys st c7 b8) (fun _=>HI lt it xs ys st c7 b8) ⟨s2,_,_,_,_,_,_,rfl,m,o6,o5,ha21,hb21,qm _⟩ ?_ ?_) ?_)
   ·rintro _ j b jf ⟨s3,aq,ai,out,ft,ac',iq,rfl,m,cy,de,cf,fh,fb⟩;clear sza szb lx ly c1 c2 ha l7 hb l6 hr o6 o5 ha21 hb21 hr1;have hy:=getD_at (l:=ys) (i:=ai-1) (by lia)
    generalize ys.getD (ai-1) 0=y at hy;obtain⟨k,k1,k2,k3,k4⟩:=aEU g (na:=aq) cf hy;have mA:MH lt it xs ys (out++((aK it xs).extract k aq).reverse) k (ai-1+1):=by
     have:=MH.moveA g (na:=k) hy (aq-k) (m.cast (show aq=k+(aq-k) by lia) (show ai=ai-1+1 by lia)) k3
     rw[show k+(aq-k)=aq by lia]at this
     exact this
    have pM:∀(ej:SortSt) (s4:SS st ej) (out:Array Keyed) (na nb mg ac bc x y:Nat),MH lt it xs ys out na nb→0<na→1<nb→na≤xs.length→nb≤ys.length→xs[na-1]?=some x→ys[nb-1]?=some y→lt y x=true→na+nb≤c7+b8 →
      SK prog w A E s (hiT it xs ys out na nb mg ac bc) (pP (HQ lt it xs ys st c7 b8) (HI lt it xs ys st c7 b8)) ej:=fun ej s4 out na nb mg ac bc x y m n1 n2 n3 n4 hx hy hl hr=>by
     unfold hiT;refine aC (bD (bH hx) ?_);have m2:=((m.cast (show na=na-1+1 by lia) (show nb=nb-1+1 by lia)).pushA g hx hy hl).cast rfl (show nb-1+1=nb by lia)
     by_cases e5:na-1=0
     ·exact dC (by simpa using e5) (aF ⟨s4,.inl ⟨_,_,rfl,m2.doneA' g e5⟩⟩)
     refine dD (by simpa using e5) ?_
     have L:=HI.mk (mg:=mg) (ac:=ac) (bc:=bc) s4 m2 (Nat.pos_of_ne_zero e5) n2 (by lia) n4 (by lia:na-1+nb≤c7+b8)
     by_cases e6:(decide (ac<7)&&decide (bc<7))=true
     ·exact dC e6 (aF L.q)
     ·exact dD e6 (aF L)
    have bz:∀(ej:SortSt) (s4:SS st ej) (out:Array Keyed) (na mg ac bc x:Nat),MH lt it xs ys out na ai→0<na→na≤xs.length→xs[na-1]?=some x→lt x y=true→na+ai≤c7+b8 →
      SK prog w A E s (elem' (aK it ys) (ai-1) >>= fun v=>if (ai-1 == 1)=true then pure (ForInStep.done (some (hiF it xs ys (out.push v) na (ai-1)),na,ai-1,out.push v,mg,ac,bc))
       else elem' (aK it xs) (na-1) >>= fun x=>fZ true x (aK it ys) 0 (ai-1) (ai-1-1) >>= fun r=>match r with
        |some k=>if ai-1-k > 0 then(if (k == 1)=true then pure (ForInStep.done (some (hiF it xs ys (out.push v++((aK it ys).extract k (ai-1)).reverse) na k),na,k,out.push v++((aK it ys).extract k (ai-1)).reverse,mg,ac,ai-1-k))
          else if (k == 0)=true then pure (ForInStep.done (some (hiE it xs ys (out.push v++((aK it ys).extract k (ai-1)).reverse) na k),na,k,out.push v++((aK it ys).extract k (ai-1)).reverse,mg,ac,ai-1-k))
          else hiT it xs ys (out.push v++((aK it ys).extract k (ai-1)).reverse) na k mg ac (ai-1-k))
          else hiT it xs ys (out.push v) na (ai-1) mg ac (ai-1-k)
        |_=>pure (ForInStep.done (some (hiE it xs ys (out.push v) na (ai-1)),na,ai-1,out.push v,mg,ac,bc)))
       (pP (HQ lt it xs ys st c7 b8) (HI lt it xs ys st c7 b8)) ej:=fun ej s4 out na mg ac bc x m n1 n3 hx hl hr=>by
     refine aC (bD (bH hy) ?_);have m':=((m.cast (show na=na-1+1 by lia) (show ai=ai-1+1 by lia)).pushB g hx hy hl)
     have mc:=m'.cast (show na-1+1=na by lia) rfl
     by_cases e3:ai-1=1
     ·exact dC (by simpa using e3) (aF ⟨s4,.inl ⟨_,_,rfl,first mc e3⟩⟩)
     refine dD (by simpa using e3) ?_
     refine aC (bD (bH hx) ?_);obtain⟨j2,j1',j2',j3',og⟩:=aES g (nb:=ai-1) (by lia) hx
     refine aC (GU hc g (s4.1.trans hk) hx (by lia) (by lia) j1' j2' ?_)
     have mB:=MH.moveB g (nb:=j2) hx (ai-1-j2) (m'.cast rfl (show ai-1=j2+(ai-1-j2) by lia)) j3'
     rw[show j2+(ai-1-j2)=ai-1 by lia]at mB
     have mb:=mB.cast (show na-1+1=na by lia) rfl
     by_cases ow:ai-1-j2 > 0
     ·refine dC ow ?_
      by_cases e4:j2=1
      ·exact dC (by simpa using e4) (aF ⟨s4,.inl ⟨_,_,rfl,first mb e4⟩⟩)
      refine dD (by simpa using e4) ?_
      by_cases e6:j2=0
      ·exact dC (by simpa using e6) (aF ⟨s4,.inl ⟨_,_,rfl,mb.doneB' g e6⟩⟩)
      refine dD (by simpa using e6) ?_
      have fu:=getD_at (l:=ys) (i:=j2-1) (by lia)
      exact pM _ s4 _ _ _ _ _ _ _ _ mb n1 (by lia) n3 (by lia) hx fu (og (j2-1) _ (by lia) fu) (by lia)
     ·refine dD ow ?_;have fu:=getD_at (l:=ys) (i:=ai-1-1) (by lia)
      exact pM _ s4 _ _ _ _ _ _ _ _ mc n1 (by lia) n3 (by lia) hx fu (og (ai-1-1) _ (by lia) fu) (by lia)
    by_cases ig:ft > 1
    ·refine dC ig ?_;refine aC (bM ?_);refine aC (bD (bH hy) ?_);refine aC (uV hc g (s3.1.trans hk) hy cy cf k1 k2 ?_)
     by_cases fc:aq-k > 0
     ·refine dC fc ?_
      by_cases e1:k=0
      ·exact dC (by simpa using e1) (aF ⟨s3,.inl ⟨_,_,rfl,(mA.cast rfl (show ai-1+1=ai by lia)).doneA' g e1⟩⟩)
      refine dD (by simpa using e1) ?_
      have hx:=getD_at (l:=xs) (i:=k-1) (by lia)
      refine bz _ ?_ _ k (ft-1) (aq-k) iq _ (mA.cast rfl (show ai-1+1=ai by lia)) (by lia) (by lia) hx (k4 (k-1) _ (by lia) hx) (by lia)
      exact s3
     ·refine dD fc ?_;have hx:=getD_at (l:=xs) (i:=aq-1) (by lia)
      refine bz _ ?_ _ aq (ft-1) (aq-k) iq _ m cy cf hx (k4 (aq-1) _ (by lia) hx) fb
      exact s3
    ·refine dD ig ?_;refine aC (bM ?_);refine aC (bD (bH hy) ?_);refine aC (uV hc g (s3.1.trans hk) hy cy cf k1 k2 ?_)
     by_cases fc:aq-k > 0
     ·refine dC fc ?_
      by_cases e1:k=0
      ·exact dC (by simpa using e1) (aF ⟨s3,.inl ⟨_,_,rfl,(mA.cast rfl (show ai-1+1=ai by lia)).doneA' g e1⟩⟩)
      refine dD (by simpa using e1) ?_
      have hx:=getD_at (l:=xs) (i:=k-1) (by lia)
      refine bz _ ?_ _ k (ft) (aq-k) iq _ (mA.cast rfl (show ai-1+1=ai by lia)) (by lia) (by lia) hx (k4 (k-1) _ (by lia) hx) (by lia)
      exact s3
     ·refine dD fc ?_;have hx:=getD_at (l:=xs) (i:=aq-1) (by lia)
      refine bz _ ?_ _ aq (ft) (aq-k) iq _ m cy cf hx (k4 (aq-1) _ (by lia) hx) fb
      exact s3
   ·rintro b jf ⟨s3,aq,ai,out,ft,ac',iq,rfl,m,cy,de,cf,fh,fb⟩;exact⟨s3,.inr ⟨_,_,_,_,_,_,rfl,m,cy,de,cf,fh,fb⟩⟩
   ·rintro b jf ⟨s3,⟨r,rest,rfl,hR⟩|⟨na2,nb2,out,mg2,ac2,bc2,rfl,m,ha3,hb3,ha4,hb4,hr2⟩⟩
    ·exact aF ⟨s3,_,_,rfl,hR⟩
    ·dsimp only;refine aC (bM ?_);exact aF ⟨s3,_,_,_,_,rfl,m,ha3,ha4,hb3,hb4,by lia⟩
 ·rintro b gq ⟨s1,na,nb,out,mg,rfl,m,ha,l7,hb,l6,hr⟩;rw[aH,aH]at hr;lia
 ·rintro b gq ⟨s1,r,rest,rfl,hR⟩;exact aF (h _ _ hR s1)
end
section
variable {prog:vc}{w:World}{A:Around}{E:vd}{κ:SortKind}{it:Array Keyed}{n:Nat}{lt:Nat→Nat→Bool}{s:Shared}{P:Array (Nat×Nat×Nat)}{p:Array Nat}
theorem uT{β:Type}{f:Nat→β→StateT SortSt Sem (ForInStep β)}{Q:β→SortSt→Prop}{N:Nat}(I:Nat→β→SortSt→Prop)(hf:∀x i b st,i<N→I i b st→SK prog w A E s (f x b) (fun r ae=>match r with | .done b'=>Q b' ae | .yield b'=>I (i+1) b' ae) st) :
  ∀(m a i:Nat) (b:β) (st:SortSt),i+m=N→I i b st→(∀b st,I N b st→Q b st)→SK prog w A E s (forIn (range' a m) b f) Q st
 | 0,a,i,b,st,hN,hI,hQ=>by
  show SK prog w A E s (forIn [] b f) Q st
  exact kasC_nil ⟨rfl,hQ b st (by rw[←hN];exact hI)⟩
 |m+1,a,i,b,st,hN,hI,hQ=>by
  show SK prog w A E s (forIn (a::range' (a+1) m) b f) Q st
  refine kasC_cons (ub (hf a i b st (by lia) hI) (fun r s' hr=>?_) fun _ _ e=>e)
  obtain⟨r,ae⟩:=r;obtain⟨e,h⟩:=hr;rw[e];cases r with
  |done b'=>exact⟨rfl,h⟩
  |yield b'=>exact uT I hf m (a+1) (i+1) b' ae (by lia) h hQ
theorem gZ{β:Type}{a m:Nat}{f:Nat→β→StateT SortSt Sem (ForInStep β)}{Q:β→SortSt→Prop}{b:β}{st:SortSt}(I:Nat→β→SortSt→Prop)(h0:I 0 b st)(hf:∀x i b st,i<m-a→I i b st→SK prog w A E s (f x b) (fun r ae=>match r with | .done b'=>Q b' ae | .yield b'=>I (i+1) b' ae) st)(hQ:∀b st,I (m-a) b st→Q b st):SK prog w A E s (forIn [a:m] b f) Q st:=
 kasC_range (uT I hf (m-a) a 0 b st (by lia) h0 hQ)
theorem uU{β:Type}{f:Nat→β→StateT SortSt Sem (ForInStep β)}{Q:β→SortSt→Prop}{N:Nat}(I:Nat→β→SortSt→Prop)(hf:∀x b st,x<N→I x b st→SK prog w A E s (f x b) (fun r ae=>match r with | .done b'=>Q b' ae | .yield b'=>I (x+1) b' ae) st) :
  ∀(m a:Nat) (b:β) (st:SortSt),a+m=N→I a b st→(∀b st,I N b st→Q b st)→SK prog w A E s (forIn (range' a m) b f) Q st
 | 0,a,b,st,hN,hI,hQ=>by
  show SK prog w A E s (forIn [] b f) Q st
  exact kasC_nil ⟨rfl,hQ b st (by rw[←hN];exact hI)⟩
 |m+1,a,b,st,hN,hI,hQ=>by
  show SK prog w A E s (forIn (a::range' (a+1) m) b f) Q st
  refine kasC_cons (ub (hf a b st (by lia) hI) (fun r s' hr=>?_) fun _ _ e=>e)
  obtain⟨r,ae⟩:=r;obtain⟨e,h⟩:=hr;rw[e];cases r with
  |done b'=>exact⟨rfl,h⟩
  |yield b'=>exact uU I hf m (a+1) b' ae (by lia) h hQ
theorem OK{β:Type}{a m:Nat}{f:Nat→β→StateT SortSt Sem (ForInStep β)}{Q:β→SortSt→Prop}{b:β}{st:SortSt}(I:Nat→β→SortSt→Prop)(h0:I a b st)(hf:∀x b st,x<max a m→I x b st→SK prog w A E s (f x b) (fun r ae=>match r with | .done b'=>Q b' ae | .yield b'=>I (x+1) b' ae) st)(hQ:∀b st,I (max a m) b st→Q b st):SK prog w A E s (forIn [a:m] b f) Q st:=
 kasC_range (uU I hf (m-a) a b st (by lia) h0 hQ)
noncomputable def ts(κ:SortKind)(it:Array Keyed)(P:Array (Nat×Nat×Nat))(p:Array Nat):SortSt:=SortSt.mk' κ (p.map (kas_item it)) P 7 none
theorem pK(a:Prm n p){i:Nat}(hi:i<n):(p.map (kas_item it))[i]?=some (kas_item it (fp p i)):=by
 have hs:=a.size
 rw[Array.getElem?_map];unfold fp;rw[getD_eq_getD_getElem?,Array.getElem?_eq_getElem (by lia)];rfl
theorem kG(hc:fk prog w A κ it n lt s)(a:Prm n p){i j:Nat}{Q:Option Bool→SortSt→Prop}(hi:i<n)(hj:j<n)(h:Q (some (lt (fp p i) (fp p j))) (ts κ it P p)):SK prog w A E s (ltAt' i j) Q (ts κ it P p):=by
 rw[ltAt'_eq];refine aC (eF ?_);show SK prog w A E s (do let x ←elem' (p.map (kas_item it)) i;let y ←elem' (p.map (kas_item it)) j;lt' x y) Q (ts κ it P p)
 exact aC (bD (pK a hi) (aC (bD (pK a hj) (uS hc rfl (a.lt hi) (a.lt hj) h))))
theorem XG{i j:Nat}{Q:Unit→SortSt→Prop}(h:Q () (ts κ it P (kas_rev p i j))):SK prog w A E s (reverseSlice' i j) Q (ts κ it P p):=by
 rw[reverseSlice'_eq];refine bM ?_;have e1:mirror (p.map (kas_item it)) i j ((j-i) / 2)=(mirror p i j ((j-i) / 2)).map (kas_item it):=kas_swaps_map (kas_item it) (fun k=>i+k) (fun k=>j-1-k) _ p
 show Q () (SortSt.mk' κ (mirror (p.map (kas_item it)) i j ((j-i) / 2)) P 7 none)
 rw[e1];exact h
theorem OI{k l:Nat}{Q:Unit→SortSt→Prop}(h:Q () (ts κ it P (bubble p k (k-l)))):SK prog w A E s (moveDown' k l) Q (ts κ it P p):=by
 rw[moveDown'_eq];refine bM ?_;have e1:bubble (p.map (kas_item it)) k (k-l)=(bubble p k (k-l)).map (kas_item it):=kas_swaps_map (kas_item it) (fun i=>k-i) (fun i=>k-i-1) _ p
 show Q () (SortSt.mk' κ (bubble (p.map (kas_item it)) k (k-l)) P 7 none)
 rw[e1];exact h
def bw(lt:Nat→Nat→Bool)(p:Array Nat)(a b:Nat):Prop:=∀i j,a≤i→i<j→j<b→lt (fp p i) (fp p j)=true
def qf(lt:Nat→Nat→Bool)(p:Array Nat)(a b:Nat):Prop:=∀i j,a≤i→i<j→j<b→lt (fp p j) (fp p i)=true
theorem sI{i j:Nat}(hj:j≤p.size)(k:Nat):fp (kas_rev p i j) k=if i≤k∧k<j then fp p (i+j-1-k) else fp p k:=by
 have e:=getElem?_mirror_all (i:=i) hj k
 unfold kas_rev
 by_cases h:i≤k∧k<j
 ·rw[if_pos h];rw[if_pos h]at e;exact iT e
 ·rw[if_neg h];rw[if_neg h]at e;exact iT e
theorem JW(o:Ord n lt)(a:Prm n p){lo m:Nat}(hm:lo+m<n)(h1:1≤m)(h:bw lt p lo (lo+m))(hs:lt (fp p (lo+m-1)) (fp p (lo+m))=true):bw lt p lo (lo+(m+1)):=fun i j hi dc hj=>by
 by_cases e:j=lo+m
 ·rw[e]
  by_cases e':i=lo+m-1
  ·rw[e'];exact hs
  ·exact o.tra _ _ _ (a.lt (by lia)) (a.lt (by lia)) (a.lt (by lia)) (h i (lo+m-1) hi (by lia) (by lia)) hs
 ·exact h i j hi dc (by lia)
theorem LC(o:Ord n lt)(a:Prm n p){lo m:Nat}(hm:lo+m<n)(h1:1≤m)(h:qf lt p lo (lo+m))(hs:lt (fp p (lo+m)) (fp p (lo+m-1))=true):qf lt p lo (lo+(m+1)):=fun i j hi dc hj=>by
 by_cases e:j=lo+m
 ·rw[e]
  by_cases e':i=lo+m-1
  ·rw[e'];exact hs
  ·exact o.tra _ _ _ (a.lt (by lia)) (a.lt (by lia)) (a.lt (by lia)) hs (h i (lo+m-1) hi (by lia) (by lia))
 ·exact h i j hi dc (by lia)
theorem LX(hc:fk prog w A κ it n lt s)(o:Ord n lt)(a:Prm n p){lo b7 m0:Nat}(h1:1≤m0)(hle:m0≤b7)(hn:lo+b7≤n)(hi:bw lt p lo (lo+m0)) :
  SK prog w A E s (forIn [m0:b7] ((none,m0):Option (Option Nat)×Nat) fun x bj=>do
    let p6 ←ltAt' (lo+bj.snd) (lo+bj.snd-1)
    match p6 with
     |some smaller=>if smaller=true then pure (ForInStep.done (none,bj.snd)) else pure (ForInStep.yield (none,bj.snd+1))
     |x=>pure (ForInStep.done (some none,bj.snd))) (fun b st=>st=ts κ it P p∧∃m,b=(none,m)∧m0≤m∧m≤b7∧bw lt p lo (lo+m)∧(m<b7→lt (fp p (lo+m)) (fp p (lo+m-1))=true)) (ts κ it P p):=by
 refine gZ (fun i b st=>st=ts κ it P p∧b=(none,m0+i)∧bw lt p lo (lo+(m0+i))) ⟨rfl,rfl,hi⟩ ?_ ?_
 ·rintro x i b st dw ⟨rfl,rfl,h⟩;dsimp only;have l1:lo+(m0+i)<n:=by lia
  have l2:lo+(m0+i)-1<n:=by lia
  refine aC (kG hc a l1 l2 ?_);dsimp only
  by_cases c:lt (fp p (lo+(m0+i))) (fp p (lo+(m0+i)-1))=true
  ·rw[if_pos c];exact aF ⟨rfl,_,rfl,by lia,by lia,h,fun _=>c⟩
  ·rw[if_neg c];exact aF ⟨rfl,rfl,JW (m:=m0+i) o a l1 (by lia) h (o.tot _ _ (a.lt l1) (a.lt l2) (a.ne l1 l2 (show lo+(m0+i)≠lo+(m0+i)-1 by lia)) (by simpa using c))⟩
 ·rintro b st ⟨rfl,rfl,h⟩;exact⟨rfl,_,rfl,by lia,by lia,h,fun z=>by lia⟩
theorem wQ(hc:fk prog w A κ it n lt s)(o:Ord n lt)(a:Prm n p){lo b7:Nat}(h1:1≤b7)(hn:lo+b7≤n){Q:Option Nat→SortSt→Prop}(h:∀m p',Prm n p'→1≤m→m≤b7→(∀i,i<lo→fp p' i=fp p i)→bw lt p' lo (lo+m)→Q (some m) (ts κ it P p')):SK prog w A E s (countRun' lo b7) Q (ts κ it P p):=by
 have sz:=a.size
 unfold countRun';refine aC (bP (LX hc o a (qm 1) h1 hn fun i j _ _ _=>by lia) ?_)
 rintro b st ⟨rfl,m,rfl,g1,g2,g3,g4⟩;dsimp only
 by_cases e1:(m == b7)=true
 ·rw[if_pos e1];exact aF (h m p a g1 g2 (fun _ _=>rfl) g3)
 rw[if_neg e1];have e1':m≠b7:=fun z=>e1 (by rw[z];exact beq_self_eq_true _)
 by_cases e2:m > 1
 ·rw[if_pos e2];refine aC (kG hc a (by lia) (by lia) ?_)
  dsimp only;rw[if_pos (g3 lo (lo+m-1) (qm _) (by lia) (by lia))]
  exact aF (h m p a g1 g2 (fun _ _=>rfl) g3)
 rw[if_neg e2];have em:m=1:=by lia
 subst em;refine aC (gY ?_);have d2:qf lt p lo (lo+2):=fun i j hi dc hj=>by
  rw[show i=lo by lia,show j=lo+1 by lia]
  exact g4 (by lia)
 refine aC (bP (gZ (Q:=fun b st=>st=ts κ it P p∧∃m,b=((none,m,0):Option (Option Nat)×Nat×Nat)∧2≤m∧m≤b7∧qf lt p lo (lo+m)) (fun i b st=>st=ts κ it P p∧b=(none,1+1+i,0)∧qf lt p lo (lo+(1+1+i))) ⟨rfl,rfl,d2⟩ ?_ ?_) ?_)
 ·rintro x i b st dw ⟨rfl,rfl,d⟩;dsimp only;have l1:lo+(1+1+i)<n:=by lia
  have l2:lo+(1+1+i)-1<n:=by lia
  refine aC (kG hc a l1 l2 ?_);dsimp only
  by_cases c:lt (fp p (lo+(1+1+i))) (fp p (lo+(1+1+i)-1))=true
  ·rw[if_pos c,if_neg (by lia)]
   exact aF ⟨rfl,rfl,LC (m:=1+1+i) o a l1 (by lia) d c⟩
  ·rw[if_neg c];refine aC (kG hc a l2 l1 ?_);dsimp only;rw[if_pos (o.tot _ _ (a.lt l1) (a.lt l2) (a.ne l1 l2 (by lia)) (by simpa using c))]
   exact aF ⟨rfl,_,rfl,by lia,by lia,d⟩
 ·rintro b st ⟨rfl,rfl,d⟩;exact⟨rfl,_,rfl,by lia,by lia,d⟩
 ·rintro b st ⟨rfl,m,rfl,k1,k2,d⟩;dsimp only;rw[if_neg (by lia)]
  refine aC (XG ?_);have hj:lo+m≤p.size:=by lia
  have a':Prm n (kas_rev p lo (lo+m)):=a.perm (mirror_perm _ _ _ _)
  have i':bw lt (kas_rev p lo (lo+m)) lo (lo+m):=fun i j hi dc hj'=>by
   rw[sI hj,sI hj,if_pos ⟨by lia,by lia⟩,if_pos ⟨by lia,hj'⟩]
   exact d _ _ (by lia) (by lia) (by lia)
  refine aC (bP (LX hc o a' (by lia) k2 hn i') ?_)
  rintro b st ⟨rfl,m',rfl,q1,q2,q3,q4⟩;exact aF (h m' _ a' (by lia) q2 (fun i hi=>by rw[sI hj,if_neg (by lia)]) q3)
theorem HU(hc:fk prog w A κ it n lt s)(o:Ord n lt)(a:Prm n p){lo k:Nat}(hk:lo+k<n)(h:bw lt p lo (lo+k)) :
  SK prog w A E s (forIn [0:k] ((none,0,k):Option Bool×Nat×Nat) fun x bj =>
   if bj.snd.fst ≥ bj.snd.snd then pure (ForInStep.done (none,bj.snd.fst,bj.snd.snd))
   else do
    let p6 ←ltAt' (lo+k) (lo+(bj.snd.fst+bj.snd.snd) / 2)
    match p6 with
     |some less=>if less=true then pure (ForInStep.yield (none,bj.snd.fst,(bj.snd.fst+bj.snd.snd) / 2)) else pure (ForInStep.yield (none,(bj.snd.fst+bj.snd.snd) / 2+1,bj.snd.snd))
     |x=>pure (ForInStep.done (some false,bj.snd.fst,bj.snd.snd))) (fun b st=>st=ts κ it P p∧∃l r,b=(none,l,r)∧l≤k∧(∀i,i<l→lt (fp p (lo+i)) (fp p (lo+k))=true)∧(∀i,l≤i→i<k→lt (fp p (lo+k)) (fp p (lo+i))=true)) (ts κ it P p):=by
 refine gZ (fun t b st=>st=ts κ it P p∧∃l r,b=(none,l,r)∧l≤r∧r≤k∧r-l≤k-t∧(∀i,i<l→lt (fp p (lo+i)) (fp p (lo+k))=true)∧(∀i,r≤i→i<k→lt (fp p (lo+k)) (fp p (lo+i))=true)) ⟨rfl,_,_,rfl,by lia,by lia,by lia,fun i hi=>by lia,fun i h1 h2=>by lia⟩ ?_ ?_
 ·rintro x t b st ht ⟨rfl,l,r,rfl,h1,h2,h3,h4,h5⟩;dsimp only
  by_cases c:l ≥ r
  ·rw[if_pos c];exact aF ⟨rfl,_,_,rfl,by lia,h4,fun i z1 z2=>h5 i (by lia) z2⟩
  ·rw[if_neg c];have l2:lo+(l+r) / 2<n:=by lia
   refine aC (kG hc a hk l2 ?_);dsimp only
   by_cases d:lt (fp p (lo+k)) (fp p (lo+(l+r) / 2))=true
   ·rw[if_pos d];refine aF ⟨rfl,_,_,rfl,by lia,by lia,by lia,h4,fun i z1 z2=>?_⟩
    by_cases e:i=(l+r) / 2
    ·rw[e];exact d
    ·exact o.tra _ _ _ (a.lt hk) (a.lt l2) (a.lt (by lia)) d (h _ _ (by lia) (by lia) (by lia))
   ·rw[if_neg d];have d':=o.tot _ _ (a.lt hk) (a.lt l2) (a.ne hk l2 (by lia)) (by simpa using d)
    refine aF ⟨rfl,_,_,rfl,by lia,by lia,by lia,fun i z1=>?_,h5⟩
    by_cases e:i=(l+r) / 2
    ·rw[e];exact d'
    ·exact o.tra _ _ _ (a.lt (by lia)) (a.lt l2) (a.lt hk) (h _ _ (by lia) (by lia) (by lia)) d'
 ·rintro b st ⟨rfl,l,r,rfl,h1,h2,h3,h4,h5⟩;exact⟨rfl,_,_,rfl,by lia,h4,fun i z1 z2=>h5 i (by lia) z2⟩
theorem LO(hc:fk prog w A κ it n lt s)(o:Ord n lt)(a:Prm n p){lo m ok:Nat}(h1:1≤ok)(hm:ok≤m)(hn:lo+m≤n)(hi:bw lt p lo (lo+ok)){Q:Bool→SortSt→Prop}(h:∀p',Prm n p'→(∀i,i<lo→fp p' i=fp p i)→bw lt p' lo (lo+m)→Q true (ts κ it P p')):SK prog w A E s (binarySort' lo m ok) Q (ts κ it P p):=by
 rw[binarySort'_eq,Nat.max_eq_left h1];refine aC (bP (OK (Q:=fun b st=>b=((none,()):Option Bool×Unit)∧∃p',st=ts κ it P p'∧Prm n p'∧(∀i,i<lo→fp p' i=fp p i)∧bw lt p' lo (lo+m)) (fun k b st=>b=(none,())∧∃p',st=ts κ it P p'∧Prm n p'∧(∀i,i<lo→fp p' i=fp p i)∧bw lt p' lo (lo+k)) ⟨rfl,p,rfl,a,fun _ _=>rfl,hi⟩ ?_ ?_) ?_)
 ·rintro k b st hk ⟨rfl,p',rfl,a',f',i'⟩;have sz:=a'.size
  refine aC (bP (HU hc o a' (by lia) i') ?_)
  rintro b st ⟨rfl,l,r,rfl,g1,g2,g3⟩;refine aC (OI (aF ⟨rfl,_,rfl,a'.perm (bubble_perm _ _ _),fun i z=>?_,fun i j z1 z2 z3=>?_⟩))
  ·rw[lQ (by lia) (by lia),if_neg (by lia),if_neg (by lia),f' i z]
  ·have e1:=lQ (p:=p') (k:=lo+k) (d:=lo+k-(lo+l)) (by lia) (by lia) i
   have e2:=lQ (p:=p') (k:=lo+k) (d:=lo+k-(lo+l)) (by lia) (by lia) j
   rw[e1,e2];have ek:lo+k-(lo+k-(lo+l))=lo+l:=by lia
   rw[ek]
   by_cases c1:i=lo+l
   ·rw[if_pos c1,if_neg (by lia),if_pos (by lia)]
    rw[show j-1=lo+(j-1-lo) by lia]
    exact g3 _ (by lia) (by lia)
   ·rw[if_neg c1]
    by_cases c2:lo+l<i∧i≤lo+k
    ·rw[if_pos c2,if_neg (by lia),if_pos (by lia)]
     exact i' _ _ (by lia) (by lia) (by lia)
    ·rw[if_neg c2]
     by_cases c3:j=lo+l
     ·rw[if_pos c3,show i=lo+(i-lo) by lia]
      exact g2 _ (by lia)
     ·rw[if_neg c3]
      by_cases c4:lo+l<j∧j≤lo+k
      ·rw[if_pos c4];exact i' _ _ (by lia) (by lia) (by lia)
      ·rw[if_neg c4];exact i' _ _ (by lia) (by lia) (by lia)
 ·rintro b st ⟨rfl,p',rfl,a',f',i'⟩;rw[show max ok m=m by lia]at i'
  exact⟨rfl,p',rfl,a',f',i'⟩
 ·rintro b st ⟨rfl,p',rfl,a',f',i'⟩;exact aF (h p' a' f' i')
end
section
variable {prog:vc}{w:World}{A:Around}{E:vd}{κ:SortKind}{it:Array Keyed}{n:Nat}{lt:Nat→Nat→Bool}{s:Shared}{P:Array (Nat×Nat×Nat)}{p:Array Nat}
theorem KB{l:List Nat}{i:Nat}(h:i<l.length):l[i]?=some (fp l.toArray i):=by
 unfold fp;rw[getD_eq_getD_getElem?,List.getElem?_toArray,qj h];rfl
noncomputable def sl(l:List Nat)(a b:Nat):List Nat:=(l.drop a).take (b-a)
theorem pR{l:List Nat}{a b i:Nat}(h:a+i<b)(hb:b≤l.length):(sl l a b)[i]?=some (fp l.toArray (a+i)):=by
 unfold sl;rw[List.getElem?_take,if_pos (by lia),getElem?_drop,KB (by lia)]
theorem gM{l:List Nat}{a b:Nat}(hb:b≤l.length):(sl l a b).length=b-a:=by
 unfold sl;rw[tm,v3];lia
theorem xK{l:List Nat}{a b c:Nat}(h1:a≤b)(h2:b≤c):sl l a b++sl l b c=sl l a c:=by
 unfold sl;rw[show c-a=(b-a)+(c-b) by lia,List.take_add,List.drop_drop,show a+(b-a)=b by lia]
theorem XE{l:List Nat}:sl l 0 l.length=l:=by
 unfold sl;rw[drop_zero,Nat.sub_zero,uy]
theorem fM{l:List Nat}{a b x:Nat}(hb:b≤l.length)(h:x∈sl l a b):∃i,a≤i∧i<b∧x=fp l.toArray i:=by
 obtain⟨i,e⟩:=List.getElem?_of_mem h;have hi:=(q8.mp e).1
 rw[gM hb]at hi;rw[pR (by lia) hb]at e
 exact⟨a+i,by lia,by lia,(qw e).symm⟩
theorem zN{l:List Nat}{a b:Nat}(hb:b≤l.length)(h:bw lt l.toArray a b):So lt (sl l a b):=by
 refine List.pairwise_iff_getElem.mpr fun i j hi hj dc=>?_
 have hi':=hi
 have hj':=hj
 rw[gM hb]at hi' hj';rw[(q8.mp (pR (l:=l) (a:=a) (b:=b) (i:=i) (by lia) hb)).2,(q8.mp (pR (l:=l) (a:=a) (b:=b) (i:=j) (by lia) hb)).2]
 exact h _ _ (by lia) (by lia) (by lia)
theorem aAh{l:List Nat}(h:So lt l):bw lt l.toArray 0 l.length:=fun i j _ dc hj =>
 GQ h (KB (by lia)) (KB hj) dc
theorem HJ{sa:Nat}(zs:List Keyed):∀(k:Nat) (X Y D:List Keyed),Y.length=zs.length→X.length=sa+k→(zs.zipIdx k).foldl (fun a (x:Keyed×Nat)=>a.setIfInBounds (sa+x.2) x.1) (X++(Y++D)).toArray=(X++(zs++D)).toArray:=by
 induction zs with
 |nil =>
  intro k X Y D h hx;rw[sr.mp h];rfl
 |cons z zs ih =>
  intro k X Y D h hx;obtain⟨y,Y',rfl⟩:∃y Y',Y=y::Y':=by
   cases Y with
   |nil=>cases h
   |cons y Y'=>exact⟨y,Y',rfl⟩
  have e:(X++(y::Y'++D)).toArray.setIfInBounds (sa+k) z=((X++[z])++(Y'++D)).toArray:=by
   rw[List.setIfInBounds_toArray,←hx,List.set_append_right _ _ (qm _),Nat.sub_self];simp
  show (zs.zipIdx (k+1)).foldl _ ((X++(y::Y'++D)).toArray.setIfInBounds (sa+k) z)=_
  rw[e,ih (k+1) (X++[z]) Y' D (Nat.succ.inj h) (by rw[sk,hx];rfl)]
  simp
theorem yF(hc:fk prog w A κ it n lt s)(o:Ord n lt){l:List Nat}(a:Prm n l.toArray){n1 pw:Nat}(h1:0<n1)(h2:n1<n)(i1:bw lt l.toArray 0 n1)(i2:bw lt l.toArray n1 n){Q:Bool→SortSt→Prop}
  (h:∀ae p',arrOf ae=p'.map (kas_item it)→failedOf ae=none→pendingOf ae=#[(0,n,pw)]→Prm n p'→bw lt p' 0 n→Q true ae):SK prog w A E s (mergeAt' 0) Q (ts κ it #[(0,n1,pw),(n1,n-n1,0)] l.toArray):=by
 have sz:l.length=n:=by have:=a.size;simpa using this
 have pm:l.Perm (List.range n):=a.pm
 have nd:l.Nodup:=pm.nodup_iff.mpr List.nodup_range
 have arr:l.toArray.map (kas_item it)=aK it l:=by unfold aK;simp
 obtain⟨k,hk,ek⟩:=bound n1 (fun i=>!lt (fp l.toArray n1) (fp l.toArray i)) fun i j dc hj hf=>by
  have c:=o.tot _ _ (a.lt h2) (a.lt (show j<n by lia)) (a.ne h2 (show j<n by lia) (by lia)) (by simpa using hf)
  have d:=o.tra _ _ _ (a.lt (show i<n by lia)) (a.lt (show j<n by lia)) (a.lt h2) (i1 i j (by lia) dc hj) c
  show (!lt (fp l.toArray n1) (fp l.toArray i))=true
  rw[o.asy _ _ (a.lt (show i<n by lia)) (a.lt h2) d];rfl
 obtain⟨m,hm,em⟩:=bound (n-n1) (fun i=>lt (fp l.toArray (n1+i)) (fp l.toArray (n1-1))) fun i j dc hj hf =>
  o.tra _ _ _ (a.lt (show n1+i<n by lia)) (a.lt (show n1+j<n by lia)) (a.lt (show n1-1<n by lia)) (i2 (n1+i) (n1+j) (by lia) (by lia) (by lia)) hf
 have lo:∀i,i<k→lt (fp l.toArray i) (fp l.toArray n1)=true:=fun i hi=>by
  have:=ek i (by lia)
  rw[sv hi]at this;exact o.tot _ _ (a.lt h2) (a.lt (show i<n by lia)) (a.ne h2 (show i<n by lia) (by lia)) (by simpa using this)
 have hi:∀i,n1+m≤i→i<n→lt (fp l.toArray (n1-1)) (fp l.toArray i)=true:=fun i z1 z2=>by
  have:=em (i-n1) (by lia)
  rw[qp (by lia),show n1+(i-n1)=i by lia]at this
  exact o.tot _ _ (a.lt z2) (a.lt (show n1-1<n by lia)) (a.ne z2 (show n1-1<n by lia) (by lia)) this
 have whole:lt (fp l.toArray (n1-1)) (fp l.toArray n1)=true→bw lt l.toArray 0 n:=fun z i j _ dc hj=>by
  by_cases c:j<n1
  ·exact i1 i j (by lia) dc c
  ·by_cases d:n1≤i
   ·exact i2 i j d dc hj
   ·have b1:lt (fp l.toArray i) (fp l.toArray n1)=true:=by
     by_cases e:i=n1-1
     ·rw[e];exact z
     ·exact o.tra _ _ _ (a.lt (show i<n by lia)) (a.lt (show n1-1<n by lia)) (a.lt h2) (i1 i (n1-1) (by lia) (by lia) (by lia)) z
    by_cases e:j=n1
    ·rw[e];exact b1
    ·exact o.tra _ _ _ (a.lt (show i<n by lia)) (a.lt h2) (a.lt hj) b1 (i2 n1 j (by lia) (by lia) hj)
 have pend:(((#[(0,n1,pw),(n1,n-n1,0)]:Array (Nat×Nat×Nat)).setIfInBounds 0 (0,n1+(n-n1),pw)).eraseIdxIfInBounds (0+1))=#[(0,n,pw)]:=by
  rw[show n1+(n-n1)=n by lia]
  simp[Array.eraseIdxIfInBounds]
 unfold mergeAt';refine aC (eF ?_);refine aC (XF ?_);refine aC (bD (pK a h2) ?_);refine aC (fJ hc (m:=k) (q:=fun i=>fp l.toArray i) rfl (a.lt h2) (fun i z=>a.lt (by lia)) (fun i z=>by rw[sj];exact pK a (by lia)) ek hk h1 ?_)
 dsimp only
 by_cases c1:n1-k=0
 ·rw[if_pos (by rw[c1];rfl)]
  refine aF (h _ l.toArray rfl rfl pend a (whole (lo _ (by lia))))
 rw[if_neg (by simpa using c1)]
 have eb:0+k+(n1-k)-1=n1-1:=by lia
 refine aC (bD (x:=kas_item it (fp l.toArray (n1-1))) (by rw[eb];exact pK a (by lia)) ?_)
 refine aC (fJ hc (m:=m) (q:=fun i=>fp l.toArray (n1+i)) rfl (a.lt (by lia)) (fun i z=>a.lt (by lia)) (fun i z=>pK a (by lia)) em hm (by lia) ?_)
 dsimp only
 by_cases c2:m=0
 ·rw[if_pos (by rw[c2];rfl)]
  refine aF (h _ l.toArray rfl rfl pend a (whole (hi n1 (by lia) h2)))
 rw[if_neg (by simpa using c2)]
 have ex:(arrOf (ts κ it #[(0,n1,pw),(n1,n-n1,0)] l.toArray)).extract (0+k) n1=aK it (sl l k n1):=by
  show (l.toArray.map (kas_item it)).extract (0+k) n1=_
  rw[arr,dH,sj];rfl
 have ey:(arrOf (ts κ it #[(0,n1,pw),(n1,n-n1,0)] l.toArray)).extract n1 (n1+m)=aK it (sl l n1 (n1+m)):=by
  show (l.toArray.map (kas_item it)).extract n1 (n1+m)=_
  rw[arr,dH];rfl
 have hl:sl l 0 k++((sl l k n1++sl l n1 (n1+m))++sl l (n1+m) n)=l:=by
  rw[xK hk (by lia),xK (by lia) (by lia),xK (by lia) (by lia),←sz,XE]
 have mn:∀{x a b},b≤n→x∈sl l a b→x<n:=fun {x a' b} hb hx=>by
  obtain⟨i,_,z,rfl⟩:=fM (by lia) hx
  exact a.lt (by lia)
 have g:MG lt n (sl l k n1) (sl l n1 (n1+m)):=⟨o,fun x=>mn (by lia),fun x=>mn (by lia),zN (by lia) fun i j z1 z2 z3=>i1 i j (by lia) z2 z3,zN (by lia) fun i j z1 z2 z3=>i2 i j z1 z2 (by lia),fun x hx y hy=>by
  obtain⟨i,u1,u2,rfl⟩:=fM (by lia) hx
  obtain⟨j,v1,v2,rfl⟩:=fM (by lia) hy
  exact a.ne (by lia) (by lia) (by lia)⟩
 have x0:(sl l k n1)[0]?=some (fp l.toArray k):=pR (by lia) (by lia)
 have y0:(sl l n1 (n1+m))[0]?=some (fp l.toArray n1):=pR (by lia) (by lia)
 have lx:(sl l k n1).length=n1-k:=gM (by lia)
 have ly:(sl l n1 (n1+m)).length=m:=by rw[gM (by lia)];lia
 have xl:(sl l k n1)[(sl l k n1).length-1]?=some (fp l.toArray (n1-1)):=by
  rw[lx,pR (by lia) (by lia),show k+(n1-k-1)=n1-1 by lia]
 have q1:lt (fp l.toArray n1) (fp l.toArray k)=true:=by
  have:=ek k (by lia)
  rw[qp (u0 k)]at this;simpa using this
 have q2:∀y∈sl l n1 (n1+m),lt y (fp l.toArray (n1-1))=true:=fun y hy=>by
  obtain⟨j,v1,v2,rfl⟩:=fM (by lia) hy
  have:=em (j-n1) (by lia)
  rw[sv (by lia),show n1+(j-n1)=j by lia]at this
  exact this
 have fin:∀r ae,Res lt it (sl l k n1) (sl l n1 (n1+m)) r→SS (SortSt.mk' κ (l.toArray.map (kas_item it)) ((#[(0,n1,pw),(n1,n-n1,0)]:Array (Nat×Nat×Nat)).setIfInBounds 0 (0,n1+(n-n1),pw) |>.eraseIdxIfInBounds (0+1)) 7 none) ae →
   SK prog w A E s (do modify fun s=>setArr s (r.toList.zipIdx.foldl (fun a (x:Keyed×Nat)=>a.setIfInBounds (0+k+x.2) x.1) (arrOf s));return (failedOf (←get)).isNone) Q ae:=fun r ae hr hs=>by
  obtain⟨zs,rfl,zp,zo⟩:=hr;refine aC (bM (aC (eF (aF ?_))));have ha:(aK it zs).toList.zipIdx.foldl (fun a (x:Keyed×Nat)=>a.setIfInBounds (0+k+x.2) x.1) (arrOf ae)=(sl l 0 k++(zs++sl l (n1+m) n)).toArray.map (kas_item it):=by
   rw[hs.2.1];show (aK it zs).toList.zipIdx.foldl (fun a (x:Keyed×Nat)=>a.setIfInBounds (0+k+x.2) x.1) (l.toArray.map (kas_item it))=_
   have e1:l.toArray.map (kas_item it)=((sl l 0 k).map (kas_item it)++(((sl l k n1++sl l n1 (n1+m)).map (kas_item it))++(sl l (n1+m) n).map (kas_item it))).toArray:=by
    rw[←uk,←uk,hl];simp
   rw[e1];refine(HJ (zs.map (kas_item it)) 0 ((sl l 0 k).map (kas_item it)) ((sl l k n1++sl l n1 (n1+m)).map (kas_item it)) ((sl l (n1+m) n).map (kas_item it)) (by rw[ql,ql,zp.length_eq]) (by rw[ql,gM (by lia)];lia)).trans ?_
   simp
  show Q ((failedOf ae).isNone) _
  rw[hs.2.2.2];have pm':(sl l 0 k++(zs++sl l (n1+m) n)).Perm l:=by
   have:=((zp.append_right (sl l (n1+m) n)).append_left (sl l 0 k))
   rwa [hl]at this
  have so':So lt (sl l 0 k++(zs++sl l (n1+m) n)):=by
   have up:∀i j,i<k→n1≤j→j<n→lt (fp l.toArray i) (fp l.toArray j)=true:=fun i j z1 z2 z3=>by
    by_cases e:j=n1
    ·rw[e];exact lo i z1
    ·exact o.tra _ _ _ (a.lt (show i<n by lia)) (a.lt h2) (a.lt z3) (lo i z1) (i2 n1 j (by lia) (by lia) z3)
   refine eW (zN (by lia) fun i j z1 z2 z3=>i1 i j z1 z2 (by lia)) (eW zo (zN (by lia) fun i j z1 z2 z3=>i2 i j (by lia) z2 z3) fun z hz d hd=>?_) fun x hx y hy=>?_
   ·obtain⟨j,v1,v2,rfl⟩:=fM (by lia) hd
    rcases v9.mp (zp.mem_iff.mp hz) with hz|hz
    ·obtain⟨i,u1,u2,rfl⟩:=fM (by lia) hz
     by_cases e:i=n1-1
     ·rw[e];exact hi j v1 v2
     ·exact o.tra _ _ _ (a.lt (show i<n by lia)) (a.lt (show n1-1<n by lia)) (a.lt v2) (i1 i (n1-1) (by lia) (by lia) (by lia)) (hi j v1 v2)
    ·obtain⟨i,u1,u2,rfl⟩:=fM (by lia) hz
     exact i2 i j u1 (by lia) v2
   ·obtain⟨i,u1,u2,rfl⟩:=fM (by lia) hx
    rcases v9.mp hy with hy|hy
    ·rcases v9.mp (zp.mem_iff.mp hy) with hy|hy
     ·obtain⟨j,v1,v2,rfl⟩:=fM (by lia) hy
      exact i1 i j (by lia) (by lia) v2
     ·obtain⟨j,v1,v2,rfl⟩:=fM (by lia) hy
      exact up i j u2 v1 (by lia)
    ·obtain⟨j,v1,v2,rfl⟩:=fM (by lia) hy
     exact up i j u2 (by lia) v2
  have len':(sl l 0 k++(zs++sl l (n1+m) n)).length=n:=pm'.length_eq.trans sz
  have in':=aAh so'
  rw[len']at in';exact h _ _ ha hs.2.2.2 (hs.2.2.1.trans pend) ⟨pm'.trans pm⟩ in'
 rw[ex,ey]
 by_cases c3:n1-k≤m
 ·rw[if_pos c3];exact aC (yD hc g x0 y0 q1 xl q2 rfl fun r ae hr hs=>fin r ae hr hs)
 ·rw[if_neg c3];exact aC (yE hc g x0 y0 q1 xl q2 rfl fun r ae hr hs=>fin r ae hr hs)
end
section
variable {prog:vc}{w:World}{A:Around}{E:vd}{κ:SortKind}{it:Array Keyed}{n:Nat}{lt:Nat→Nat→Bool}{s:Shared}
def p7(κ:SortKind)(it:Array Keyed)(n:Nat)(lt:Nat→Nat→Bool)(i lo:Nat)(st:SortSt):Prop:=
 (i=0∧lo=0∧∃p,st=ts κ it #[] p∧Prm n p) ∨
 (1≤i∧0<lo∧lo≤n∧(lo<n→i=1∧n=64∧32≤lo)∧∃p,st=ts κ it #[(0,lo,0)] p∧Prm n p∧bw lt p 0 lo) ∨
 (lo=n∧∃p n1 pw,0<n1∧n1<n∧st=ts κ it #[(0,n1,pw),(n1,n-n1,0)] p∧Prm n p∧bw lt p 0 n1∧bw lt p n1 n)
theorem EK(h:n<64):minRun' n n 0=n:=by
 cases n with
 |zero=>rfl
 |succ r=>rw[minRun'_succ,if_pos h]
theorem EL:minRun' 64 64 0=32:=rfl
theorem ON(hc:fk prog w A κ it n lt s)(o:Ord n lt)(h2:2≤n)(h64:n≤64){Q:Unit→SortSt→Prop}(h:∀ae p',arrOf ae=p'.map (kas_item it)→failedOf ae=none→Prm n p'→bw lt p' 0 n→Q () ae):SK prog w A E s sortRuns' Q (ts κ it #[] (List.range n).toArray):=by
 have hmr:∃mr,minRun' n n 0=mr∧mr≤n∧(n<64→mr=n)∧(n=64→mr=32):=by
  by_cases e:n<64
  ·exact⟨n,EK e,qm _,fun _=>rfl,fun z=>by lia⟩
  ·obtain rfl:n=64:=by lia
   exact⟨32,EL,by lia,fun z=>by lia,fun _=>rfl⟩
 obtain⟨mr,hmr,m1,m2,m3⟩:=hmr;rw[sortRuns'_eq];refine aC (eF ?_);have hsz:(arrOf (ts κ it #[] (List.range n).toArray)).size=n:=by
  show ((List.range n).toArray.map (kas_item it)).size=n
  simp
 dsimp only;rw[hsz,hmr];refine aC (bP (gZ (Q:=fun b st=>∃i lo,b=(none,lo)∧p7 κ it n lt i lo st∧n≤lo) (fun i b st=>∃lo,b=(none,lo)∧p7 κ it n lt i lo st) ⟨0,rfl,.inl ⟨rfl,rfl,_,rfl,⟨.refl _⟩⟩⟩ ?_ ?_) ?_)
 ·rintro x i b st hi ⟨lo,rfl,hS⟩;dsimp only
  by_cases hge:lo ≥ n
  ·rw[if_pos hge];exact aF ⟨i,lo,rfl,hS,hge⟩
  rw[if_neg hge]
  rcases hS with ⟨rfl,rfl,p,rfl,a⟩|⟨hi1,ot,hln,h64',p,rfl,a,i1⟩|⟨e,_⟩
  ·have fin:∀m p',Prm n p'→bw lt p' 0 (0+m)→0<m→m≤n→mr≤m→SK prog w A E s (do
     modify fun s=>setPending s ((pendingOf s).push (0,m,0))
     pure (ForInStep.yield ((none,0+m):Option Unit×Nat))) (fun r ae=>match r with | .done b'=>∃i lo,b'=(none,lo)∧p7 κ it n lt i lo ae∧n≤lo | .yield b'=>∃lo,b'=(none,lo)∧p7 κ it n lt (0+1) lo ae) (ts κ it #[] p'):=fun m p' a' i' z1 z2 z3=>by
    refine aC (bM (aF ⟨_,rfl,.inr (.inl ⟨by lia,by lia,by lia,fun z=>?_,p',?_,a',i'⟩)⟩))
    ·exact⟨rfl,by lia,by lia⟩
    ·rw[sj];rfl
   refine aC (wQ hc o a (by lia) (by lia) fun m p' a' g1 g2 g3 g4=>?_)
   dsimp only
   by_cases dw:m<mr
   ·rw[if_pos dw];refine aC (gY ?_);refine aC (LO hc o a' g1 (m:=min (n-0) mr) (by lia) (by lia) g4 fun lj a'' f'' i''=>?_)
    simp only[so,qr,if_false];refine aC (eF ?_);exact fin _ lj a'' i'' (by lia) (by lia) (by lia)
   ·rw[if_neg dw];refine aC (eF ?_);exact fin _ p' a' g4 (by lia) (by lia) (by lia)
  ·obtain⟨rfl,e64,h32⟩:=h64' (by lia)
   have em:mr=32:=m3 e64
   have fin:∀m p' pw,m=n-lo→Prm n p'→bw lt p' 0 lo→bw lt p' lo (lo+m)→∃lo',((none,lo+m):Option Unit×Nat)=(none,lo')∧p7 κ it n lt (1+1) lo' (ts κ it #[(0,lo,pw),(lo,m,0)] p'):=fun m p' pw z1 a' i1' i2'=>by
    refine⟨_,rfl,.inr (.inr ⟨by lia,p',lo,pw,ot,by lia,by rw[z1],a',i1',?_⟩)⟩
    rwa [show lo+m=n by lia]at i2'
   refine aC (wQ hc o a (by lia) (by lia) fun m p' a' g1 g2 g3 g4=>?_)
   have i1':bw lt p' 0 lo:=fun i j y1 y2 y3=>by rw[g3 i (by lia),g3 j y3];exact i1 i j y1 y2 y3
   dsimp only
   by_cases dw:m<mr
   ·rw[if_pos dw];refine aC (gY ?_);refine aC (LO hc o a' g1 (m:=min (n-lo) mr) (by lia) (by lia) g4 fun lj a'' f'' i''=>?_)
    simp only[so,qr,if_false];refine aC (eF ?_);rw[show (pendingOf (ts κ it #[(0,lo,0)] lj)).back?=some (0,lo,0) from rfl]
    dsimp only;refine aC (bP (gZ (Q:=fun b st=>b=(none,())∧st=ts κ it #[(0,lo,0)] lj) (fun _ b st=>b=(none,())∧st=ts κ it #[(0,lo,0)] lj) ⟨rfl,rfl⟩ ?_ fun _ _ z=>z) ?_)
    ·rintro x i b st _ ⟨rfl,rfl⟩;exact aC (eF (aF ⟨rfl,rfl⟩))
    ·rintro b st ⟨rfl,rfl⟩;exact aC (bM (aC (bM (aF (fin _ lj _ (by lia) a'' (fun i j y1 y2 y3=>by rw[f'' i (by lia),f'' j y3];exact i1' i j y1 y2 y3) i'')))))
   ·rw[if_neg dw];refine aC (eF ?_);rw[show (pendingOf (ts κ it #[(0,lo,0)] p')).back?=some (0,lo,0) from rfl]
    dsimp only;refine aC (bP (gZ (Q:=fun b st=>b=(none,())∧st=ts κ it #[(0,lo,0)] p') (fun _ b st=>b=(none,())∧st=ts κ it #[(0,lo,0)] p') ⟨rfl,rfl⟩ ?_ fun _ _ z=>z) ?_)
    ·rintro x i b st _ ⟨rfl,rfl⟩;exact aC (eF (aF ⟨rfl,rfl⟩))
    ·rintro b st ⟨rfl,rfl⟩;exact aC (bM (aC (bM (aF (fin _ p' _ (by lia) a' i1' g4)))))
  ·lia
 ·rintro b st ⟨lo,rfl,hS⟩;refine⟨_,lo,rfl,hS,?_⟩
  rcases hS with ⟨e,_⟩|⟨_,_,_,e,_⟩|⟨e,_⟩
  ·lia
  ·by_cases z:lo<n
   ·have:=(e z).1;lia
   ·lia
  ·lia
 ·rintro b st ⟨i,lo,rfl,hS,hge⟩;dsimp only;have fin:∀st p,arrOf st=p.map (kas_item it)→failedOf st=none→(pendingOf st).size=1→Prm n p→bw lt p 0 n→True:=fun _ _ _ _ _ _ _=>trivial
  refine aC (bP (gZ (Q:=fun b st=>b=(none,())∧∃p,arrOf st=p.map (kas_item it)∧failedOf st=none∧Prm n p∧bw lt p 0 n) (fun i b st=>b=(none,())∧((i=0∧∃p n1 pw,0<n1∧n1<n∧st=ts κ it #[(0,n1,pw),(n1,n-n1,0)] p∧Prm n p∧bw lt p 0 n1∧bw lt p n1 n)∨((pendingOf st).size=1∧∃p,arrOf st=p.map (kas_item it)∧failedOf st=none∧Prm n p∧bw lt p 0 n))) ⟨rfl,?_⟩ ?_ ?_) ?_)
  ·rcases hS with ⟨_,e,_⟩|⟨_,_,e,_,p,rfl,a,i1⟩|⟨_,p,n1,pw,z⟩
   ·lia
   ·obtain rfl:lo=n:=by lia
    exact .inr ⟨rfl,p,rfl,rfl,a,i1⟩
   ·exact .inl ⟨rfl,p,n1,pw,z⟩
  ·rintro x i b st hi ⟨rfl,hz⟩;refine aC (eF ?_)
   rcases hz with ⟨rfl,p,n1,pw,z1,z2,rfl,a,i1,i2⟩|⟨e,z⟩
   ·rw[if_neg (by show ¬2≤1;lia)]
    obtain⟨l⟩:=p;refine aC (yF hc o a z1 z2 i1 i2 fun ae p' y1 y2 y3 y4 y5=>?_)
    exact aF ⟨rfl,.inr ⟨by rw[y3];rfl,p',y1,y2,y4,y5⟩⟩
   ·rw[if_pos (by lia)]
    exact aF ⟨rfl,z⟩
  ·rintro b st ⟨rfl,⟨e,_⟩|⟨_,z⟩⟩
   ·lia
   ·exact⟨rfl,z⟩
  ·rintro b st ⟨rfl,p,y1,y2,y3,y4⟩;exact aF (h st p y1 y2 y3 y4)
theorem aCE{vs:List Value}(ask:∀i j C,i<vs.length→j<vs.length→C (lt i j) s→kas_ask prog w A κ vs i j C s)(o:Ord vs.length lt)(h2:2≤vs.length)(h64:vs.length≤64) :
  wpAny (model prog w) A ((sortRuns').run (SortSt.mk' κ (vs.toArray.zip vs.toArray) #[] 7 none)) (fun r s'=>s'=s∧∃p:Array Nat,Prm vs.length p∧nc lt p vs.length∧arrOf r.2=p.map (kas_item (vs.toArray.zip vs.toArray))∧failedOf r.2=none) E s:=by
 rw[kat_ask_eq rfl]at ask;have run:=ON (E:=E) (it:=vs.toArray.zip vs.toArray) (Q:=fun _ ae=>∃p:Array Nat,Prm vs.length p∧nc lt p vs.length∧arrOf ae=p.map (kas_item (vs.toArray.zip vs.toArray))∧failedOf ae=none) ask o h2 h64 fun ae p q1 q2 q3 q4=>⟨p,q3,fun i j z1 z2=>q4 i j (uw _) z1 z2,q1,q2⟩
 have est:SortSt.mk' κ (vs.toArray.zip vs.toArray) #[] 7 none=ts κ (vs.toArray.zip vs.toArray) #[] (List.range vs.length).toArray:=by
  have e:=kas_range (vs.toArray.zip vs.toArray)
  rw[show (vs.toArray.zip vs.toArray).size=vs.length by simp]at e
  show SortSt.mk' κ (vs.toArray.zip vs.toArray) #[] 7 none=SortSt.mk' κ ((List.toArray (List.range vs.length)).map (kas_item (vs.toArray.zip vs.toArray))) #[] 7 none
  rw[e]
 rw[est];exact run
end
end Z
namespace Z
open PySem PySem.Spec PySem.W PyProof.Rows L2 PySem.Calls
def Kept(g g':Heap):Prop:=∀b u,g.get? b=some u→g'.get? b=some u
section
variable {prog:vc}{w:World}{A:Around}{E:vd}{s:Shared}{vs:List Value}{lt:Nat→Nat→Bool}{κ:SortKind}
noncomputable def kJ(vs:List Value)(p:Array Nat):List Value:=p.toList.map fun i=>vs.getD i Value.none
theorem IF{p:Array Nat}(a:Prm vs.length p):(kJ vs p).length=vs.length:=by unfold kJ;rw[ql,length_toList,a.size]
theorem AE:kJ vs (List.toArray (List.range vs.length))=vs:=by
 unfold kJ;apply List.ext_getElem
 ·simp
 ·intro i h1 h2;simp[h2]
structure qb (prog:vc) (w:World) (A:Around) (κ:SortKind) (vs:List Value) (lt:Nat→Nat→Bool) (s:Shared):Prop where
 kind:2≤vs.length→∀(R:SortKind→Shared→Prop),R κ s→wpAny (model prog w) A (keyKind' vs.toArray) R (fun _ _=>False) s
 ask:∀i j C,i<vs.length→j<vs.length→C (lt i j) s→kas_ask prog w A κ vs i j C s
theorem OF{a:Addr}{n:Nat}{P:PySem.Fin→Shared→Prop}(ho:s.heap.get? a=some (seqObj "list" vs.toArray n))(o:Ord vs.length lt)(h64:vs.length≤64)
  (hl:∀g',(∀b u,b≠a→s.heap.get? b=some u→g'.get? b=some u)→qb prog w A κ vs lt { s with heap:=g' })
  (hP:∀g' p c,(∀b u,b≠a→s.heap.get? b=some u→g'.get? b=some u)→Prm vs.length p→nc lt p vs.length→g'.get? a=some (seqObj "list" (kJ vs p).toArray c)→P (.done (.ret .none)) { s with heap:=g' }) :
  wpAny (model prog w) A (Builtin.«list.sort» ⟨[.ref a],[]⟩) P E s:=by
 have dw:a<s.heap.objs.size:=rq ho
 have same1:=Heap.SameBut.update s.heap a (Obj.mapSeq fun _=>(#[]:Array Value))
 have hz:vs.length≤sizeLine:=by rw[sizeLine_eq];lia
 obtain⟨e1,i3⟩:∃e1,(s.heap.update a (Obj.mapSeq fun _=>(#[]:Array Value))).get? a=some (seqObj "list" #[] e1):=⟨_,get?_update_seq ho fun _=>#[]⟩
 rw[list_sort_plain];refine u7 (listItems_at ho rfl (u7 (listUpdate_at ho rfl (u7 (seqEpoch_at i3 rfl (u7 (wpAny_newTuple (u7 (wpAny_newList (wpAny_holding ?_) (uw _))) hz)))) (by rw[qu];exact hz) (uw _))))
 show wpAny (model prog w) A _ P E { s with heap:=((s.heap.update a (Obj.mapSeq fun _=>(#[]:Array Value))).push (seqObj "tuple" vs.toArray 0)).push (seqObj "list" #[] 0) }
 have kp:∀b u,(s.heap.update a (Obj.mapSeq fun _=>(#[]:Array Value))).get? b=some u→(((s.heap.update a (Obj.mapSeq fun _=>(#[]:Array Value))).push (seqObj "tuple" vs.toArray 0)).push (seqObj "list" #[] 0)).get? b=some u:=
  fun b u e=>qq _ (qq _ e)
 have kq:∀b u,b≠a→s.heap.get? b=some u→(((s.heap.update a (Obj.mapSeq fun _=>(#[]:Array Value))).push (seqObj "tuple" vs.toArray 0)).push (seqObj "list" #[] 0)).get? b=some u:=
  fun b u hb e=>kp b u ((same1.2 b hb).trans e)
 have cx:=kp a _ i3
 generalize ((s.heap.update a (Obj.mapSeq fun _=>(#[]:Array Value))).push (seqObj "tuple" vs.toArray 0)).push (seqObj "list" #[] 0)=g1 at *
 have L:=hl g1 kq
 have fin:∀p:Array Nat,Prm vs.length p→nc lt p vs.length→P (.done (.ret .none)) { s with heap:=g1.update a (Obj.mapSeq fun _=>(kJ vs p).toArray) }:=fun p pa inc=>by
  have same2:=Heap.SameBut.update g1 a (Obj.mapSeq fun _=>(kJ vs p).toArray)
  obtain⟨c2,f6⟩:∃c2,(g1.update a (Obj.mapSeq fun _=>(kJ vs p).toArray)).get? a=some (seqObj "list" (kJ vs p).toArray c2):=⟨_,get?_update_seq cx fun _=>(kJ vs p).toArray⟩
  exact hP _ p c2 (fun b u hb e=>(same2.2 b hb).trans (kq b u hb e)) pa inc f6
 dsimp only
 by_cases h2:vs.toArray.size<2
 ·have gk:vs.length<2:=by simpa using h2
  rw[if_pos h2,if_pos h2];refine u7 (ua ?_);rw[StateT.run_pure];refine u7 (ua ?_);dsimp only;have e0:(arrOf (SortSt.mk' general' (vs.toArray.zip vs.toArray) #[] 7 none)).map (·.2)=(kJ vs (List.toArray (List.range vs.length))).toArray:=by
   rw[AE];show (vs.toArray.zip vs.toArray).map (·.2)=_
   apply Array.toList_inj.mp;simp[List.map_snd_zip]
  rw[e0];refine u7 (seqEpoch_at cx rfl (u7 (listUpdate_at cx rfl ?_ (uw _) (by rw[AE,qu];exact le_succ_of_le hz))))
  simp only[bne_self_eq_false,qr,if_false];exact ua (fin _ ⟨by simp⟩ fun i j q1 q2=>by lia)
 ·have gk:2≤vs.length:=by
   have:¬vs.length<2:=by simpa using h2
   lia
  rw[if_neg h2,if_neg h2];refine u7 (ub (L.kind gk (fun k u=>k=κ∧u={ s with heap:=g1 }) ⟨rfl,rfl⟩) (fun k s0 hk=>?_) fun _ _ x=>x.elim)
  obtain⟨rfl,rfl⟩:=hk;refine u7 (ub (aCE L.ask o gk h64) ?_ fun _ _ x=>x)
  rintro⟨⟨⟩,ae⟩ s' ⟨rfl,p,pa,inc,har,hf⟩;dsimp only;have e0:(arrOf ae).map (·.2)=(kJ vs p).toArray:=kat_snds rfl har
  rw[e0];refine u7 (seqEpoch_at cx rfl (u7 (listUpdate_at cx rfl ?_ (uw _) (by rw[qu,IF pa];exact le_succ_of_le hz))))
  rw[hf];simp only[bne_self_eq_false,qr,if_false];exact ua (fin p pa inc)
theorem wZ{l:Addr}{Q:vd}(hl:s.heap.IsList l vs.toArray)(o:Ord vs.length lt)(h64:vs.length≤64)
  (hL:∀g',Kept s.heap g'→qb prog w A.in1.in1 κ vs lt { s with heap:=g' })
  (hQ:∀g' p c,Kept s.heap g'→Prm vs.length p→nc lt p vs.length→g'.get? (s.heap.objs.size+1)=some (seqObj "list" (kJ vs p).toArray c)→Q (.ref (s.heap.objs.size+1)) { s with heap:=g' }) :
  wpAny (model prog w) A (call (.builtin "sorted") [.ref l]) Q E s:=by
 have hz:vs.length≤sizeLine:=by rw[sizeLine_eq];lia
 refine Calls.call_function_entry kind_sorted plain_sorted entry_sorted (args_sorted1 _) ?_;unfold Builtin.«sorted»;refine u7 (m:=checkCount "sorted" 1 1 _) (ua (u7 (collect_list hl (u7 (wpAny_newList ?_ hz)) hz)));have sz:((s.heap.push (seqObj "list" #[] 0)).update s.heap.objs.size (Obj.mapSeq (·++vs.toArray))).objs.size=s.heap.objs.size+1:=by rw[Heap.size_update,size_push']
 have at1:(((s.heap.push (seqObj "list" #[] 0)).update s.heap.objs.size (Obj.mapSeq (·++vs.toArray))).push (seqObj "list" vs.toArray 0)).get? (s.heap.objs.size+1)=some (seqObj "list" vs.toArray 0):=by
  have:=uc ((s.heap.push (seqObj "list" #[] 0)).update s.heap.objs.size (Obj.mapSeq (·++vs.toArray))) (o:=seqObj "list" vs.toArray 0) rfl
  rw[sz]at this;exact this
 have kp:Kept s.heap (((s.heap.push (seqObj "list" #[] 0)).update s.heap.objs.size (Obj.mapSeq (·++vs.toArray))).push (seqObj "list" vs.toArray 0)):=fun b u e=>by
  have lb:b<s.heap.objs.size:=rq e
  have nb:b≠s.heap.objs.size:=tj lb
  rw[Heap.get?_push_ne _ _ _ (by rw[sz];exact tj (Nat.lt_succ_of_lt lb)),Heap.get?_update_ne _ _ _ _ nb,Heap.get?_push_ne _ _ _ nb]
  exact e
 show wpAny _ _ _ _ _ { s with heap:=((s.heap.push (seqObj "list" #[] 0)).update s.heap.objs.size (Obj.mapSeq (·++vs.toArray))).push (seqObj "list" vs.toArray 0) }
 rw[sz];generalize ((s.heap.push (seqObj "list" #[] 0)).update s.heap.objs.size (Obj.mapSeq (·++vs.toArray))).push (seqObj "list" vs.toArray 0)=g1 at *;have nk:∀b u,s.heap.get? b=some u→b≠s.heap.objs.size+1:=fun b u e=>tj (Nat.lt_succ_of_lt (rq e))
 refine u7 (wpAny_holding (wpAny_call_entry slot_list_sort ⟨_,at1,rfl⟩ entry_list_sort (OF (s:={ s with heap:=g1 }) (κ:=κ) (lt:=lt) at1 o h64 (fun g' k=>hL g' fun b u e=>k b u (nk b u e) (kp b u e)) fun g' p c k pa inc at2=>?_) (args_list_sort _)))
 exact⟨_,rfl,ua ⟨_,rfl,hQ g' p c (fun b u e=>k b u (nk b u e) (kp b u e)) pa inc at2⟩⟩
end
noncomputable def ax(ks:List (Int×Int))(i:Nat):Int×Int:=ks.getD i (0,0)
theorem JM{ks:List (Int×Int)}{i:Nat}(h:i<ks.length):ax ks i=ks[i]:=by unfold ax;simp[h]
theorem IG{ks:List (Int×Int)}(nd:ks.Nodup):Ord ks.length fun i j=>cv (ax ks i) (ax ks j):=by
 refine⟨fun a b ha hb ie e=>?_,fun a b ha hb e=>?_,fun a b c ha hb hc e1 e2=>?_⟩
 ·have:ax ks a≠ax ks b:=by
   rw[JM ha,JM hb];exact fun z=>ie ((List.getElem_inj nd).mp z)
  rw[mT]at e;rw[dI];have:¬((ax ks a).1=(ax ks b).1∧(ax ks a).2=(ax ks b).2):=fun q=>this (Prod.ext q.1 q.2)
  lia
 ·rw[dI]at e;rw[mT];lia
 ·rw[dI]at e1 e2 ⊢;lia
theorem JK{ks:List (Int×Int)}{p:Array Nat}(a:Prm ks.length p)(inc:nc (fun i j=>cv (ax ks i) (ax ks j)) p ks.length):p.toList.map (ax ks)=iL ks:=by
 refine nK ?_ ?_
 ·refine(a.pm.map _).trans (List.Perm.of_eq ?_);apply List.ext_getElem
  ·simp
  ·intro i h1 h2;simp[ax,h2]
 ·rw[pairwise_map,List.pairwise_iff_getElem];intro i j hi hj dc;have l1:=a.size
  have:=inc i j dc (by simpa [l1] using hj)
  have e:∀k (hk:k<p.toList.length),fp p k=p.toList[k]:=fun k hk=>by
   unfold fp;rw[getD_eq_getD_getElem?,Array.getElem?_eq_getElem (by simpa using hk)]
   simp
  rw[e i hi,e j hj]at this;exact this
section
variable {X:Cx}{T:Tx}{pins:ve}{σ:L2.St}{H:Hp}{s:Shared}{S:Addr→Prop}
def aFO(h:Heap)(v:Value)(k:Int×Int):Prop:=∃a o n t u,v=.ref a∧h.get? a=some o∧o.cls=.type "tuple"∧o.data=.seq #[.int k.1 t,.int k.2 u] n
noncomputable def gE(h:Heap):List Value→List (Int×Int)→Prop
 |[],ks=>ks=[]
 |v::r,ks=>∃k gg,ks=k::gg∧aFO h v k∧gE h r gg
theorem gE.kept{h h':Heap}(hk:Kept h h'):∀{vs:List Value} {ks:List (Int×Int)},gE h vs ks→gE h' vs ks
 |[],ks,e=>e
 |v::r,ks,⟨k,gg,e,⟨a,o,n,t,u,q1,q2,q3,q4⟩,q⟩=>⟨k,gg,e,⟨a,o,n,t,u,q1,hk _ _ q2,q3,q4⟩,gE.kept hk q⟩
theorem gE.get{h:Heap}:∀{vs:List Value} {ks:List (Int×Int)},gE h vs ks→∀i,i<vs.length→aFO h (vs.getD i Value.none) (ax ks i)
 |[],ks,e,i,hi=>by simp at hi
 |v::r,ks,⟨k,gg,e,q0,q⟩,0,_=>by subst e;exact q0
 |v::r,ks,⟨k,gg,e,q0,q⟩,i+1,hi=>by
  subst e;have:=gE.get q i (by simpa using hi)
  simpa [ax] using this
theorem gE.tups{h:Heap}:∀{vs:List Value} {ks:List (Int×Int)},gE h vs ks→∃fs:List Value,KatTups h vs fs∧fs.length=vs.length∧∀v∈fs,∃i t,v=Value.int i t
 |[],ks,e=>⟨[],KatTups.nil,rfl,fun v hv=>by simp at hv⟩
 |v::r,ks,⟨k,gg,e,⟨a,o,n,t,u,q1,q2,q3,q4⟩,q⟩=>by
  obtain⟨fs,h1,h2,h3⟩:=gE.tups q;refine⟨.int k.1 t::fs,?_,by simp[h2],fun v hv=>?_⟩
  ·rw[q1];exact KatTups.cons q2 q3 q4 (by simp) h1
  ·rcases sg.mp hv with rfl|hv
   ·exact⟨_,_,rfl⟩
   ·exact h3 v hv
theorem EM{prog:vc}{w:World}{A:Around}{s:Shared}{vs:List Value}{ks:List (Int×Int)}(h:gE s.heap vs ks):qb prog w A (tuples' (Value.type "int" != Value.type "tuple")) vs (fun i j=>cv (ax ks i) (ax ks j)) s:=by
 have hb:(Value.type "int" != Value.type "tuple")=true:=by decide
 refine⟨fun h2 R hR=>?_,fun i j C hi hj hC=>?_⟩
 ·obtain⟨fs,h1,h3,h4⟩:=h.tups;refine kat_kind (T:=Value.type "int") h1 (by lia) (fun v hv=>?_) (by decide) hR
  obtain⟨i,t,rfl⟩:=h4 v hv;exact Looks.now
 ·obtain⟨a,o,n,t,u,q1,q2,q3,q4⟩:=h.get i hi;obtain⟨a',o',n',t',u',q1',q2',q3',q4'⟩:=h.get j hj;unfold kas_ask;rw[q1,q1',hb];refine kat_lt q2 q4 q2' q4' ?_;show KatLex prog w A true _ C [((.int (ax ks i).1 t),(.int (ax ks j).1 t')),((.int (ax ks i).2 u),(.int (ax ks j).2 u'))] 0 s
  refine kat_cons (wpAny_eqBool_int ?_);refine kat_go (fun e=>kat_yes (kat_cons (wpAny_eqBool_int (kat_go (fun e'=>kat_yes (kat_nil ?_)) fun e'=>kat_no ?_)))) fun e=>kat_no ?_
  ·have:cv (ax ks i) (ax ks j)=false:=by
    rw[mT];rw[t7]at e e';lia
   rw[this]at hC;exact hC
  ·refine kat_one _ _ (lt_int ?_);have:cv (ax ks i) (ax ks j)=decide ((ax ks i).2<(ax ks j).2):=by
    rw[t7]at e;unfold cv;rw[e];simp
   rw[this]at hC;exact hC
  ·refine oneLt_int ?_;have:cv (ax ks i) (ax ks j)=decide ((ax ks i).1<(ax ks j).1):=by
    unfold cv;rw[e];simp
   rw[this]at hC;exact hC
noncomputable def qW:List Value→List (Int×Int)→Prop
 |[],ks=>ks=[]
 |v::r,ks=>∃i t gg,ks=(i,0)::gg∧v=.int i t∧qW r gg
theorem qW.get:∀{vs:List Value} {ks:List (Int×Int)},qW vs ks→∀i,i<vs.length→∃t,vs.getD i Value.none=.int (ax ks i).1 t∧(ax ks i).2=0
 |[],ks,e,i,hi=>by simp at hi
 |v::r,ks,⟨k,t,gg,e,q0,q⟩,0,_=>by subst e;exact⟨t,q0,rfl⟩
 |v::r,ks,⟨k,t,gg,e,q0,q⟩,i+1,hi=>by
  subst e;have:=qW.get q i (by simpa using hi)
  simpa [ax] using this
theorem JD{prog:vc}{w:World}{A:Around}{s:Shared}{vs:List Value}{ks:List (Int×Int)}(h:qW vs ks):qb prog w A oneType' vs (fun i j=>cv (ax ks i) (ax ks j)) s:=by
 refine⟨fun h2 R hR=>?_,fun i j C hi hj hC=>?_⟩
 ·refine kas_kind (T:=Value.type "int") h2 (fun v hv=>?_) (by decide) (by decide) hR
  obtain⟨i,hi,rfl⟩:=getElem_of_mem hv;obtain⟨t,e,_⟩:=h.get i hi;have:vs[i]=.int (ax ks i).1 t:=by rw[←e];simp[hi]
  rw[this];exact Looks.now
 ·obtain⟨t,e,z⟩:=h.get i hi;obtain⟨t',e',z'⟩:=h.get j hj;unfold kas_ask;rw[e,e'];refine kat_lt_int ?_;have:cv (ax ks i) (ax ks j)=decide ((ax ks i).1<(ax ks j).1):=by
   unfold cv;rw[z,z'];simp
  rw[this]at hC;exact hC
theorem getD_get{α:Type}{l:List α}{i:Nat}{d:α}(h:i<l.length):l[i]?=some (l.getD i d):=by simp[h]
theorem aS.pick{xs:List V}{us:List Value}(r:aS xs us):∀{is:List Nat},(∀i∈is,i<xs.length)→aS (is.map fun i=>xs.getD i .non) (is.map fun i=>us.getD i Value.none)
 |[],_=>.nil
 |i::is,h=>by
  have hi:=h i (by simp)
  obtain⟨u,e1,e2⟩:=r.get (getD_get (d:=V.non) hi);have e3:us.getD i Value.none=u:=by simp[e1]
  refine .cons ?_ (aS.pick r fun j hj=>h j (qt _ hj))
  show L2.RelV (xs.getD i V.non) (us.getD i Value.none)
  rw[e3];exact e2
theorem aE.pick{K:va}{ds:List D}{xs:List V}(r:aE K T H S ds xs):∀{is:List Nat},(∀i∈is,i<ds.length)→aE K T H S (is.map fun i=>ds.getD i .non) (is.map fun i=>xs.getD i .non)
 |[],_=>aE.nil
 |i::is,h=>by
  have hi:=h i (by simp)
  obtain⟨x,e1,e2⟩:=r.get (getD_get (d:=D.non) hi);have e3:xs.getD i .non=x:=by simp[e1]
  refine aE.cons ?_ (aE.pick r fun j hj=>h j (qt _ hj))
  show Rep K T H S (ds.getD i D.non) (xs.getD i V.non)
  rw[e3];exact e2
theorem nN:∀{ds:List D} {ks:List (Int×Int)},lI ds=some ks→ds=ks.map wN
 |[],ks,h=>by simp only[lI]at h;cases h;rfl
 |d::ds,ks,h=>by
  unfold lI at h;split at h
  ·rename_i e;cases e
  ·rename_i a b r e;cases e;obtain⟨r',h1,rfl⟩:=qx.mp h;rw[nN h1];rfl
  ·cases h
theorem qF:∀{ds:List D} {is:List Int},gS ds=some is→ds=is.map .int
 |[],ks,h=>by simp only[gS]at h;cases h;rfl
 |d::ds,ks,h=>by
  cases d<;>simp only[gS,reduceCtorEq]at h
  obtain⟨r',h1,rfl⟩:=qx.mp h;rw[qF h1];rfl
theorem zM(I:Inv X pins σ H s):∀{ks:List (Int×Int)} {xs:List V} {us:List Value},aE X.K T H S (ks.map wN) xs→aS xs us→gE s.heap us ks
 |[],xs,us,r,v=>by
  rw[map_nil]at r;unfold aE at r;subst r;cases v;rfl
 |k::ks,xs,us,r,v=>by
  rw[su]at r;unfold aE at r;obtain⟨x,w,rfl,rx,rr⟩:=r;cases v with
  |cons v1 v2 =>
   refine⟨k,ks,rfl,?_,zM I rr v2⟩;unfold wN at rx;unfold Rep at rx;obtain⟨a,ys,rfl,_,hq,ry⟩:=rx;cases v1;obtain⟨its,rv,⟨o,ho,hc,n,hd⟩,_⟩:=I.tuple hq;unfold aE at ry;obtain⟨y,iw,rfl,ry1,ry⟩:=ry;unfold aE at ry;obtain⟨y2,ys2,rfl,ry2,ry⟩:=ry;unfold aE at ry;subst ry;unfold Rep at ry1 ry2;subst ry1 ry2;obtain⟨u1,u2,rfl,⟨t,rfl⟩,⟨t',rfl⟩⟩:=rv.two;exact⟨a,o,n,t,t',rfl,ho,hc,hd⟩
theorem AO:∀{is:List Int} {xs:List V} {us:List Value},aE X.K T H S (is.map .int) xs→aS xs us→qW us (is.map fun i=>(i,0))
 |[],xs,us,r,v=>by
  rw[map_nil]at r;unfold aE at r;subst r;cases v;rfl
 |k::ks,xs,us,r,v=>by
  rw[su]at r;unfold aE at r;obtain⟨x,w,rfl,rx,rr⟩:=r;cases v with
  |cons v1 v2 =>
   unfold Rep at rx;subst rx;obtain⟨t,rfl⟩:=v1;exact⟨k,t,_,rfl,rfl,AO rr v2⟩
theorem DR{l:Addr}{xs:List V}{ds es:List D}{Q:VK}(I:Inv X pins σ H s)(hl:SqL X.K H l xs)(r:aE X.K T H S ds xs)(hs:lX ds=some es)
  (q:∀p zs,H p=none→aE X.K T H S es zs→Q (.ref p) (upd H p (.lst zs))):wpAny (model X.prog X.w) X.A (call (.builtin "sorted") [.ref l]) (EP X pins σ Q) X.xe s:=by
 obtain⟨its,rv,pl,hz⟩:=I.list hl;have l1:=r.len
 have l2:=rv.length
 have fin:∀(ks:List (Int×Int)) (g:Int×Int→D) (κ:SortKind),ds=ks.map g→ks.length=ds.length→gC ks=true→(∀g',Kept s.heap g'→qb X.prog X.w X.A.in1.in1 κ its (fun i j=>cv (ax ks i) (ax ks j)) { s with heap:=g' })→es=(iL ks).map g →
   wpAny (model X.prog X.w) X.A (call (.builtin "sorted") [.ref l]) (EP X pins σ Q) X.xe s:=fun ks g κ hd hk hc hL he=>by
  unfold gC at hc;rw[qv,rg,rg]at hc;have e0:its.length=ks.length:=by lia
  have o:=IG hc.2
  rw[←e0]at o;refine wZ (κ:=κ) pl.isList o (by lia) hL fun g' p c kp pa inc at1=>?_
  have mem:∀i∈p.toList,i<its.length:=fun i hi=>by simpa using pa.pm.mem_iff.mp hi
  have aw:H (s.heap.objs.size+1)=none:=I.hok.fresh (uf _)
  have I3:Inv X pins σ (upd H (s.heap.objs.size+1) (.lst (p.toList.map fun i=>xs.getD i .non))) { s with heap:=g',toks:=s.toks }:=by
   refine I.laid kp (uf _) ⟨?_,kJ its p,c,aS.pick rv fun i hi=>by rw[l2];exact mem i hi,at1⟩
   rw[ql,length_toList,pa.size,←l2];exact hz
  refine⟨.ref _,_,I3,rfl,q _ _ aw ?_⟩;have e1:es=p.toList.map fun i=>ds.getD i .non:=by
   rw[he,←JK (by rw[←e0];exact pa) (by rw[←e0];exact inc),uq]
   refine List.map_congr_left fun i hi=>?_
   have hi':=mem i hi
   subst hd;simp[ax,show i<ks.length by lia]
  rw[e1];exact aE.pick r fun i hi=>by rw[l1,l2];exact mem i hi
 unfold lX at hs;split at hs
 ·rename_i ks hk;split at hs
  ·rename_i hc;cases hs;have ed:=nN hk
   subst ed;exact fin ks wN _ rfl (by simp) hc (fun g' kp=>EM (s:={ s with heap:=g' }) (gE.kept kp (zM I r rv))) rfl
  ·cases hs
 ·split at hs
  ·rename_i is hk;split at hs
   ·rename_i hc;cases hs;have ed:=qF hk
    subst ed;exact fin (is.map fun i=>(i,0)) (fun p=>.int p.1) _ (by simp[uq,Function.comp_def]) (by simp) hc (fun g' kp=>JD (AO (X:=X) r rv)) rfl
   ·cases hs
  ·cases hs
noncomputable def rBs(K:va)(T:Tx)(S:Addr→Prop):List V→Hp→VK→Prop:=fun vs H Q =>
 ∃l xs ds es,vs=[.ref l]∧SqL K H l xs∧aE K T H S ds xs∧lX ds=some es∧∀p ys H',aI H H'→H p=none→H' p=some (.lst ys)→aE K T (er H' p) S es ys→Q (.ref p) H'
theorem LP:gF X (.builtin "sorted") (rBs X.K T S):=by
 rintro pins s σ H vs us Q I r ⟨l,xs,ds,es,rfl,hl,rl,hs,q⟩;obtain⟨u,rfl,ru⟩:=r.one;cases ru;exact DR I hl rl hs fun p zs hp rz=>q p zs _ (aI.upd hp) hp aM (by rw[iB hp];exact rz)
end
end Z
namespace Z
open PySem PySem.Spec PyProof.Rows L2
theorem zK:∀{xs:List V} {us:List Value},xs.length=us.length→(∀(i:Nat) x u,xs[i]?=some x→us[i]?=some u→RelV x u)→aS xs us
 |[],[],_,_=>.nil
 |x::xs,u::us,h,k=>.cons (k 0 x u rfl rfl) (zK (Nat.succ.inj h) fun i y v e f=>k (i+1) y v e f)
section
variable {CX:au}{X:Cx}{c:CC}{G:GS}{T:Tx}{lv:Nat}{ρ:List Sl}{S:Addr→Prop}{tg:Expr}
theorem pT{K:va}{H:Hp}:∀{l:List Int},aE K T H S (l.map D.int) (l.map V.int)
 |[]=>by unfold aE;rfl
 |i::l=>by
  show aE K T H S (D.int i::l.map D.int) (V.int i::l.map V.int)
  unfold aE;exact⟨_,_,rfl,by unfold Rep;rfl,pT⟩
theorem xV{a:Expr}{p pos p2 pos2:Pos}{j:Int}(hc:X.calm=true)(hg:Gl X "range")(hm:X.mg "range" = none)(iN:Gl X "list")(hml:X.mg "list" = none)(ha:PA X [a] (c6 X.K T S ρ [.int j]))(hs:starEach [a] X.env=[(false,eval a X.env)])(h0:dS j=true)(hn:j.toNat≤big) :
  PE X (.Call (.Name "list" p2) [.Call (.Name "range" p) [a] [] pos] [] pos2) (ef X.K T S ρ (cK 0 j)):=by
 intro pins s σ H Q I ⟨re,q⟩;refine Call_ (gH I iN hml tZ (sh (Calls.spliced_cons (Call_ (gH I hg hm boot_range (sh (af (ha pos pins s σ H (fun vs H'=>aI H H'∧aE X.K T H' S [.int j] vs) I ⟨re,fun vs H' a b=>⟨a,b⟩⟩) fun us s1 ⟨vs,H1,I1,r1,sm,rl⟩=>?_) hs rfl)))) rfl rfl))
 unfold aE at rl;obtain⟨x,r',rfl,rx,rr⟩:=rl;unfold aE at rr;subst rr;unfold Rep at rx;subst rx;obtain⟨b1,b2⟩:=fV h0;have hb:j.toNat≤1000000:=hn
 cases r1 with
 |cons r rr =>
  cases rr;obtain⟨t,rfl⟩:=r;refine call_range_1 (Calls.spliced_nil ?_);generalize i0:({ s1 with heap:=s1.heap.push { cls:=.type "range",data:=.fields #[.int 0 s1.toks,.int j t,.int 1 (s1.toks+1)] },toks:=s1.toks+1+1 }:Shared)=s2
  have I2:Inv X pins σ H1 s2:=by subst i0;exact I1.kept fun b o e=>qq _ e
  have hr:IsRange s2.heap s1.heap.objs.size 0 j 1 s1.toks t (s1.toks+1):=by subst i0;exact IsRange.new ..
  refine call_list_range (n:=j.toNat) (I2.ok.hd hc) hr (small_one (by decide) (by decide) b1 b2) (by rw[rangeSize_one];split<;>lia) (by lia) fun h' tk df c' hk jn f7=>?_
  have vs:aS (((List.range j.toNat).map fun (k:Nat)=>(k:Int)).map V.int) df.toList:=by
   refine zK (by simp[f7.1]) fun i y u e f=>?_
   obtain⟨t',rfl⟩:=f7.2 i u (by simpa using f)
   rw[uq,qk]at e;cases hr:(List.range j.toNat)[i]? with
   |none=>rw[hr]at e;cases e
   |some k =>
    rw[hr]at e;have hk:k=i:=by
     obtain⟨h1,h2⟩:=q8.mp hr;simpa using h2.symm
    subst hk;cases e;exact⟨t',by rw[Int.mul_one,Int.zero_add]⟩
  have aw:H1 s2.heap.objs.size=none:=I2.hok.fresh (qm _)
  have I3:Inv X pins σ (upd H1 s2.heap.objs.size (.lst (((List.range j.toNat).map fun (k:Nat)=>(k:Int)).map V.int))) { s2 with heap:=h',toks:=tk }:=by
   refine I2.laid (fun b u e=>hk b u e) (qm _) ?_
   refine⟨by simp only[ql,rh];rw[sizeLine_eq];lia,df.toList,c',vs,?_⟩
   rw[jn]
  refine⟨.ref _,_,I3,rfl,q _ _ _ (sm.trans (aI.upd aw)) (sm.free aw) aM ?_⟩;rw[iB aw];have e:cK 0 j=((List.range j.toNat).map fun (k:Nat)=>(k:Int)).map D.int:=by
   unfold cK;rw[uq];simp
  rw[e];exact pT
end
variable {CX:au}{G:GS}{T:Tx}{lv:Nat}
theorem cG{o:Option D}{ds:List D}(h:bG o=some ds):o=some (.tup ds):=by
 unfold bG at h;split at h
 ·cases h;rfl
 ·cases h
theorem lK{o:Option Rs}{d:D}(h:iI o=some d):o=some (.ok d):=by
 unfold iI at h;split at h
 ·cases h;rfl
 ·cases h
theorem jU{o:Option D}{i:Int}(h:intOf o=some i):o=some (.int i):=by
 unfold intOf at h;split at h
 ·cases h;rfl
 ·cases h
theorem dY{X:Cx}{K:va}{c:CC}{S:Addr→Prop}{ρ:List Sl}{e:Expr}{d:D}(h:PE X e (tD X.K T S ρ d))(hf:gI c e=false):PE X e (tD X.K T S ρ d)∧(gI c e=true→∀ds,d=.lst ds→PE X e (ef X.K T S ρ ds)):=
 ⟨h,fun z=>by rw[hf]at z;cases z⟩
theorem fI{X:Cx}{c:CC}{S:Addr→Prop}{ρ:List Sl}{e:Expr}{ds:List D}(h:PE X e (ef X.K T S ρ ds)):PE X e (tD X.K T S ρ (.lst ds))∧(gI c e=true→∀es,D.lst ds=.lst es→PE X e (ef X.K T S ρ es)):=
 ⟨IZ h,fun _ es z=>by cases z;exact h⟩
theorem jF{X:Cx}{c:CC}{S:Addr→Prop}{ρ:List Sl}{n:Nat}(hE:fw CX G T lv n)(xc:XC CX X c G T lv){lo:Option Expr}{l:IE}{o:Option Int}(h:rN (cE n c) lo=some l)(hp:part lo.isSome (ev G l ρ)=some o):PO X lo (ju X.K T S ρ o):=by
 cases lo with
 |none =>
  simp only[part,Option.isSome_none,qr,if_false,qg]at hp;subst hp;exact aEp
 |some e =>
  simp only[part,Option.isSome_some,if_true,qx]at hp;obtain⟨i,hi,rfl⟩:=hp;exact aEo (hE X c S ρ e l xc h _ (jU hi)).1
theorem EJ{c:CC}{x:Str}{i:Nat}(h:ZQ c x=some i):cV c x=some i:=by
 unfold ZQ at h;exact(bF h).2
theorem jJ{c:CC}{e:Expr}{i:Nat}(h:fP c e=some i):∃x p,e=.Name x p∧cV c x=some i:=by
 obtain⟨x,h1,h⟩:=aG h;exact⟨x.1,x.2,cL h1,EJ h⟩
theorem qJ{K:va}{S:Addr→Prop}{H H1 H':Hp}{es:List D}{v:V}{Q:VK}(s1:aI H H1)(s2:aI H1 H')(fr:qX K T S H1 H' (.lst es) v)(q:∀p xs H',aI H H'→H p=none→H' p=some (.lst xs)→aE K T (er H' p) S es xs→Q (.ref p) H'):Q v H':=by
 obtain⟨p,xs,rfl,hn,hs,rl⟩:=fr es rfl;exact q p xs H' (s1.trans s2) (s1.free hn) hs rl
theorem FX:bootBuiltins "sorted" = some (.builtin "sorted"):=by decide +kernel
theorem wC{ds:List D}{d:D}(h:kQ ds=some d):∃xs es,ds=[.lst xs]∧lX xs=some es∧d=.lst es:=by
 unfold kQ at h;split at h
 ·obtain⟨es,h1,rfl⟩:=qx.mp h;exact⟨_,es,rfl,h1,rfl⟩
 ·cases h
theorem aAH:bootBuiltins "len" = some (.builtin "len"):=by decide +kernel
theorem LN:bootBuiltins "tuple" = some (.type "tuple"):=by decide +kernel
theorem aAG:bootBuiltins "max" = some (.builtin "max"):=by decide +kernel
theorem RL{X:Cx}{c:CC}{S:Addr→Prop}{ρ:List Sl}(xc:XC CX X c G T lv){x:Str}{b:BF}{p pos:Pos}{es:List Expr}{ds:List D}{d:D}(hg:aW c x=true)(hm:X.mg x=none)(hb:pE x=some b)(ha:PA X es (c6 X.K T S ρ ds))(hs:starEach es X.env=es.map fun e=>(false,eval e X.env))(hlen:ds.length=es.length)(hd:bf b ds=some d) :
  PE X (.Call (.Name x p) es [] pos) (tD X.K T S ρ d)∧(x = "list"∨x = "sorted"→∀fv,d=.lst fv→PE X (.Call (.Name x p) es [] pos) (ef X.K T S ρ fv)):=by
 cases es with
 |nil =>
  have:ds=[]:=sr.mp hlen
  subst this;cases b<;>simp[bf,SO,aEZ,wD,tN,KI,aEY,kQ]at hd
 |cons e es =>
  obtain⟨h1,h2⟩:=pQ (pos:=pos) hs;have iN:=xc.glob hg
  have go:∀{g:List D→Option D},g ds=some d→∀σ H Q,tD X.K T S ρ d σ H Q→tCB (rBf X.K T S g) (c6 X.K T S ρ ds) σ H Q:=fun {g} ja σ H Q ⟨re,q⟩=>⟨re,fun vs H1 s1 r1=>⟨ds,d,(re.same s1).dom,r1,ja,fun v H' s2 r2=>q v H' (s1.trans s2) r2⟩⟩
  unfold pE at hb;split at hb
  ·rename_i e0;subst e0;cases hb;exact⟨PE.mono (gN aFk iN hm aAH ha (by decide +kernel) (by decide +kernel) h1 h2) (go hd),fun z=>absurd z (by decide +kernel)⟩
  split at hb
  ·rename_i e0;subst e0;cases hb;have hl:∃fv,d=.lst fv:=by
    simp only[bf]at hd;unfold wD at hd;split at hd<;>first|(cases hd;exact⟨_,rfl⟩)|cases hd
   obtain⟨fv,rfl⟩:=hl;have pn:PE X (.Call (.Name "list" p) (e::es) [] pos) (ef X.K T S ρ fv):=PE.mono (pX aAJ iN hm tZ ha (by decide +kernel) (by decide +kernel) h1 h2) fun σ H Q ⟨re,q⟩=>⟨re,fun vs H1 s1 r1=>⟨ds,fv,r1,hd,fun p ys H' s2 hn cz rl=>by
    refine q p ys H' (s1.trans s2) ?_ cz rl;cases e0:H p with
    |none=>rfl
    |some o=>rw[s1 p o e0]at hn;cases hn⟩⟩
   exact⟨IZ pn,fun _ es2 z=>by cases z;exact pn⟩
  split at hb
  ·rename_i e0;subst e0;cases hb;exact⟨PE.mono (pX TJ iN hm LN ha (by decide +kernel) (by decide +kernel) h1 h2) (go hd),fun z=>absurd z (by decide +kernel)⟩
  split at hb
  ·rename_i e0;subst e0;cases hb;exact⟨PE.mono (gN (aFj xc.calm) iN hm aAG ha (by decide +kernel) (by decide +kernel) h1 h2) (go hd),fun z=>absurd z (by decide +kernel)⟩
  split at hb
  ·cases hb;cases hd
  split at hb
  ·rename_i e0;subst e0;cases hb;obtain⟨xs,fv,rfl,hso,rfl⟩:=wC hd;have pn:PE X (.Call (.Name "sorted" p) (e::es) [] pos) (ef X.K T S ρ fv):=PE.mono (gN (LP (T:=T) (S:=S)) iN hm FX ha (by decide +kernel) (by decide +kernel) h1 h2) fun σ H Q ⟨re,q⟩=>⟨re,fun vs H1 s1 r1=>by
    obtain⟨x,rfl,rx⟩:=rep1 r1;unfold Rep at rx;obtain⟨l,ys,rfl,_,hq,ry⟩:=rx;refine⟨l,ys,xs,fv,rfl,SqL.of hq,ry,hso,fun p zs H' s2 hn cz rl=>q p zs H' (s1.trans s2) ?_ cz rl⟩
    cases e0:H p with
    |none=>rfl
    |some o=>rw[s1 p o e0]at hn;cases hn⟩
   exact⟨IZ pn,fun _ es2 z=>by cases z;exact pn⟩
  split at hb
  ·cases hb;cases hd
  ·cases hb
theorem aFg{x:Str}{b:BF}(h:pE x=some b):fH.contains x=true:=by
 unfold pE at h
 repeat' split at h
 all_goals first|cases h;done|(rename_i e;subst e;decide +kernel)
theorem aBS{x:Str}(h:jA.contains x=true):fH.contains x=true:=by
 rw[List.contains_iff_mem]at h ⊢;unfold jA at h;simp only[sg,uo,or_false]at h;rw[←List.contains_iff_mem]
 rcases h with h|h|h|h|h<;>subst h<;>decide +kernel
section
variable {n:Nat}{X:Cx}{c:CC}{S:Addr→Prop}{ρ:List Sl}{ir:IE}{d:D}
abbrev Tells(CX:au)(T:Tx)(X:Cx)(c:CC)(S:Addr→Prop)(ρ:List Sl)(e:Expr)(d:D):Prop:=PE X e (tD X.K T S ρ d)∧(gI c e=true→∀ds,d=.lst ds→PE X e (ef X.K T S ρ ds))
theorem XI{G:GS}{z:IE}{ρ:List Sl}{d:D}(hd:ev G (.walk .rng (.tup (.cons z .nil))) ρ=some d):∃j,ev G z ρ=some (.int j)∧dS j=true∧j.toNat≤big∧d=.lst (cK 0 j):=by
 replace hd:(((bG ((ev G z ρ).bind fun d=>some (.tup [d]))).map D.tup).bind fun s=>(items .rng s).map D.lst)=some d:=hd
 cases hz:ev G z ρ with
 |none=>rw[hz]at hd;cases hd
 |some v =>
  rw[hz]at hd;replace hd:(AK [v]).map D.lst=some d:=hd;cases v<;>first|exact nomatch (show none=some d from hd)|skip
  rename_i j;replace hd:(if dS j&&decide (j.toNat≤big) then some (cK 0 j) else none).map D.lst=some d:=hd
  split at hd
  ·rename_i hc;rw[qv,rg]at hc;cases hd;exact⟨j,rfl,hc.1,hc.2,rfl⟩
  ·cases hd
theorem aDC(hE:fw CX G T lv n)(hA:jr CX G T lv n)(xc:XC CX X c G T lv){x:Str}{p q:Pos}{args:List Expr}{b:BF}(hg:aW c x=true)(hf:c.fns.contains x=false)(hc:c.cls.contains x=false)(hb:pE x=some b)(h:DX (cE n c) c b args (cA n c args)=some ir)(hd:ev G ir ρ=some d):Tells CX T X c S ρ (.Call (.Name x p) args [] q) d:=by
 have hm:=iE xc (aFg hb) hf hc
 have bcl:∀{y:IE},cA n c args=some y→ir=.bcall b y→Tells CX T X c S ρ (.Call (.Name x p) args [] q) d:=fun {y} hy e=>by
  subst e;simp only[ev,qo,qi]at hd;obtain⟨ds,bp,hd⟩:=hd;obtain⟨ds',e1,hl,pa,hs⟩:=hA X _ S ρ args y xc hy _ (cG bp);cases e1;have r:=RL (p:=p) (pos:=q) xc hg hm hb pa hs hl hd
  refine⟨r.1,fun z es e=>r.2 ?_ es e⟩
  have z:((c.fns.contains x&&c.fresh.contains x) || (aW c x&&(x == "list" || x == "sorted")&&!own c x))=true:=z
  simp only[own,hf,hc,hg,Bool.false_and,Bool.false_or,Bool.true_and,Bool.or_false,Bool.not_false,Bool.and_true,or_eq_true,t7]at z;exact z
 have mb:(cA n c args).map (fun x=>IE.bcall b x)=some ir→Tells CX T X c S ρ (.Call (.Name x p) args [] q) d:=fun h=>by
  obtain⟨y,hy,e⟩:=aQ h;exact bcl hy e
 unfold DX at h;cases oq:UP c args with
 |some i =>
  rw[oq]at h;obtain⟨e,h1,h2⟩:=aG oq;obtain⟨y,py,rfl,i9⟩:=jJ h2;obtain rfl:=bO h1;cases b with
  |int=>exact mb h
  |list=>exact mb h
  |tuple=>exact mb h
  |max=>exact mb h
  |min=>exact mb h
  |str=>exact mb h
  |any=>exact mb h
  |len=>exact mb h
  |sorted=>exact mb h
 |none =>
  rw[oq]at h;cases hr:xP c args with
  |none =>
   rw[hr]at h;cases hq:(one? args).bind (xO c) with
   |none =>
    rw[hq]at h;exact mb (by cases b<;>exact h)
   |some a =>
    rw[hq]at h;cases b with
    |int=>exact mb h
    |len=>exact mb h
    |tuple=>exact mb h
    |max=>exact mb h
    |min=>exact mb h
    |str=>exact mb h
    |any=>exact mb h
    |sorted=>exact mb h
    |list =>
     clear bcl mb;obtain⟨z,hz,rfl⟩:=aQ (show (cE n c a).map (fun x=>IE.walk .rng (.tup (.cons x .nil)))=some ir from h)
     obtain⟨j,hj,h0,hn,rfl⟩:=XI hd;have hx:x = "list":=by
      unfold pE at hb
      repeat' split at hb
      all_goals first|assumption|cases hb
     subst hx;obtain⟨e,h1,r1⟩:=aG hq;obtain⟨r,h2,r2⟩:=aG r1;obtain⟨jl,r3⟩:=bF r2;obtain⟨p1,p2,e5,ja,ho⟩:=iZ h2;obtain⟨y,as⟩:=r;have e6:y = "range":=t7.mp jl
     have e7:as=[a]:=bO r3
     have e8:=bO h1
     clear hr hq h1 r1 h2 r2 jl r3 oq h;subst e6 e7;dsimp only at e5 ja ho;subst e5;subst e8;obtain⟨il,l5⟩:=AD ho;have st:=(dW hz).star X.env []
     exact fI (xV xc.calm (xc.glob ja) (iE xc (by decide +kernel) il l5) (xc.glob hg) hm (rS (hE X _ S ρ a z xc hz _ hj).1 AF st) st h0 hn)
  |some a =>
   rw[hr]at h;cases b with
   |int=>exact mb h
   |len=>exact mb h
   |tuple=>exact mb h
   |max=>exact mb h
   |min=>exact mb h
   |str=>exact mb h
   |any=>exact mb h
   |sorted=>exact mb h
   |list =>
   clear bcl mb;obtain⟨z,hz,rfl⟩:=aQ (show (cE n c a).map (fun x=>IE.walk .rev x)=some ir from h)
   simp only[ev,qo,qi,qx]at hd;obtain⟨w,hw,ds,bp,rfl⟩:=hd;have hx:x = "list":=by
    unfold pE at hb
    repeat' split at hb
    all_goals first|assumption|cases hb
   subst hx;obtain⟨e,h1,r1⟩:=aG hr;obtain⟨r,h2,r2⟩:=aG r1;obtain⟨hn,r3⟩:=bF r2;obtain⟨p1,p2,e5,ja,ho⟩:=iZ h2;obtain⟨y,as⟩:=r;have e6:y = "reversed":=t7.mp hn
   have e7:as=[a]:=bO r3
   have e8:=bO h1
   clear hr h1 r1 h2 r2 hn r3 oq h;subst e6 e7;dsimp only at e5 ja ho;subst e5;subst e8;obtain⟨il,l5⟩:=AD ho;have st:=(dW hz).star X.env []
   exact fI (xW xc.calm (xc.glob ja) (iE xc (by decide +kernel) il l5) (xc.glob hg) hm (rS (hE X _ S ρ a z xc hz w hw).1 AF st) st bp)
theorem IL(hE:fw CX G T lv n)(hA:jr CX G T lv n)(xc:XC CX X c G T lv){x:Str}{p q:Pos}{args:List Expr}(h:zS (cE n c) c x args (cA n c args)=some ir)(hd:ev G ir ρ=some d):Tells CX T X c S ρ (.Call (.Name x p) args [] q) d:=by
 obtain⟨hg,h⟩:=bF h;cases fz:c.fns.contains x with
 |true =>
  rw[fz]at h;obtain⟨y,hy,rfl⟩:=aQ (show (cA n c args).map (fun y=>IE.call x y)=some ir from h)
  simp only[ev,qo,qi]at hd;obtain⟨ds,bp,hd⟩:=hd;obtain⟨ds',e1,hl,pa,hs⟩:=hA X _ S ρ args y xc hy _ (cG bp);cases e1;have r:=ZP (p:=p) (pos:=q) xc hg fz pa hs hl (lK hd)
  refine⟨PE.mono r fun σ H Q ⟨re,q⟩=>⟨re,fun v H1 H' s1 s2 rp _=>q v H' (s1.trans s2) rp⟩,fun hf es e=>?_⟩
  subst e;have il:G.ff x=true:=by
   have z:((c.fns.contains x&&c.fresh.contains x) || (aW c x&&(x == "list" || x == "sorted")&&!own c x))=true:=hf
   simp only[own,fz,Bool.true_and,Bool.true_or,so,Bool.and_false,Bool.or_false]at z;exact(xc.go.frs x z).1
  exact PE.mono r fun σ H Q ⟨re,q⟩=>⟨re,fun v H1 H' s1 s2 rp fr=>qJ s1 s2 (fr il) q⟩
 |false =>
  rw[fz]at h;cases az:c.cls.contains x with
  |true =>
   rw[az]at h;obtain⟨y,hy,rfl⟩:=aQ (show (cA n c args).map (fun y=>IE.mk x y)=some ir from h)
   simp only[ev,qo,qi]at hd;obtain⟨ds,bp,hd⟩:=hd;obtain⟨ds',e1,hl,pa,hs⟩:=hA X _ S ρ args y xc hy _ (cG bp);cases e1;refine dY (K:=X.K) (aHG xc hg az pa hs hl (lK hd)) ?_;show ((c.fns.contains x&&c.fresh.contains x) || (aW c x&&(x == "list" || x == "sorted")&&!own c x))=false
   simp only[own,fz,az,Bool.false_and,Bool.or_true,so,Bool.and_false,Bool.or_false]
  |false =>
   rw[az]at h;cases hi:x == "isinstance" with
   |false =>
    rw[hi]at h;obtain⟨b,hb,h⟩:=aG (show (pE x).bind (fun b=>DX (cE n c) c b args (cA n c args))=some ir from h)
    exact aDC hE hA xc hg fz az hb h hd
   |true =>
    rw[hi]at h;obtain rfl:=t7.mp hi;have h:GZ (cE n c) c args=some ir:=h
    match args,h with
    |[a,y],h =>
     obtain⟨y',cb,h⟩:=aG h;obtain⟨hk,h⟩:=bF h;obtain⟨hk,hk3⟩:=cY hk;obtain⟨lz,kb⟩:=cY hk;obtain⟨z,hz,rfl⟩:=aQ h;obtain rfl:=cL cb;obtain⟨i3,cx⟩:=AD (UL hk3);simp only[ev,qo,qi,qx]at hd;obtain⟨w,hw,k,hk,rfl⟩:=hd;have ht:∃tn,k8 w=some tn:=by
      cases w<;>first|exact⟨_,rfl⟩|(simp only[iS,reduceCtorEq]at hk)
     obtain⟨tn,ht⟩:=ht;have st:=(dW hz).star X.env [.Name y'.1 y'.2]
     exact⟨aEt xc hg (iE xc (by decide +kernel) fz az) lz (iE xc (aBS kb) i3 cx) kb (hE X _ S ρ a z xc hz w hw).1 (by rw[st];rfl) ht hk,fun _ ds z=>by cases z⟩
theorem QZ(hE:fw CX G T lv n)(hA:jr CX G T lv n)(xc:XC CX X c G T lv){o:Expr}{m:Str}{ap q:Pos}{args:List Expr}(h:(if jI o&&decide (args.length<30)&&(ap.endLine == q.line) then(cE n c o).bind fun x=>(cA n c args).map fun y=>IE.meth x m y else none)=some ir)(hd:ev G ir ρ=some d):Tells CX T X c S ρ (.Call (.Attribute o m ap) args [] q) d:=by
 obtain⟨hc,h⟩:=bF h;obtain⟨hc,hc3⟩:=cY hc;obtain⟨hc1,f6⟩:=cY hc;obtain⟨x,hx,h⟩:=aG h;obtain⟨y,hy,rfl⟩:=aQ h;simp only[ev,qo,qi]at hd;obtain⟨w,hw,hd⟩:=hd;cases w<;>first|exact nomatch (show none=some d from hd)|skip
 rename_i cn fs;obtain⟨hnone,hd⟩:=bF hd;obtain⟨ds,bp,hd⟩:=aG hd;obtain⟨ds',e1,hl,pa,hs⟩:=hA X _ S ρ args y xc hy _ (cG bp);cases e1;have r:=ZL (pos:=q) xc (vM hc1 hs (of_decide_eq_true f6) hc3) (hE X _ S ρ o x xc hx _ hw).1 (Option.isNone_iff_eq_none.mp hnone) pa hs hl (lK hd)
 refine⟨PE.mono r fun σ H Q ⟨re,q⟩=>⟨re,fun v H1 H' s1 s2 rp _=>q v H' (s1.trans s2) rp⟩,fun hf es e=>?_⟩
 subst e;have il:=(xc.go.frs m hf).2 cn
 exact PE.mono r fun σ H Q ⟨re,q⟩=>⟨re,fun v H1 H' s1 s2 rp fr=>qJ s1 s2 (fr il) q⟩
theorem KD{es:List Expr}(h:few es=true):es.length≤sizeLine:=se (of_decide_eq_true h) (se (by decide) iY)
theorem ZG(hE:fw CX G T lv n)(xc:XC CX X c G T lv){a i:Expr}{p:Pos}(h:GY (cE n c) (fP c a) (cE n c a) i=some ir)(hd:ev G ir ρ=some d):Tells CX T X c S ρ (.Subscript a i p) d:=by
 unfold GY at h;cases i9:ni i with
 |some q =>
  rw[i9]at h;obtain⟨lo,hi,st,pp⟩:=q;obtain rfl:=GT i9;cases st with
  |some _=>exact nomatch (show none=some ir from h)
  |none =>
   obtain⟨l,hl,h⟩:=aG (show (rN (cE n c) lo).bind _=some ir from h)
   obtain⟨u,hu,h⟩:=aG h;unfold aCI at h;cases hm:fP c a with
   |some j=>rw[hm]at h;cases h
   |none =>
    rw[hm]at h;obtain⟨x,hx,rfl⟩:=aQ h;simp only[ev,qo,qi]at hd;obtain⟨w,hw,ol,hol,ou,oo,hd⟩:=hd;have pa:=(hE X _ S ρ a x xc hx w hw).1
    cases w<;>first|exact nomatch (show none=some d from hd)|skip
    ·cases hd;exact fI (UM pa (jF hE xc hl hol) (jF hE xc hu oo) (.inl rfl))
    ·simp only at hd;split at hd
     ·cases hd
     ·rename_i ji;cases hd;exact⟨aEn pa (jF hE xc hl hol) (jF hE xc hu oo) ji,fun _ ds z=>by cases z⟩
    ·cases hd;exact fI (UM pa (jF hE xc hl hol) (jF hE xc hu oo) (.inr rfl))
 |none =>
  rw[i9]at h;obtain⟨k,hk,h⟩:=aG h;refine dY (K:=X.K) ?_ (by show (ni i).isSome=false;rw[i9];rfl)
  unfold aCL at h;cases hm:fP c a with
  |some j =>
   rw[hm]at h;cases h
  |none =>
   rw[hm]at h;obtain⟨x,hx,rfl⟩:=aQ h;simp only[ev,qo,qi]at hd;obtain⟨u,hu,v,hv,hd⟩:=hd;have pa:=(hE X _ S ρ a x xc hx u hu).1
   have pi:=(hE X _ S ρ i k xc hk v hv).1
   cases v<;>first|(cases u<;>exact nomatch (show none=some d from hd))|skip
   cases u<;>first|exact nomatch (show none=some d from hd)|skip
   ·exact ZM pa pi (dW hk).ix (.inl rfl) hd
   ·exact ZM pa pi (dW hk).ix (.inr (.inl rfl)) hd
   ·exact aEy (US xc.room) pa pi (dW hk).ix hd
   ·exact ZM pa pi (dW hk).ix (.inr (.inr rfl)) hd
theorem CQ(hE:fw CX G T lv n)(hT:mz CX G T lv n)(hI:OkI CX G T lv n)(xc:XC CX X c G T lv){elt:Expr}{gs:List Comprehension}{sc:Scope}{p:Pos}(h:cE (n+1) c (.ListComp elt gs sc p)=some ir)(hd:ev G ir ρ=some d) :
  ∃tg iter ifs fr aT tp ds outs f,gs=[⟨tg,iter,ifs,0⟩]∧d=.lst outs∧jZ c sc=true∧freeOf c sc (sc.names.filter fun x=>x.2 == .free)=some fr∧aT.all (fun i=>(fr.lookup i).isNone)=true∧cZ { c with N:=ownNames sc,sc:=sc } tg=some (aT,tp) ∧
   PI X tg iter (tI X.K T S ρ ds)∧(∀x,foldedSetIterable iter X.env x=pure x)∧bU f ds=some outs ∧
   (∀d o,f d=some o→∃ρ1,bK aT tp d (frame (ownNames sc).length fr ρ)=some ρ1∧TurnOk CX G T lv { c with N:=ownNames sc,sc:=sc } X.K ifs elt ρ1 o):=by
 obtain⟨g,jm,h⟩:=aG h;obtain⟨tg,iter,ifs,as⟩:=g
 by_cases ha:as=0
 ·subst ha;obtain⟨⟨aT,tp⟩,ez,h⟩:=aG (show HA c sc ⟨tg,iter,ifs,0⟩ (cI n c iter) (cT n { c with N:=ownNames sc,sc:=sc }) (cE n { c with N:=ownNames sc,sc:=sc } elt)=some ir from h)
  obtain⟨⟨k,src⟩,hk,h⟩:=aG h;obtain⟨test,cq,h⟩:=aG h;obtain⟨el,hel,h⟩:=aG h;obtain⟨fr,aw,h⟩:=aG h;obtain⟨hok,h⟩:=bF h;have tgk:LY k tg:=trivial
  obtain⟨i3,cx⟩:=cY hok;cases h;obtain⟨s,hs,hd⟩:=aG hd;obtain⟨ds,bp,hd⟩:=aG hd;obtain⟨outs,houts,rfl⟩:=aQ hd;obtain⟨hi,hset⟩:=hI X _ S ρ iter k src xc hk s ds hs bp;refine⟨tg,iter,ifs,fr,aT,tp,ds,outs,_,bO jm,rfl,i3,aw,cx,ez,hi tg tgk,hset,houts,?_⟩;intro d o hf;obtain⟨ρ1,h1,hf⟩:=aG hf;obtain⟨w,hw,hf⟩:=aG hf;refine⟨ρ1,h1,fun X' S' xc' hK=>?_⟩
  cases w<;>first|exact nomatch (show none=some o from hf)|skip
  rename_i kk;have ho:kk=o.isSome∧∀y,o=some y→ev G el ρ1=some y:=by
   cases kk with
   |true =>
    obtain⟨y,hy,rfl⟩:=aQ hf;exact⟨rfl,fun z e=>by cases e;exact hy⟩
   |false =>
    cases hf;exact⟨rfl,fun z e=>by cases e⟩
  obtain⟨rfl,hy⟩:=ho;refine⟨?_,fun y e=>(hE X' _ S' ρ1 elt el xc' hel y (hy y e)).1⟩
  match ifs,cq with
  |[],cq =>
   cases cq;simp only[ev,Lit.d,qg,D.bl.injEq]at hw;exact .inl ⟨rfl,hw.symm⟩
  |[e],cq=>exact .inr ⟨e,rfl,hT X' _ S' ρ1 e test xc' cq _ hw⟩
 ·exact nomatch (show none=some ir from(if_neg ha).symm.trans h)
theorem IK(hE:fw CX G T lv n)(xc:XC CX X c G T lv){a:Expr}{os:List CmpOp}{bs:List Expr}{p:Pos}(h:HB c (cE n c) (cE n c a) os bs=some ir)(hd:ev G ir ρ=some d):PE X (.Compare a os bs p) (tD X.K T S ρ d)∧∀k,d=.bl k→PT X (.Compare a os bs p) (gc X.K T S ρ k):=by
 match os,bs,h with
 |[o],[b],h =>
  obtain⟨x,hx,h⟩:=aG h;cases hi:aEN c o b with
  |some q =>
   rw[hi]at h;cases h;obtain⟨k,hk,hi⟩:=aG hi;obtain⟨r,hr,hi⟩:=aG hi;obtain⟨hg,hi⟩:=bF hi;cases hi;obtain rfl:=cL hr;obtain rfl:o=RY k:=by cases o<;>first|exact nomatch (show none=some k from hk)|(cases hk;rfl)
   cases hu:ev G x ρ with
   |none=>simp only[ev,hu]at hd;cases hd
   |some u =>
    simp only[ev,hu,qo,ue]at hd;cases u<;>first|exact nomatch (show none=some d from hd)|skip
    rename_i s;obtain⟨kvs,hkv,rfl⟩:=aQ hd;have pa:=(hE X _ S ρ a x xc hx _ hu).1
    exact⟨aEv xc (cY hg).1 hkv pa k,fun k' e=>by cases e;exact ZN xc (cY hg).1 hkv pa k⟩
  |none =>
  rw[hi]at h;obtain⟨y,hy,rfl⟩:=aQ h;simp only[ev,qo,qi]at hd;obtain⟨u,hu,v,hv,hd⟩:=hd;have pa:=(hE X _ S ρ a x xc hx u hu).1
  have pb:=(hE X _ S ρ b y xc hy v hv).1
  exact⟨aEz xc.units pa pb ((dW hy).marks o) hd,fun k e=>by subst e;exact ZO xc.units pa pb ((dW hy).marks o) hd⟩
 |[o,o'],[b,b'],h =>
  obtain⟨x,hx,h⟩:=aG h;obtain⟨y,hy,h⟩:=aG h;obtain⟨z,hz,rfl⟩:=aQ h;simp only[ev,qo,qi]at hd;obtain⟨v,hv,u,hu,w,hw,hd⟩:=hd;have pa:=(hE X _ S ρ a x xc hx u hu).1
  have pb:=(hE X _ S ρ b y xc hy v hv).1
  have lm:lastMarks [o,o'] [b,b']=false:=(dW hz).marks o'
  cases w<;>first|exact nomatch (show none=some d from hd)|skip
  rename_i kk;cases kk with
  |true =>
   obtain⟨w,ji,hd⟩:=aG hd;have pc:=(hE X _ S ρ b' z xc hz w ji).1
   exact⟨RJ xc.units pa pb pc lm hw (by rw[if_pos rfl];exact hd),fun k e=>by subst e;exact JA xc.units pa pb pc lm hw (by rw[if_pos rfl];exact hd)⟩
  |false =>
   cases hd;refine⟨PE.mono (vE (eQ (T:=T) (S:=S) xc.units o) (eQ (T:=T) (S:=S) xc.units o') pa pb (tc:=fun _ _ _=>False) (fun _ _ _ _ _ _ h=>h.elim) lm) fun σ H Q ⟨re,q⟩=>⟨re,fun x H1 s1 r1=>⟨re.same s1,fun y H2 s2 r2=>⟨u,v,.bl false,((re.same s1).same s2).dom,r1.same s2,r2,hw,fun z H3 s3 r3=>?_⟩⟩⟩,fun k e=>?_⟩
   ·unfold Rep at r3;exact⟨false,r3,oY (q _ H3 (s1.trans (s2.trans s3)) bS)⟩
   ·cases e;refine PT.mono (vB (eQ (T:=T) (S:=S) xc.units o) (eQ (T:=T) (S:=S) xc.units o') pa pb (tc:=fun _ _ _=>False) (fun _ _ _ _ _ _ h=>h.elim) lm) fun σ H Q ⟨re,q⟩=>⟨re,fun x H1 s1 r1=>⟨re.same s1,fun y H2 s2 r2=>⟨u,v,.bl false,((re.same s1).same s2).dom,r1.same s2,r2,hw,fun z H3 s3 r3=>?_⟩⟩⟩
    unfold Rep at r3;exact⟨false,r3,oY ⟨_,rfl,q H3 (s1.trans (s2.trans s3))⟩⟩
end
theorem IQ{n:Nat}(hE:fw CX G T lv n)(hT:mz CX G T lv n)(hB:p9 CX G T lv n)(hA:jr CX G T lv n)(hI:OkI CX G T lv n):fw CX G T lv (n+1):=by
 intro X c S ρ e ir xc h d hd;cases e<;>first|exact nomatch (show none=some ir from h)|skip
 case Name x p =>
  refine dY (K:=X.K) ?_ rfl;have h:xR c x=some ir:=h
  unfold xR at h;cases hs:cV c x with
  |some i =>
   rw[hs]at h;cases h;simp only[ev]at hd;exact aEj xc hs hd
  |none =>
   rw[hs]at h;obtain⟨hg,h⟩:=bF h;cases h;simp only[ev]at hd;exact aEw xc (cY hg).1 (cY hg).2 hd
 case Constant v k p =>
  refine dY (K:=X.K) ?_ rfl;have h:zR v=some ir:=h
  cases v<;>first|exact nomatch (show none=some ir from h)|skip
  all_goals
   cases h;simp only[ev,Lit.d,qg]at hd;subst hd
  ·exact aEr
  ·exact aHH
  ·exact aEu
  ·exact aEm
 case BinOp a o b p =>
  refine dY (K:=X.K) ?_ rfl;obtain⟨o',ho,h⟩:=aG h;obtain⟨x,hx,h⟩:=aG h;obtain⟨y,hy,rfl⟩:=aQ h;simp only[ev,qo,qi]at hd;obtain⟨u,hu,v,hv,hd⟩:=hd;exact aEA ho (hE X _ S ρ a x xc hx u hu).1 (hE X _ S ρ b y xc hy v hv).1 hd
 case UnaryOp o a p =>
  refine dY (K:=X.K) ?_ rfl;have h:aCG (cE n c a) o=some ir:=h
  cases o<;>first|exact nomatch (show none=some ir from h)|skip
  ·obtain⟨x,hx,rfl⟩:=aQ h;simp only[ev,qo,qi,qx]at hd;obtain⟨u,⟨w,hw,k,hk,rfl⟩,hd⟩:=hd;cases hd;exact aEq (hE X _ S ρ a x xc hx w hw).1 hk
 case BoolOp o vs p =>
  refine dY (K:=X.K) ?_ rfl;cases o with
  |And=>exact(hB X _ S ρ true vs ir p xc).1 h d hd
  |Or=>exact(hB X _ S ρ false vs ir p xc).1 h d hd
 case IfExp t a b p =>
  refine dY (K:=X.K) ?_ rfl;obtain⟨x,hx,h⟩:=aG h;obtain⟨y,hy,h⟩:=aG h;obtain⟨z,hz,rfl⟩:=aQ h;simp only[ev,qo,qi]at hd;obtain⟨u,hu,hd⟩:=hd;cases u<;>first|exact nomatch (show none=some d from hd)|skip
  rename_i k;have pt:=hT X _ S ρ t x xc hx k hu
  cases k with
  |true=>exact UN pt (fun _=>(hE X _ S ρ a y xc hy d hd).1) (fun z=>by cases z)
  |false=>exact UN pt (fun z=>by cases z) (fun _=>(hE X _ S ρ b z xc hz d hd).1)
 case Compare a os bs p=>exact dY (K:=X.K) (IK hE xc h hd).1 rfl
 case Tuple es k p =>
  refine dY (K:=X.K) ?_ rfl;obtain⟨ot,h⟩:=bF h;obtain⟨x,hx,rfl⟩:=aQ h;simp only[ev,qx]at hd;obtain⟨ds,bp,rfl⟩:=hd;obtain⟨ds',e1,hl,pa,hs⟩:=hA X _ S ρ es x xc hx _ (cG bp);cases e1;exact aEk pa (by rw[hl];exact KD ot)
 case List es p =>
  obtain⟨ot,h⟩:=bF h;obtain⟨x,hx,rfl⟩:=aQ h;simp only[ev,qx]at hd;obtain⟨ds,bp,rfl⟩:=hd;obtain⟨ds',e1,hl,pa,hs⟩:=hA X _ S ρ es x xc hx _ (cG bp);cases e1;exact fI (aEs pa (by rw[hl];exact KD ot))
 case Subscript a i p=>exact ZG hE xc h hd
 case Attribute a f p =>
  refine dY (K:=X.K) ?_ rfl;obtain⟨jj,h⟩:=bF h;obtain⟨x,hx,rfl⟩:=aQ h;simp only[ev,qo,qi]at hd;obtain⟨u,hu,hd⟩:=hd;have pa:=(hE X _ S ρ a x xc hx u hu).1
  cases u<;>first|exact nomatch (show none=some d from hd)|skip
  obtain⟨hf,hd⟩:=bF hd;exact aEx xc pa (kX jj) hf hd
 case ListComp elt gs sc p =>
  obtain⟨tg,iter,ifs,fr,aT,tp,ds,outs,f,rfl,rfl,h1,h2,h3,h4,h5,h6,h7,h8⟩:=CQ (S:=S) hE hT hI xc h hd;exact fI (QJ xc h1 h2 h3 h4 h5 h6 h7 h8)
 case Call f args kw p =>
  obtain⟨hkw,h⟩:=bF h;obtain rfl:=kT hkw;cases f<;>first|exact nomatch (show none=some ir from h)|skip
  ·exact QZ hE hA xc h hd
  ·exact IL hE hA xc h hd
end Z
namespace Z
open PySem PySem.Spec PyProof.Rows L2
variable {CX:au}{G:GS}{T:Tx}{lv:Nat}
theorem IM{n:Nat}(hE:fw CX G T lv n)(hT:mz CX G T lv n)(hB:p9 CX G T lv n):mz CX G T lv (n+1):=by
 intro X c S ρ e ir xc h k hk;have tr:(cE n c e).map .tr=some ir→(∀whole,isTrue e X.env whole=(do let v ←whole;standAt e.pos;holding [v] (truthy v)))→PT X e (gc X.K T S ρ k):=fun h he=>by
  obtain⟨x,hx,rfl⟩:=aQ h;simp only[ev,qo,qi,qx,D.bl.injEq]at hk;obtain⟨w,hw,k',ij,rfl⟩:=hk;exact RH (hE X c S ρ e x xc hx w hw).1 he ij
 cases e<;>first|exact tr h fun _=>rfl|skip
 case BoolOp o vs p =>
  cases o with
  |And=>exact PW.pt ((hB X c S ρ true vs ir p xc).2 h k hk)
  |Or=>exact PW.pt ((hB X c S ρ false vs ir p xc).2 h k hk)
 case UnaryOp o a p =>
  cases o<;>first|exact tr h fun _=>rfl|skip
  obtain⟨x,hx,rfl⟩:=aQ h;simp only[ev,qo,qi]at hk;obtain⟨w,hw,hk⟩:=hk;cases w<;>first|exact nomatch (show none=some (D.bl k) from hk)|skip
  cases hk;exact ZK (hT X c S ρ a x xc hx _ hw)
 case IfExp _ _ _ _=>exact nomatch (show none=some ir from h)
 case Compare a os bs p=>exact(IK hE xc h hk).2 k rfl
theorem eG:∀n,fw CX G T lv n∧mz CX G T lv n∧p9 CX G T lv n∧jr CX G T lv n∧OkI CX G T lv n
 | 0=>⟨fun X c S ρ e ir xc h=>(nomatch (show none=some ir from h)),fun X c S ρ e ir xc h=>(nomatch (show none=some ir from h)),fun X c S ρ k vs ir pos xc=>⟨fun h=>(nomatch (show none=some ir from h)),fun h=>(nomatch (show none=some ir from h))⟩,fun X c S ρ es ir xc h=>(nomatch (show none=some ir from h)),fun X c S ρ e k ir xc h=>(nomatch (show none=some (k,ir) from h))⟩
 |n+1=>by
  obtain⟨hE,hT,hB,hA,hI⟩:=eG n;exact⟨IQ hE hT hB hA hI,IM hE hT hB,IR hE hT hB,IT hE hA,IP hE hA⟩
end Z
namespace Z
open PySem PySem.Spec PyProof.Rows L2
abbrev Dm(S₀:Addr→Prop)(H₀:Hp)(_:List Sl)(_:L2.St):Prop:=∀a,S₀ a→∃o,H₀ a=some o
structure SInv (K:va) (T:Tx) (S₀:Addr→Prop) (H₀:Hp) (S:Addr→Prop) (ρ:List Sl) (σ:L2.St) (H:Hp):Prop where
 re:RE K T H S ρ σ
 dom0:Dm S₀ H₀ ρ σ
 sup:∀a,S₀ a→S a
 same:aI H₀ H
 dist:∀(i j:Nat) xs ys p,ρ[i]?=some (.mu xs)→ρ[j]?=some (.mu ys)→σ[i]?=some (some (.ref p))→σ[j]?=some (some (.ref p))→i=j
 own:∀(i:Nat) xs p,ρ[i]?=some (.mu xs)→σ[i]?=some (some (.ref p))→H₀ p=none
section
variable {K:va}{T:Tx}{S₀ S S':Addr→Prop}{H₀ H H' fx:Hp}{ρ ρ1:List Sl}{σ σ1:L2.St}
theorem aO.refl:aO K H H S S:=fun a n _=>⟨n,fun _ e=>e⟩
theorem aO.same(h:aI H H'):aO K H H' S S:=fun a n _=>⟨n,fun o e=>h a o e⟩
theorem aO.trans{S'':Addr→Prop}(h:aO K H H' S S')(g:aO K H' fx S' S''):aO K H fx S S'':=fun a n q=>by
 obtain⟨n1,k1⟩:=h a n q;obtain⟨n2,k2⟩:=g a n1 (q.elim (fun⟨o,e⟩=>.inl ⟨o,k1 o e⟩) .inr)
 exact⟨n2,fun o e=>k2 o (k1 o e)⟩
theorem SInv.step(si:SInv K T S₀ H₀ S ρ σ H)(h:aI H H'):SInv K T S₀ H₀ S ρ σ H':=⟨si.re.same h,si.dom0,si.sup,si.same.trans h,si.dist,si.own⟩
theorem SInv.set(si:SInv K T S₀ H₀ S ρ σ H){i:Nat}{d:D}{v:V}(r:Rep K T H S d v):SInv K T S₀ H₀ S (ρ.set i (.im d)) (σ.set i (some v)) H:=by
 have old:∀(j:Nat) xs p,(ρ.set i (.im d))[j]?=some (.mu xs)→(σ.set i (some v))[j]?=some (some (.ref p))→j≠i∧ρ[j]?=some (.mu xs)∧σ[j]?=some (some (.ref p)):=fun j xs p h1 h2=>by
  have ne:j≠i:=by
   rintro rfl;have hl:j<ρ.length:=by simpa using (q8.mp h1).1
   rw[rj hl]at h1;cases h1
  rw[rn (Ne.symm ne)]at h1 h2;exact⟨ne,h1,h2⟩
 refine⟨si.re.set r,si.dom0,si.sup,si.same,fun a b xs ys p h1 h2 h3 h4=>?_,fun a xs p h1 h2=>?_⟩
 ·obtain⟨_,q1,q2⟩:=old a xs p h1 h3;obtain⟨_,q3,q4⟩:=old b ys p h2 h4;exact si.dist a b xs ys p q1 q3 q2 q4
 ·obtain⟨_,q1,q2⟩:=old a xs p h1 h2;exact si.own a xs p q1 q2
theorem SInv.setm(si:SInv K T S₀ H₀ S ρ σ H){i:Nat}{ds:D}{p:Addr}{xs:HO}(sm:aI H H')(hp:H p=none)(hk:K.lookup p=none)(d7:H' p=some xs)(rl:lV K T (er H' p) S ds xs) :
  SInv K T S₀ H₀ (fun a=>S a∨a=p) (ρ.set i (.mu ds)) (σ.set i (some (.ref p))) H'∧aO K H H' S (fun a=>S a∨a=p):=by
 have mv:aO K H H' S (fun a=>S a∨a=p):=fun a n q=>by
  have ne:a≠p:=by
   rintro rfl
   rcases q with ⟨o,e⟩|⟨o,e⟩
   ·rw[hp]at e;cases e
   ·rw[hk]at e;cases e
  exact⟨fun z=>z.elim n ne,fun o e=>sm a o e⟩
 have dom:∀a,(S a∨a=p)→∃o,H' a=some o:=fun a z=>z.elim (fun z=>let ⟨o,e⟩:=si.re.dom a z;⟨o,sm a o e⟩) fun z=>⟨xs,by rw[z];exact d7⟩
 have re':RE K T H' (fun a=>S a∨a=p) ρ σ:=si.re.gen mv (fun a ys z e _=>⟨.inl z,sm a _ e⟩) dom
 have slotp:∀(j:Nat) ys,ρ[j]?=some (.mu ys)→σ[j]?=some (some (.ref p))→False:=fun j ys h1 h2=>by
  obtain⟨q,zs,e1,e2,e3,_⟩:=si.re.at_ j _ h1;rw[h2]at e1;cases e1;rw[hp]at e3;cases e3
 have at_:∀(j:Nat) ys q,(ρ.set i (.mu ds))[j]?=some (.mu ys)→(σ.set i (some (.ref p)))[j]?=some (some (.ref q))→(j=i∧q=p)∨(j≠i∧ρ[j]?=some (.mu ys)∧σ[j]?=some (some (.ref q))):=fun j ys q h1 h2=>by
  by_cases e:j=i
  ·subst e;have hl:j<ρ.length:=by simpa using (q8.mp h1).1
   rw[rj (by rw[←si.re.len];exact hl)]at h2
   cases h2;exact .inl ⟨rfl,rfl⟩
  ·rw[rn (Ne.symm e)]at h1 h2;exact .inr ⟨e,h1,h2⟩
 refine⟨⟨⟨dom,by simp[si.re.len],fun j s e=>?_⟩,si.dom0,fun a z=>.inl (si.sup a z),si.same.trans sm,fun a b ys zs q h1 h2 h3 h4=>?_,fun a ys q h1 h2=>?_⟩,mv⟩
 ·by_cases hj:j=i
  ·subst hj;have hl:j<ρ.length:=by simpa using (q8.mp e).1
   rw[rj hl]at e;cases e;rw[rj (by rw[←si.re.len];exact hl)]
   exact⟨p,xs,rfl,.inr rfl,d7,rl.gen (aO.own hk)⟩
  ·rw[rn (Ne.symm hj)]at e ⊢;exact re'.at_ j s e
 ·rcases at_ a ys q h1 h3 with ⟨ea,eq⟩|⟨na,q1,q2⟩
  ·rcases at_ b zs q h2 h4 with ⟨eb,_⟩|⟨nb,q3,q4⟩
   ·rw[ea,eb]
   ·subst eq;exact(slotp b zs q3 q4).elim
  ·rcases at_ b zs q h2 h4 with ⟨eb,eq⟩|⟨nb,q3,q4⟩
   ·subst eq;exact(slotp a ys q1 q2).elim
   ·exact si.dist a b ys zs q q1 q3 q2 q4
 ·rcases at_ a ys q h1 h2 with ⟨ea,eq⟩|⟨na,q1,q2⟩
  ·subst eq;exact si.same.free hp
  ·exact si.own a ys q q1 q2
theorem SInv.write(si:SInv K T S₀ H₀ S ρ σ H){i:Nat}{ds ds':D}{p:Addr}{jt:HO}(hi:ρ[i]?=some (.mu ds))(hp:σ[i]?=some (some (.ref p)))(rl:lV K T H S ds' jt) :
  SInv K T S₀ H₀ S (ρ.set i (.mu ds')) σ (upd H p jt)∧aO K H (upd H p jt) S S:=by
 obtain⟨q,zs,e1,e2,e3,_⟩:=si.re.at_ i _ hi;rw[hp]at e1;cases e1;have mv:aO K H (upd H p jt) S S:=fun a n _=>⟨n,fun o e=>by rw[aN (fun z=>n (by rw[z];exact e2))];exact e⟩
 have dom:∀a,S a→∃o,upd H p jt a=some o:=fun a z=>by
  by_cases e:a=p
  ·exact⟨jt,by rw[e];exact aM⟩
  ·obtain⟨o,q⟩:=si.re.dom a z;exact⟨o,by rw[aN e];exact q⟩
 have hl:i<ρ.length:=(q8.mp hi).1
 have old:∀(j:Nat) ys,(ρ.set i (.mu ds'))[j]?=some (.mu ys)→∃zs,ρ[j]?=some (.mu zs):=fun j ys h=>by
  by_cases e:j=i
  ·exact⟨ds,by rw[e];exact hi⟩
  ·rw[rn (Ne.symm e)]at h;exact⟨ys,h⟩
 refine⟨⟨⟨dom,by simp[si.re.len],fun j s e=>?_⟩,si.dom0,si.sup,fun b o e=>?_,fun a b ys zs q h1 h2 h3 h4=>?_,fun a ys q h1 h2=>?_⟩,mv⟩
 ·by_cases hj:j=i
  ·subst hj;rw[rj hl]at e;cases e;exact⟨p,jt,hp,e2,aM,rl.gen mv⟩
  ·rw[rn (Ne.symm hj)]at e;have h:=si.re.at_ j s e
   cases s with
   |un=>trivial
   |im d=>obtain⟨v,e4,r⟩:=h;exact⟨v,e4,Rep.gen mv d v r⟩
   |mu ys =>
    obtain⟨q,ws,e4,e5,e6,r⟩:=h;refine⟨q,ws,e4,e5,?_,r.gen mv⟩;rw[aN]
    ·exact e6
    ·rintro rfl;exact hj (si.dist j i ys ds q e hi e4 hp)
 ·have ne:b≠p:=by
   rintro rfl;rw[si.own i ds b hi hp]at e;cases e
  rw[aN ne];exact si.same b o e
 ·obtain⟨iw,q1⟩:=old a ys h1;obtain⟨zs',q2⟩:=old b zs h2;exact si.dist a b iw zs' q q1 q2 h3 h4
 ·obtain⟨iw,q1⟩:=old a ys h1;exact si.own a iw q q1 h2
theorem iX:∀{is:List Nat} {ds:List D} {ρ ρ1:List Sl} {j:Nat} {xs:D},bL is ds ρ=some ρ1→ρ1[j]?=some (.mu xs)→j∉is∧ρ[j]?=some (.mu xs)
 |[],[],ρ,ρ1,j,xs,h,e=>by
  simp only[bL,qg]at h;subst h;exact⟨by simp,e⟩
 |i::is,d::ds,ρ,ρ1,j,xs,h,e=>by
  simp only[bL]at h;obtain⟨n,q⟩:=iX h e;have ne:j≠i:=by
   rintro rfl;have hl:j<ρ.length:=by simpa using (q8.mp q).1
   rw[rj hl]at q;cases q
  rw[rn (Ne.symm ne)]at q;exact⟨by simp[n,ne],q⟩
 |[],_::_,_,_,_,_,h,_=>by simp[bL]at h
 |_::_,[],_,_,_,_,h,_=>by simp[bL]at h
theorem oQ{is:List Nat}{tp:Bool}{d:D}{j:Nat}{xs:D}(h:bK is tp d ρ=some ρ1)(e:ρ1[j]?=some (.mu xs)):j∉is∧ρ[j]?=some (.mu xs):=by
 unfold bK at h;split at h
 ·split at h
  ·exact iX h e
  ·cases h
 ·exact iX h e
theorem SInv.bind(si:SInv K T S₀ H₀ S ρ σ H){is:List Nat}{tp:Bool}{d:D}(h:bK is tp d ρ=some ρ1)(re:RE K T H S ρ1 σ1)(ag:∀j,j∉is→σ1[j]?=σ[j]?):SInv K T S₀ H₀ S ρ1 σ1 H:=by
 refine⟨re,si.dom0,si.sup,si.same,fun a b xs ys p h1 h2 h3 h4=>?_,fun a xs p h1 h2=>?_⟩
 ·obtain⟨n1,q1⟩:=oQ h h1;obtain⟨n2,q2⟩:=oQ h h2;rw[ag a n1]at h3;rw[ag b n2]at h4;exact si.dist a b xs ys p q1 q2 h3 h4
 ·obtain⟨n1,q1⟩:=oQ h h1;rw[ag a n1]at h2;exact si.own a xs p q1 h2
theorem RE.view(re:RE K T H S ρ σ):RE K T H (fun _=>False) (view ρ) σ:=by
 refine⟨fun a z=>z.elim,by simp[Z.view,re.len],fun i s e=>?_⟩
 unfold Z.view at e;rw[qk]at e;cases h:ρ[i]? with
 |none=>rw[h]at e;cases e
 |some s' =>
  rw[h]at e;cases e;have r:=re.at_ i s' h
  cases s' with
  |un=>trivial
  |im d=>obtain⟨v,e1,r⟩:=r;exact⟨v,e1,Rep.mono (fun _ z=>z.elim) (fun _ _ _ e=>e) d v r⟩
  |mu ds =>
   obtain⟨p,xs,e1,_,e3,r⟩:=r;exact⟨.ref p,e1,r.rep e3 (fun z=>z) fun _ z=>z.elim⟩
theorem GW{d:D}{v:V}(h:xN d=true)(r:Rep K T H S d v):Rep K T H S' d v:=by
 cases d<;>first|(simp only[xN,qr]at h;done)|(unfold Rep at r ⊢;exact r)
end
variable {CX:au}{G:GS}{T:Tx}{lv:Nat}{X:Cx}{c:CC}{S₀:Addr→Prop}{H₀:Hp}{fr:Bool}{EX:Str→Hp→Prop}{pos:Pos}
noncomputable def LZ(K:va)(T:Tx)(S₀:Addr→Prop)(H₀:Hp)(fr:Bool)(EX:Str→Hp→Prop)(H:Hp)(S:Addr→Prop)(D:Ends):Out→Prop
 |.nx ρ=>∀S' σ' H',SInv K T S₀ H₀ S' ρ σ' H'→aO K H H' S S'→D.nx σ' H'
 |.bk ρ=>∀S' σ' H',SInv K T S₀ H₀ S' ρ σ' H'→aO K H H' S S'→D.bk σ' H'
 |.ct ρ=>∀S' σ' H',SInv K T S₀ H₀ S' ρ σ' H'→aO K H H' S S'→D.ct σ' H'
 |.rt d=>∀v H',aI H₀ H'→Rep K T H' S₀ d v→(fr=true→qX K T S₀ H₀ H' d v)→D.rt v H'
 |.er c=>∀H',aI H₀ H'→EX c H'
def bY(K:va)(T:Tx)(S₀:Addr→Prop)(H₀:Hp)(fr:Bool)(EX:Str→Hp→Prop)(G:GS)(is:IS):TS:=fun D σ H=>∃ρ out S,ex G is ρ=some out∧SInv K T S₀ H₀ S ρ σ H∧LZ K T S₀ H₀ fr EX H S D out
structure XS (CX:au) (T:Tx) (X:Cx) (c:CC) (EX:Str→Hp→Prop):Prop where
 kind:X.env.scope.kind=.function
 pass:PassesOwn (model X.prog X.w) X.A X.env X.xe
 rse:∀x m j p p' q pos,aW c x=true→c.cls.contains x=true→PS X (.Raise (some (.Call (.Name x p) [.Constant (.str m) j p'] [] q)) none pos) (fun D σ H=>EX x H)
 pss:∀E1:XK,(∀cls H',E1 cls none H'→∃k C,T.xc k=some C∧cls=.ref C∧EX k H')→fT CX X E1
 stk:X.stack=X.env::X.outer
 frm:X.env.frame=some X.env.locals
theorem LZ.step{K:va}{H H':Hp}{S S':Addr→Prop}{D:Ends}{o:Out}(mv:aO K H H' S S')(h:LZ K T S₀ H₀ fr EX H S D o):LZ K T S₀ H₀ fr EX H' S' D o:=by
 cases o with
 |nx ρ=>exact fun S2 σ2 H2 si m=>h S2 σ2 H2 si (mv.trans m)
 |bk ρ=>exact fun S2 σ2 H2 si m=>h S2 σ2 H2 si (mv.trans m)
 |ct ρ=>exact fun S2 σ2 H2 si m=>h S2 σ2 H2 si (mv.trans m)
 |rt d=>exact h
 |er c=>exact h
theorem oA{e:IE}{ρ:List Sl}{d:D}(h:fi G e ρ=some d):ev G e ρ=some d∨(ev G e (view ρ)=some d∧xN d=true):=by
 unfold fi at h;split at h
 ·rename_i h1;cases h;exact .inl h1
 ·split at h
  ·rename_i h2;split at h
   ·rename_i h3;cases h;exact .inr ⟨h2,h3⟩
   ·cases h
  ·cases h
theorem nO(xc:XC CX X c G T lv){n:Nat}{e:Expr}{ir:IE}{ρ:List Sl}{d:D}{S:Addr→Prop}(he:cE n c e=some ir)(h:fi G ir ρ=some d):PE X e (tD X.K T S ρ d):=by
 rcases oA h with h|⟨h,hs⟩
 ·exact((eG n).1 X c S ρ e ir xc he d h).1
 ·exact PE.mono ((eG n).1 X c (fun _=>False) (view ρ) e ir xc he d h).1 fun σ H Q ⟨re,q⟩=>⟨re.view,fun v H' sm r=>q v H' sm (GW hs r)⟩
theorem OD:PS X (.Pass pos) (bY X.K T S₀ H₀ fr EX G .nop):=fun pins s σ H D I ⟨ρ,out,S,hx,si,po⟩=>by
 simp only[ex,qg]at hx;subst hx;exact PY pins s σ H D I (po S σ H si aO.refl)
theorem OB:PS X (.Return none pos) (bY X.K T S₀ H₀ fr EX G .retn):=fun pins s σ H D I ⟨ρ,out,S,hx,si,po⟩=>by
 simp only[ex,qg]at hx;subst hx;exact PX pins s σ H D I (po .non H si.same (by unfold Rep;rfl) fun _ ds e=>by cases e)
theorem OC(xc:XC CX X c G T lv){x:Str}{p:Pos}{i:Nat}(e:cV c x=some i):PS X (.Return (some (.Name x p)) pos) (bY X.K T S₀ H₀ fr EX G (.retm i)):=fun pins s σ H D I ⟨ρ,out,S,hx,si,po⟩=>by
 simp only[ex]at hx;split at hx
 ·rename_i ds hi;cases hx;obtain⟨q,xs,e1,e2,e3,rl⟩:=si.re.at_ i _ hi;have hn:=si.own i ds q hi e1
  have n0:¬S₀ q:=fun z=>by obtain⟨o,z⟩:=si.dom0 q z;rw[hn]at z;cases z
  refine iO (vK xc e) pins s σ H D I ⟨_,e1,po (.ref q) H si.same ?_ fun _ ds' z=>?_⟩
  ·exact rl.rep e3 n0 si.sup
  ·subst z;obtain⟨ys,rfl,rl'⟩:=rl.lst;exact⟨q,ys,rfl,hn,e3,aE.disown e2 si.sup rl'⟩
 ·cases hx
theorem WU(xc:XC CX X c G T lv){n:Nat}{e:Expr}{ir:IE}{b:Bool}(he:cE n c e=some ir)(hb:b=true→gI c e=true)(aw:fr=true→b=true):PS X (.Return (some e) pos) (bY X.K T S₀ H₀ fr EX G (.ret b ir)):=fun pins s σ H D I ⟨ρ,out,S,hx,si,po⟩=>by
 simp only[ex,qx]at hx;obtain⟨d,hd,rfl⟩:=hx;have plain:(∀ds,d=.lst ds→fr=false)→wpAny (model X.prog X.w) X.A (exec (.Return (some e) pos) X.env) (SP X pins D) X.xe s:=fun hn =>
  iO (nO (S:=S) xc he hd) pins s σ H D I ⟨si.re,fun v H' sm r=>po v H' (si.same.trans sm) (Rep.mono si.sup (fun _ _ _ e=>e) d v r) fun z ds e=>by rw[hn ds e]at z;cases z⟩
 cases hf:fr with
 |false=>exact plain fun _ _=>hf
 |true =>
  by_cases hl:∃ds,d=.lst ds
  ·obtain⟨ds,rfl⟩:=hl;have ke:ev G ir ρ=some (.lst ds):=by
    rcases oA hd with h|⟨_,h⟩
    ·exact h
    ·cases h
   refine iO (((eG n).1 X c S ρ e ir xc he _ ke).2 (hb (aw hf)) ds rfl) pins s σ H D I ⟨si.re,fun p xs H' sm hp d7 rl=>po (.ref p) H' (si.same.trans sm) ?_ fun _ ds' z=>?_⟩
   ·unfold Rep;exact⟨p,xs,rfl,fun z=>si.re.nS hp (si.sup p z),d7,aE.mono si.sup (fun _ _ _ e=>e) _ _ rl.er⟩
   ·cases z;exact⟨p,xs,rfl,si.same.free hp,d7,aE.mono si.sup (fun _ _ _ e=>e) _ _ rl⟩
  ·exact plain fun ds e=>(hl ⟨ds,e⟩).elim
theorem aCc(xc:XC CX X c G T lv){n:Nat}{t:Expr}{ir:IE}{a b:List Stmt}{ia ib:IS}(ht:cT n c t=some ir)(ha:PSs X a (bY X.K T S₀ H₀ fr EX G ia))(hb:PSs X b (bY X.K T S₀ H₀ fr EX G ib)) :
  PS X (.If t a b pos) (bY X.K T S₀ H₀ fr EX G (.iff ir ia ib)):=fun pins s σ H D I ⟨ρ,out,S,hx,si,po⟩=>by
 simp only[ex,qo,qi]at hx;obtain⟨w,hw,hx⟩:=hx;cases w<;>first|(simp only[reduceCtorEq]at hx;done)|skip
 rename_i k;refine UH ((eG n).2.1 X c (fun _=>False) (view ρ) t ir xc ht k hw) ha hb pins s σ H D I ⟨si.re.view,fun H' sm=>?_⟩
 cases k with
 |true=>exact EW ⟨ρ,out,S,hx,si.step sm,po.step (aO.same sm)⟩
 |false=>exact oY ⟨ρ,out,S,hx,si.step sm,po.step (aO.same sm)⟩
theorem WW:PSs X [] (bY X.K T S₀ H₀ fr EX G .nop):=fun pins s σ H D I ⟨ρ,out,S,hx,si,po⟩=>by
 simp only[ex,qg]at hx;subst hx;exact rO pins s σ H D I (po S σ H si aO.refl)
theorem WS{st:Stmt}{rest:List Stmt}{a b:IS}(ha:PS X st (bY X.K T S₀ H₀ fr EX G a))(hb:PSs X rest (bY X.K T S₀ H₀ fr EX G b)):PSs X (st::rest) (bY X.K T S₀ H₀ fr EX G (.seq a b)):=fun pins s σ H D I ⟨ρ,out,S,hx,si,po⟩=>by
 simp only[ex,qo,qi]at hx;obtain⟨o,ho,hx⟩:=hx;refine iM ha hb pins s σ H D I ⟨ρ,o,S,ho,si,?_⟩;cases o with
 |nx ρ'=>exact fun S' σ' H' fy mv=>⟨ρ',out,S',hx,fy,po.step mv⟩
 |bk ρ'=>simp only[qg]at hx;subst hx;exact po
 |ct ρ'=>simp only[qg]at hx;subst hx;exact po
 |rt d=>simp only[qg]at hx;subst hx;exact po
 |er d=>simp only[qg]at hx;subst hx;exact po
theorem WT(xs:XS CX T X c EX){x:Str}{m:Str}{j:Nat}{p p' q:Pos}(hg:aW c x=true)(hc:c.cls.contains x=true):PS X (.Raise (some (.Call (.Name x p) [.Constant (.str m) j p'] [] q)) none pos) (bY X.K T S₀ H₀ fr EX G (.rse x)):=fun pins s σ H D I ⟨ρ,out,S,hx,si,po⟩=>by
 simp only[ex]at hx;split at hx
 ·cases hx;exact xs.rse x m j p p' q pos hg hc pins s σ H D I (po H si.same)
 ·cases hx
theorem NY(xc:XC CX X c G T lv){n:Nat}{es:List Expr}{k:Nat}{p:Pos}{e:Expr}{ir:IE}{is:List Nat}(hn:eX c es=some is)(he:cE n c e=some ir)(hnt:∀vs k p,e≠.Tuple vs k p) :
  PS X (.Assign [.Tuple es k p] e pos) (bY X.K T S₀ H₀ fr EX G (.sett is ir)):=fun pins s σ H D I ⟨ρ,out,S,hx,si,po⟩=>by
 simp only[ex,qo,qi,qx]at hx;obtain⟨d,hd,ρ1,hb,rfl⟩:=hx;have ez:cZ c (.Tuple es k p)=some (is,true):=by simp only[cZ,hn,ud]
 refine HP ((eG n).1 X c S ρ e ir xc he d hd).1 (YI xc (S:=S) ez hb) ?_ ?_ rfl pins s σ H D I ⟨si.re,fun v H' sm r=>⟨si.re.same sm,r,fun σ' re' ag=>po S σ' H' ((si.step sm).bind hb re' ag) (aO.same sm)⟩⟩
 ·cases e<;>rfl
 ·cases e<;>first|rfl|exact absurd rfl (hnt _ _ _)
end Z
namespace Z
open PySem PySem.Spec PyProof.Rows L2
variable {CX:au}{G:GS}{T:Tx}{lv:Nat}{X:Cx}{c:CC}{S₀:Addr→Prop}{H₀:Hp}{fr:Bool}{EX:Str→Hp→Prop}{pos:Pos}
noncomputable def nR:Expr→Bool
 |.ListComp _ _ _ _=>true
 |_=>false
theorem uP{n:Nat}{c:CC}{e:Expr}{ir:IE}(h:cE n c e=some ir)(hc:nR e=false)(t:Expr)(l:Nat)(env:Env):swapsWith e (some t) l env=pure false:=by
 cases e<;>first|rfl|exact nomatch (show true=false from hc)|(cases n<;>exact nomatch (show none=some ir from h))
theorem nG{elt:Expr}{gs:List Comprehension}{sc:Scope}{p px:Pos}{x:Str}{l:Nat}{env:Env}:∃b,swapsWith (.ListComp elt gs sc p) (some (.Name x px)) l env=pure b:=⟨_,rfl⟩
theorem jY{n:Nat}{elt:Expr}{gs:List Comprehension}{sc:Scope}{p:Pos}{ir:IE}{ρ:List Sl}{d:D}(xc:XC CX X c G T lv)(h:cE n c (.ListComp elt gs sc p)=some ir)(hd:ev G ir ρ=some d)(S:Addr→Prop) :
  ∃tg iter ifs fr aT tp ds outs f,gs=[⟨tg,iter,ifs,0⟩]∧d=.lst outs∧jZ c sc=true∧freeOf c sc (sc.names.filter fun x=>x.2 == .free)=some fr∧aT.all (fun i=>(fr.lookup i).isNone)=true∧cZ { c with N:=ownNames sc,sc:=sc } tg=some (aT,tp) ∧
   PI X tg iter (tI X.K T S ρ ds)∧(∀x,foldedSetIterable iter X.env x=pure x)∧bU f ds=some outs ∧
   (∀d o,f d=some o→∃ρ1,bK aT tp d (frame (ownNames sc).length fr ρ)=some ρ1∧TurnOk CX G T lv { c with N:=ownNames sc,sc:=sc } X.K ifs elt ρ1 o):=by
 cases n with
 |zero=>exact nomatch (show none=some ir from h)
 |succ n =>
  obtain⟨hE,hT,hB,hA,hI⟩:=eG (CX:=CX) (G:=G) (T:=T) (lv:=lv) n;exact CQ hE hT hI xc h hd
theorem JI{pins:ve}{σ:L2.St}{H:Hp}{s:Shared}{p:Addr}{o:HO}(I:Inv X pins σ H s)(h:H p=some o):X.K.lookup p=none:=by
 cases e:X.K.lookup p with
 |none=>rfl
 |some u=>rw[UQ I p u e]at h;cases h
def tNk(K:va)(T:Tx)(S:Addr→Prop)(ρ:List Sl)(ds:List D):TE:=fun σ H Q=>RE K T H S ρ σ∧∀p xs H',aI H H'→H p=none→K.lookup p=none→H' p=some (.lst xs)→aE K T (er H' p) S ds xs→Q (.ref p) H'
theorem aHF{e:Expr}{S:Addr→Prop}{ρ:List Sl}{ds:List D}(h:PE X e (ef X.K T S ρ ds)):PE X e (tNk X.K T S ρ ds):=fun pins s σ H Q I ⟨re,q⟩ =>
 af (h pins s σ H (fun v H'=>∃p xs,v=.ref p∧aI H H'∧H p=none∧H' p=some (.lst xs)∧aE X.K T (er H' p) S ds xs) I ⟨re,fun p xs H' a b c d=>⟨p,xs,rfl,a,b,c,d⟩⟩) fun u s1 ⟨v,H',I',r,p,xs,e,a,b,c,d⟩=>⟨v,H',I',r,by rw[e];exact q p xs H' a b (JI I' c) c d⟩
theorem OA(xc:XC CX X c G T lv){x:Str}{px nu pd:Pos}{i:Nat}(hx:fX c (.Name x nu)=some i):PS X (.Assign [.Name x px] (.Dict [] [] pd) pos) (bY X.K T S₀ H₀ fr EX G (.setd i)):=fun pins s σ H D I ⟨ρ,out,S,hex,si,po⟩=>by
 cases hex;obtain⟨hN,hk⟩:=gP hx;obtain⟨hl,hf⟩:=xc.loc hk;have pn:PE X (.Dict [] [] pd) (fun σ H Q=>∀p,H p=none→X.K.lookup p=none→Q (.ref p) (upd H p (.dK []))):=fun pins s σ H Q I q =>
  af (HY pins s σ H (fun v H'=>∃p,v=.ref p∧H p=none∧H'=upd H p (.dK [])) I fun p hp=>⟨p,rfl,hp,rfl⟩) fun u s1 ⟨v,H',I',r,p,e1,hp,e2⟩=>⟨v,H',I',r,by
   subst e1 e2;exact q p hp (JI I' (aM))⟩
 refine nM (by rw[xc.N];exact xc.nd) (by rw[xc.N];exact hN) hl pn rfl hf pins s σ H D I fun p hp hkp=>?_
 obtain⟨fy,mv⟩:=si.setm (i:=i) (ds:=.dct []) (xs:=.dK []) (aI.upd hp) hp hkp aM (.inr ⟨_,_,rfl,rfl,bC.nil⟩);exact po _ _ _ fy mv
theorem WR(xc:XC CX X c G T lv){n:Nat}{e:Expr}{ir:IE}{x:Str}{px nu:Pos}{i:Nat}(hx:fX c (.Name x nu)=some i)(he:cE n c e=some ir):PS X (.Assign [.Name x px] e pos) (bY X.K T S₀ H₀ fr EX G (.set i ir)):=fun pins s σ H D I ⟨ρ,out,S,hex,si,po⟩=>by
 simp only[ex,qx]at hex;obtain⟨d,hd,rfl⟩:=hex;obtain⟨hN,hk⟩:=gP hx;obtain⟨hl,hf⟩:=xc.loc hk;have plain:swapsWith e (some (.Name x px)) pos.line X.env=pure false→wpAny (model X.prog X.w) X.A (exec (.Assign [.Name x px] e pos) X.env) (SP X pins D) X.xe s:=fun hs =>
  nM (by rw[xc.N];exact xc.nd) (by rw[xc.N];exact hN) hl (nO (S:=S) xc he hd) hs hf pins s σ H D I ⟨si.re,fun v H' sm r=>po S _ H' ((si.step sm).set r) (aO.same sm)⟩
 cases hc:nR e with
 |false=>exact plain (uP he hc _ _ _)
 |true =>
  cases e<;>simp only[nR,qr]at hc
  rename_i elt gs sc p;obtain⟨b,hb⟩:=nG (elt:=elt) (gs:=gs) (sc:=sc) (p:=p) (px:=px) (x:=x) (l:=pos.line) (env:=X.env);cases b with
  |false=>exact plain hb
  |true =>
   have ke:ev G ir ρ=some d:=by
    rcases oA hd with h|⟨h,hs⟩
    ·exact h
    ·obtain⟨_,_,_,_,_,_,_,outs,_,_,rfl,_⟩:=jY xc he h (fun _=>False)
     cases hs
   obtain⟨tg,iter,ifs,fr',aT,tp,ds,outs,f,rfl,rfl,h1,h2,h3,h4,h5,h6,h7,h8⟩:=jY xc he ke S;exact zV xc h1 h2 h3 h4 h5 h6 (px:=px) (by simp only[fX]at hx ⊢;exact hx) hb h7 h8 pins s σ H D I ⟨si.re,fun p xs H' sm hp d7 rl=>po S _ H' ((si.step sm).set (by unfold Rep;exact⟨p,xs,rfl,si.re.nS hp,d7,rl.er⟩)) (aO.same sm)⟩
theorem NZ(xc:XC CX X c G T lv){n:Nat}{e:Expr}{ir:IE}{x:Str}{px nu:Pos}{i:Nat}(hx:fX c (.Name x nu)=some i)(he:cE n c e=some ir)(aw:gI c e=true):PS X (.Assign [.Name x px] e pos) (bY X.K T S₀ H₀ fr EX G (.setm i ir)):=fun pins s σ H D I ⟨ρ,out,S,hex,si,po⟩=>by
 simp only[ex,qo,qi]at hex;obtain⟨d,hd,hex⟩:=hex;cases d<;>first|(simp only[reduceCtorEq]at hex;done)|skip
 rename_i outs;simp only[qg]at hex;subst hex;obtain⟨hN,hk⟩:=gP hx;obtain⟨hl,hf⟩:=xc.loc hk;have pn:=((eG n).1 X c S ρ e ir xc he _ hd).2 aw outs rfl
 have plain:swapsWith e (some (.Name x px)) pos.line X.env=pure false→wpAny (model X.prog X.w) X.A (exec (.Assign [.Name x px] e pos) X.env) (SP X pins D) X.xe s:=fun hs =>
  nM (by rw[xc.N];exact xc.nd) (by rw[xc.N];exact hN) hl (aHF pn) hs hf pins s σ H D I ⟨si.re,fun p xs H' sm hp hkp d7 rl=>by
   obtain⟨fy,mv⟩:=si.setm (i:=i) (ds:=.lst outs) sm hp hkp d7 (.inl ⟨_,_,rfl,rfl,rl⟩);exact po _ _ H' fy mv⟩
 cases hc:nR e with
 |false=>exact plain (uP he hc _ _ _)
 |true =>
  cases e<;>simp only[nR,qr]at hc
  rename_i elt gs sc p;obtain⟨b,hb⟩:=nG (elt:=elt) (gs:=gs) (sc:=sc) (p:=p) (px:=px) (x:=x) (l:=pos.line) (env:=X.env);cases b with
  |false=>exact plain hb
  |true =>
   obtain⟨tg,iter,ifs,fr',aT,tp,ds,outs',f,rfl,e1,h1,h2,h3,h4,h5,h6,h7,h8⟩:=jY xc he hd S;cases e1;refine ub (zV xc h1 h2 h3 h4 h5 h6 (px:=px) (by simp only[fX]at hx ⊢;exact hx) hb h7 h8 pins s σ H ⟨fun σ' H'=>∃p xs,σ'=σ.set i (some (.ref p))∧aI H H'∧H p=none∧H' p=some (.lst xs)∧aE X.K T (er H' p) S outs xs,fun _ _=>False,fun _ _=>False,fun _ _=>False⟩ I ⟨si.re,fun p xs H' sm hp d7 rl=>⟨p,xs,rfl,sm,hp,d7,rl⟩⟩) (fun f s' q=>?_) fun _ _ z=>z
   cases f with
   |next =>
    obtain⟨σ',H',I',p,xs,rfl,sm,hp,d7,rl⟩:=q;obtain⟨fy,mv⟩:=si.setm (i:=i) (ds:=.lst outs) sm hp (JI I' d7) d7 (.inl ⟨_,_,rfl,rfl,rl⟩);exact⟨_,H',I',po _ _ H' fy mv⟩
   |brk=>obtain⟨_,_,_,z⟩:=q;exact z.elim
   |cont=>obtain⟨_,_,_,z⟩:=q;exact z.elim
   |ret u=>obtain⟨_,_,_,_,_,z⟩:=q;exact z.elim
end Z
namespace Z
open PySem PySem.Spec PyProof.Rows L2
variable {CX:au}{G:GS}{T:Tx}{lv:Nat}{X:Cx}{c:CC}{S₀:Addr→Prop}{H₀:Hp}{fr:Bool}{EX:Str→Hp→Prop}{pos:Pos}
theorem XA(xc:XC CX X c G T lv){n:Nat}{e:Expr}{ir:IE}{x:Str}{i:Nat}{p1 p2 p:Pos}(hx:cV c x=some i)(hl:(p2.endLine == p.line)=true)(he:cE n c e=some ir) :
  PS X (.Expr (.Call (.Attribute (.Name x p1) "append" p2) [e] [] p) pos) (bY X.K T S₀ H₀ fr EX G (.app i ir)):=fun pins s σ H D I ⟨ρ,out,S,hex,si,po⟩=>by
 simp only[ex,qo,qi]at hex;obtain⟨d,hd,hex⟩:=hex;split at hex
 ·rename_i ds hi;split at hex
  ·rename_i hz;cases hex;obtain⟨q,ob,e1,e2,e3,rm⟩:=si.re.at_ i _ hi;obtain⟨xs,rfl,rl⟩:=rm.lst;have st:=(dW he).star X.env []
   refine kI (IA plainAttrs_list PySem.F.slot_list_append PySem.F.type_list_append pY (vK xc hx) (bJ (nO (S:=S) xc he hd) gG st) rfl ?_ hl st rfl) rfl pins s σ H D I ⟨.ref q,e1,.inl ⟨rfl,xs,SqL.of e3⟩,si.re,fun v H' sm r=>⟨q,xs,v,rfl,rfl,sm _ _ e3,?_,?_⟩⟩
   ·rw[st];rfl
   ·rw[←rl.len];exact qz hz iY
   ·obtain⟨fy,mv⟩:=(si.step sm).write (ds':=.lst (ds++[d])) hi e1 (.inl ⟨_,_,rfl,rfl,(rl.same sm).app (aE.cons r aE.nil)⟩);exact po S σ _ fy ((aO.same sm).trans mv)
  ·cases hex
 ·cases hex
theorem aAd(n:Nat)(i:Int):Z.ixN n i=L2.ixN n i:=by
 unfold Z.ixN L2.ixN;rfl
theorem DQ{n:Nat}{c:CC}{e:Expr}{ir:IE}(h:cE n c e=some ir){o i:Expr}{p:Pos}{l:Nat}{env:Env}:swapsWith e (some (.Subscript o i p)) l env=pure false:=by
 cases e<;>first|rfl|(cases n<;>exact nomatch (show none=some ir from h))
theorem WV(xc:XC CX X c G T lv){n:Nat}{e k:Expr}{ir kr:IE}{x:Str}{i:Nat}{p1 p2:Pos}(hx:cV c x=some i)(hk:cE n c k=some kr)(he:cE n c e=some ir) :
  PS X (.Assign [.Subscript (.Name x p1) k p2] e pos) (bY X.K T S₀ H₀ fr EX G (.put i kr ir)):=fun pins s σ H D I ⟨ρ,out,S,hex,si,po⟩=>by
 simp only[ex,qo,qi]at hex;obtain⟨d,hd,ki,hki,hex⟩:=hex;split at hex
 ·rename_i o hi;obtain⟨o',ho,rfl⟩:=qx.mp hex;obtain⟨q,ob,e1,e2,e3,rm⟩:=si.re.at_ i _ hi;cases o<;>first|exact nomatch (show none=some o' from ho)|skip
  ·rename_i ds;obtain⟨j,hj,rfl⟩:=qx.mp ho;obtain⟨xs,rfl,rl⟩:=rm.lst;refine HP (nO (S:=S) xc he hd) (YH (vK xc hx) (nO (S:=S) xc hk (jU hki)) set_list ?_) ?_ ?_ rfl pins s σ H D I ⟨si.re,fun v H' sm r=>⟨.ref q,e1,(si.step sm).re,fun w H2 fm r2=>?_⟩⟩
   ·intro v;cases k<;>first|rfl|(cases n<;>exact nomatch (show none=some kr from hk))
   ·cases e<;>rfl
   ·cases e<;>rfl
   ·unfold Rep at r2;subst r2;refine⟨q,xs,ki,j,rfl,rfl,fm _ _ (sm _ _ e3),by rw[←rl.len,←aAd];exact hj,?_⟩
    obtain⟨fy,mv⟩:=(si.step (sm.trans fm)).write (ds':=.lst (ds.set j d)) hi e1 (.inl ⟨_,_,rfl,rfl,aE.set j (rl.same (sm.trans fm)) (r.same fm)⟩);exact po S σ _ fy ((aO.same (sm.trans fm)).trans mv)
  ·rename_i kvs;have ho:(if kvs.length<big then some (Z.D.dct (lF kvs ki d)) else none)=some o':=ho
   split at ho
   ·rename_i hz;cases ho;obtain⟨gs,rfl,rk⟩:=rm.dct;refine PZ (US xc.room) (vK xc hx) (nO (S:=S) xc hk (jU hki)) (nO (S:=S) xc he hd) (DQ he) pins s σ H D I ⟨si.re,fun v H' sm r=>⟨.ref q,e1,(si.step sm).re,fun w H2 fm r2=>?_⟩⟩
    unfold Rep at r2;subst r2;refine⟨q,_,rfl,NP.k (k:=Sum.inl ki) (fm _ _ (sm _ _ e3)) (by rw[←bC.len rk];exact qz hz iY),?_⟩
    obtain⟨fy,mv⟩:=(si.step (sm.trans fm)).write (ds':=.dct (lF kvs ki d)) hi e1 (.inr ⟨_,_,rfl,rfl,bC.put (r.same fm) (bC.gen (aO.same (S:=S) (sm.trans fm)) _ _ rk)⟩);exact po S σ _ fy ((aO.same (sm.trans fm)).trans mv)
   ·cases ho
 ·cases hex
theorem yV{bind:D→List Sl→Option (List Sl)}{body:List Sl→Option Out}{d:D}{r:List D}{ρ:List Sl}{out:Out}(h:eV bind body (d::r) ρ=some out):∃ρ1 o,bind d ρ=some ρ1∧body ρ1=some o ∧
  ((∃ρ2,o=.nx ρ2∧eV bind body r ρ2=some out)∨(∃ρ2,o=.ct ρ2∧eV bind body r ρ2=some out)∨(∃ρ2,o=.bk ρ2∧out=.nx ρ2)∨(∃d,o=.rt d∧out=o)∨∃x,o=.er x∧out=o):=by
 simp only[eV,qo,qi]at h;obtain⟨ρ1,h1,o,h2,h3⟩:=h;refine⟨ρ1,o,h1,h2,?_⟩;cases o<;>simp only[qg]at h3
 ·exact .inl ⟨_,rfl,h3⟩
 ·exact .inr (.inr (.inr (.inl ⟨_,rfl,h3.symm⟩)))
 ·exact .inr (.inr (.inl ⟨_,rfl,h3.symm⟩))
 ·exact .inr (.inl ⟨_,rfl,h3⟩)
 ·exact .inr (.inr (.inr (.inr ⟨_,rfl,h3.symm⟩)))
def gEx(K:va)(T:Tx)(is:List Nat)(tp:Bool):TG:=fun v σ H Q=>∃ρ S ρ1 d,bK is tp d ρ=some ρ1∧gD K T S is ρ ρ1 d v σ H Q
theorem WY(xc:XC CX X c G T lv)(xs:XS CX T X c EX){n:Nat}{tg iter:Expr}{body:List Stmt}{aT:List Nat}{tp:Bool}{k:Src}{src:IE}{ib:IS}(ez:cZ c tg=some (aT,tp))(hi:cI n c iter=some (k,src))(lp:LY k tg)(hb:PSs X body (bY X.K T S₀ H₀ fr EX G ib)) :
  PS X (.For tg iter body [] pos) (bY X.K T S₀ H₀ fr EX G (.loop aT tp k src ib)):=fun pins s σ H D I ⟨ρ,out,S,hex,si,po⟩=>by
 simp only[ex,qo,qi]at hex;obtain⟨d,hd,ds,bp,kc⟩:=hex;obtain⟨hit,hset⟩:=(eG n).2.2.2.2 X c S ρ iter k src xc hi d ds hd bp;have hg:PG X tg (gEx X.K T aT tp):=fun pins s σ H v u Q I r ⟨ρ,S,ρ1,d,hbn,h⟩=>YI xc ez hbn pins s σ H v u Q I r h
 refine YE xs.pass xc.calm (hit tg lp) hg hb hset pins s σ H D I ⟨si.re,fun J H1 sm jy hlen=>?_⟩
 refine⟨fun i m σ H=>∃ρi Si,m=ds.length-i∧i≤ds.length∧eV (bK aT tp) (ex G ib) (ds.drop i) ρi=some out∧SInv X.K T S₀ H₀ Si ρi σ H∧aO X.K H1 H S Si,⟨ds.length,ρ,S,by simp,uw _,by simpa using kc,si.step sm,aO.refl⟩,?_⟩
 rintro i m σ' H' ⟨ρi,Si,rfl,hile,ox,sii,mv⟩;obtain⟨it1,it2⟩:=jy H' Si mv sii.re.dom;have po':LZ X.K T S₀ H₀ fr EX H' Si D out:=po.step ((aO.same sm).trans mv)
 by_cases dw:i<ds.length
 ·refine .inr ?_;have hdr:ds.drop i=ds[i]::ds.drop (i+1):=List.drop_eq_getElem_cons dw
  rw[hdr]at ox;obtain⟨ρ1,o,hbn,hbo,hcase⟩:=yV ox;obtain⟨hgo',hy⟩:=it1 i ds[i] (by simp[dw])
  refine⟨hgo',fun σ2 H2=>∃ρ2 S2,eV (bK aT tp) (ex G ib) (ds.drop (i+1)) ρ2=some out∧SInv X.K T S₀ H₀ S2 ρ2 σ2 H2∧aO X.K H1 H2 S S2,fun σ2 H2 ⟨ρ2,S2,a,b,c⟩=>⟨ds.length-(i+1),by lia,ρ2,S2,rfl,dw,a,b,c⟩,fun x H2 hyl=>?_⟩
  obtain⟨s2,rx⟩:=hy x H2 hyl;refine⟨ρi,Si,ρ1,ds[i],hbn,(sii.step s2).re,rx,fun σ3 re3 ag=>⟨ρ1,o,Si,hbo,(sii.step s2).bind hbn re3 ag,?_⟩⟩
  have mv2:aO X.K H1 H2 S Si:=mv.trans (aO.same s2)
  rcases hcase with ⟨ρ2,rfl,hr⟩|⟨ρ2,rfl,hr⟩|⟨ρ2,rfl,rfl⟩|⟨d',rfl,rfl⟩|⟨x',rfl,rfl⟩
  ·exact fun S3 σ4 H4 nj nz=>⟨ρ2,S3,hr,nj,mv2.trans nz⟩
  ·exact fun S3 σ4 H4 nj nz=>⟨ρ2,S3,hr,nj,mv2.trans nz⟩
  ·exact fun S3 σ4 H4 nj nz=>po' S3 σ4 H4 nj ((aO.same s2).trans nz)
  ·exact po'
  ·exact po'
 ·have hn:i=ds.length:=by lia
  refine .inl ⟨it2 i (by lia),?_⟩
  rw[hn,uz]at ox;simp only[eV,qg]at ox;subst ox;exact po' Si σ' H' sii aO.refl
end Z
namespace Z
open PySem PySem.Spec PyProof.Rows L2
variable {CX:au}{G:GS}{T:Tx}{lv:Nat}{X:Cx}{c:CC}{S₀:Addr→Prop}{H₀:Hp}{fr:Bool}{EX:Str→Hp→Prop}{pos:Pos}
theorem RK(h:XC CX X c G T lv){S:Addr→Prop}{ρ:List Sl}{x:Str}{es:List Expr}{ds:List D}{p:Pos}{k:Str}{C:Addr}{E1:XK}(hg:aW c x=true)(hf:c.fns.contains x=true)(ha:PA X es (c6 X.K T S ρ ds))(hs:starEach es X.env=es.map fun e=>(false,eval e X.env))(hlen:ds.length=es.length)
  (hd:G.fn x ds=some (.er k)) (hT:T.xc k=some C) (hp:fT CX X E1):PE X (.Call (.Name x p) es [] pos) (fun σ H Q=>RE X.K T H S ρ σ∧∀H',aI H H'→E1 (.ref C) none H'):=by
 obtain⟨f,fd,ps,hm,hk,hb,hl,F⟩:=h.go.fn x hf;have key:∀σ H Q,(RE X.K T H S ρ σ∧∀H',aI H H'→E1 (.ref C) none H')→uO (iy X.K T ps.length (G.fn x) (G.ff x)) [] E1 (c6 X.K T S ρ ds) σ H Q:=fun σ H Q ⟨re,q⟩ =>
  ⟨re,fun vs H1 s1 r1=>⟨by rw[sq,←r1.len];exact hl ds _ hd,S,ds,(re.same s1).dom,by rw[sq];exact r1,.inr ⟨k,C,hd,hT,fun H' s2=>q H' (s1.trans s2)⟩⟩⟩
 cases es with
 |nil =>
  refine PE.mono (vF F h.room (h.glob hg) hm hk hb .nil hp (h.gne hg)) fun σ H Q hq=>?_
  obtain⟨re,q⟩:=hq;have bp:ds=[]:=sr.mp hlen
  subst bp;exact(key σ H Q ⟨re,q⟩).2 [] H (aI.refl H) aE.nil
 |cons e es =>
  obtain⟨h1,h2⟩:=pQ (pos:=pos) hs;exact PE.mono (zZ F h.room (h.glob hg) hm hk hb .nil hp ha (h.gne hg) h1 h2) key
theorem RI(h:XC CX X c G T lv){S:Addr→Prop}{ρ:List Sl}{ea:Expr}{m cn:Str}{fs:List (Str×D)}{es:List Expr}{ds:List D}{apos:Pos}{k:Str}{C:Addr}{E1:XK}(ht:oT X ea m es apos pos)(ho:PE X ea (tD X.K T S ρ (.obj cn fs)))(hn:fs.lookup m=none)
  (ha:PA X es (c6 X.K T S ρ ds)) (hs:starEach es X.env=es.map fun e=>(false,eval e X.env)) (hlen:ds.length=es.length) (hd:G.me cn m (.obj cn fs::ds)=some (.er k)) (hT:T.xc k=some C) (hp:fT CX X E1) :
  PE X (.Call (.Attribute ea m apos) es [] pos) (fun σ H Q=>RE X.K T H S ρ σ∧∀H',aI H H'→E1 (.ref C) none H'):=by
 obtain⟨pl,ht⟩:=ht;intro pins s σ H Q I ⟨re,q⟩;refine PySem.W.methodCall_KW (pl:=pl) (af (ho pins s σ H (fun v H'=>aI H H'∧Rep X.K T H' S (.obj cn fs) v) I ⟨re,fun v H' a b=>⟨a,b⟩⟩) fun u s1 ⟨x,H1,I1,rx,sm,ro⟩=>?_) ht
 have ro':=ro
 unfold Rep at ro;obtain⟨p,C',dx,gs,ex,_,ec,e,rf⟩:=ro;subst ex;obtain rfl:u=Value.ref p:=rx;obtain⟨f,fd,ps,hm,hb,hl,F⟩:=h.go.me cn C' m _ _ ec hd;refine nU I1 e (h.go.cls cn C' ec) hm ((cD.look rf).2 hn) ?_;have fin:∀(us:List Value) (vs:List V) (s2:Shared) (H2:Hp),Inv X pins σ H2 s2→aS vs us→aI H1 H2→aE X.K T H2 S ds vs→wpAny (model X.prog X.w) X.A (call (.ref f) (.ref p::us)) (EP X pins σ Q) X.xe s2:=fun us vs s2 H2 I2 r2 fo rl=>by
  refine rL (us:=.ref p::us) (vs:=.ref p::vs) (dvs:=[]) (ds:=[]) (E:=E1) F h.room hb .nil hp I2 (.cons rfl r2) ?_;refine⟨?_,S,.obj cn fs::ds,((re.same sm).same fo).dom,?_,.inr ⟨k,C,hd,hT,fun H' s3=>q H' ((sm.trans fo).trans s3)⟩⟩
  ·have:=hl _ _ hd
   simp only[sq,uj]at this ⊢;rw[←rl.len];exact this
  ·rw[sq];exact aE.cons (ro'.same fo) rl
 cases es with
 |nil =>
  have bp:ds=[]:=sr.mp hlen
  subst bp;exact callWith_K0 (first:=[.ref p]) I1.kIn hm.kp (fin [] [] s1 H1 I1 .nil (aI.refl _) aE.nil)
 |cons e es =>
  obtain⟨h1,h2⟩:=pQ (pos:=pos) hs;refine callWith_K (first:=[.ref p]) (h₀:=X.base) I.ok.mod.kin hm.kp (af (ha pos pins s1 σ H1 (fun vs H'=>aI H1 H'∧aE X.K T H' S ds vs) I1 ⟨re.same sm,fun vs H' a b=>⟨a,b⟩⟩) fun us s2 ⟨vs,H2,I2,r,fo,rl⟩=>⟨I2.kIn,?_⟩) h1 h2
  exact fin us vs s2 H2 I2 r fo rl
theorem UO(xc:XC CX X c G T lv){S:Addr→Prop}{ρ:List Sl}{n:Nat}{f:Expr}{args:List Expr}{kw:List Keyword}{p:Pos}{ir:IE}{k:Str}{C:Addr}{E1:XK}(he:cE n c (.Call f args kw p)=some ir)(hr:gm G ir ρ=some (.er k))(hT:T.xc k=some C)(hp:fT CX X E1) :
  PE X (.Call f args kw p) (fun σ H Q=>RE X.K T H S ρ σ∧∀H',aI H H'→E1 (.ref C) none H'):=by
 cases n with
 |zero=>exact nomatch (show none=some ir from he)
 |succ n =>
  obtain⟨hE,kj,hB,hA,hI⟩:=eG (CX:=CX) (G:=G) (T:=T) (lv:=lv) n;obtain⟨hkw,he⟩:=bF he;obtain rfl:=kT hkw;cases f<;>first|exact nomatch (show none=some ir from he)|skip
  case Attribute o m ap _ =>
   obtain⟨hc,he⟩:=bF he;obtain⟨hc,hc3⟩:=cY hc;obtain⟨hc1,f6⟩:=cY hc;obtain⟨x,hx,he⟩:=aG he;obtain⟨y,hy,rfl⟩:=aQ he;simp only[gm]at hr;split at hr
   ·rename_i cn fs hw;obtain⟨hnone,hr⟩:=bF hr;obtain⟨ds,bp,hd⟩:=aG hr;obtain⟨ds',e1,hl,pa,hs⟩:=hA X _ S ρ args y xc hy _ (cG bp);cases e1;exact RI xc (vM hc1 hs (of_decide_eq_true f6) hc3) (hE X _ S ρ o x xc hx _ hw).1 (Option.isNone_iff_eq_none.mp hnone) pa hs hl hd hT hp
   ·cases hr
  case Name x px _ =>
   obtain⟨hg,he⟩:=bF he;cases hf:c.fns.contains x with
   |true =>
    rw[hf]at he;obtain⟨y,hy,rfl⟩:=aQ (show (cA n c args).map (fun y=>IE.call x y)=some ir from he)
    obtain⟨ds,bp,hd⟩:=aG (show (bG (ev G y ρ)).bind (G.fn x)=some (.er k) from hr)
    obtain⟨ds',e1,hl,pa,hs⟩:=hA X _ S ρ args y xc hy _ (cG bp);cases e1;exact RK xc hg hf pa hs hl hd hT hp
   |false =>
    exfalso
    rw[hf]at he;have no:∀{o:Option IE} {g:IE→IE},(∀y,gm G (g y) ρ=none)→o.map g=some ir→False:=fun {o g} hn z=>by
     obtain⟨y,_,rfl⟩:=aQ z;rw[hn y]at hr;cases hr
    cases az:c.cls.contains x with
    |true=>rw[az]at he;exact no (g:=fun y=>IE.mk x y) (fun _=>rfl) he
    |false =>
     rw[az]at he;cases hi:x == "isinstance" with
     |true =>
      rw[hi]at he;have he:GZ (cE n c) c args=some ir:=he
      match args,he with
      |[a,y],he =>
       obtain⟨y',_,he⟩:=aG he;obtain⟨_,he⟩:=bF he;exact no (g:=fun z=>IE.isi z y'.1) (fun _=>rfl) he
     |false =>
      rw[hi]at he;obtain⟨b,hb,he⟩:=aG (show (pE x).bind (fun b=>DX (cE n c) c b args (cA n c args))=some ir from he)
      unfold DX at he;have nb:∀b:BF,((cA n c args).map fun z=>IE.bcall b z)=some ir→False:=fun b he=>no (g:=fun z=>IE.bcall b z) (fun _=>rfl) he
      split at he
      ·rename_i i _;exact nb b he
      ·cases hra:xP c args with
       |none =>
        rw[hra]at he;cases hq:(one? args).bind (xO c) with
        |none=>rw[hq]at he;exact nb b (by cases b<;>exact he)
        |some a=>rw[hq]at he;cases b<;>first|exact nb _ he|exact no (g:=fun z=>IE.walk .rng (.tup (.cons z .nil))) (fun _=>rfl) he
       |some a=>rw[hra]at he;cases b<;>first|exact nb _ he|exact no (g:=fun z=>IE.walk .rev z) (fun _=>rfl) he
theorem OE(xc:XC CX X c G T lv)(xs:XS CX T X c EX){n:Nat}{f:Expr}{args:List Expr}{kw:List Keyword}{p:Pos}{ir:IE}(he:cE n c (.Call f args kw p)=some ir):PS X (.Expr (.Call f args kw p) pos) (bY X.K T S₀ H₀ fr EX G (.drop ir)):=fun pins s σ H D I ⟨ρ,out,S,hx,si,po⟩=>by
 simp only[ex]at hx;split at hx
 ·rename_i d hd;cases hx;exact kI ((eG n).1 X c (fun _=>False) (view ρ) _ ir xc he d hd).1 rfl pins s σ H D I ⟨si.re.view,fun v H' sm _=>po S σ H' (si.step sm) (aO.same sm)⟩
 ·split at hx
  ·rename_i k hk;split at hx
   ·rename_i hn;cases hx;obtain⟨C,hT⟩:=xc.go.xns k hn;refine kI (UO (S:=fun _=>False) (E1:=fun cls _ H'=>∃k C,T.xc k=some C∧cls=.ref C∧EX k H') xc he hk hT (xs.pss _ fun cls H' z=>z)) rfl pins s σ H D I ⟨si.re.view,fun H' sm=>⟨k,C,hT,rfl,po H' (si.same.trans sm)⟩⟩
   ·cases hx
  ·cases hx
theorem XC.re{X':Cx}(xc:XC CX X c G T lv)(h1:X'.prog=X.prog)(h2:X'.w=X.w)(h3:X'.K=X.K)(h4:X'.mg=X.mg)(h5:X'.base=X.base)(h6:X'.N=X.N)(h7:X'.env=X.env)(h8:X'.fn=X.fn)(h9:X'.calm=X.calm)(h10:X'.A=X.A):XC CX X' c G T lv:=by
 obtain⟨pr,w,K,mg,base,A,N,s0,H0,env,outer,stack,ex,fn,calm,pn,xe⟩:=X;obtain⟨pr',w',K',ft,base',A',N',s0',H0',env',outer',stack',ex',fn',calm',pn',xe'⟩:=X';dsimp only at h1 h2 h3 h4 h5 h6 h7 h8 h9 h10;subst h1 h2 h3 h4 h5 h6 h7 h8 h9 h10;exact⟨xc.N,xc.nd,xc.kd,xc.own,xc.dbg,xc.gdb,xc.calm,xc.room,⟨xc.go.fn,xc.go.me,xc.go.cls,xc.go.fld,xc.go.mo,xc.go.cst,xc.go.bi,xc.go.xcl,xc.go.frs,xc.go.cx0,xc.go.cxf,xc.go.xns,xc.go.xk,xc.go.sub,xc.go.wd,xc.go.dk⟩⟩
abbrev QC(X:Cx)(pins:ve)(W:vd):Cx:={ X with pn:=X.pn++pins,xe:=W }
theorem aAg{pins:ve}{σ:L2.St}{H:Hp}{s:Shared}{W:vd}(I:Inv X pins σ H s):Inv (QC X pins W) [] σ H s:=
 ⟨⟨I.ok.mod,I.ok.kind,I.ok.glob,I.ok.blt,I.ok.above,I.ok.inj,I.ok.has,I.ok.cab,I.ok.hd,I.ok.frames,I.ok.stk,I.ok.exf,I.ok.bs,I.ok.bsz,I.ok.noex,I.ok.exfs,I.ok.funs,I.ok.frf⟩,I.os,I.bare,I.base,I.loc,I.cell,I.free,I.freeC,fun p hp=>I.pin p (by simpa using hp),I.hok,I.len⟩
theorem JS{pins dj:ve}{σ:L2.St}{H:Hp}{s:Shared}{W:vd}(ok:X.Ok)(I:Inv (QC X pins W) dj σ H s):Inv X pins σ H s:=
 ⟨ok,I.os,I.bare,I.base,I.loc,I.cell,I.free,I.freeC,fun p hp=>I.pin p (tw _ hp),I.hok,I.len⟩
theorem aAA{ir:IE}{ρ:List Sl}{d:D}(h:gm G ir ρ=some (.ok d)):ev G ir ρ=some d:=by
 cases ir<;>simp only[gm,reduceCtorEq]at h
 ·simp only[ev,qo];cases q:bG (ev G _ ρ) with
  |none=>rw[q]at h;cases h
  |some as=>rw[q]at h;show iI (G.fn _ as)=_;rw[show G.fn _ as=_ from h];rfl
 ·simp only[ev,qo];split at h
  ·rename_i c fs hw;rw[hw];split at h
   ·rename_i hn;show (if _ then _ else _)=_
    rw[if_pos hn];cases q:bG (ev G _ ρ) with
    |none=>rw[q]at h;cases h
    |some as=>rw[q]at h;show iI (G.me _ _ _)=_;rw[show G.me _ _ _=_ from h];rfl
   ·cases h
  ·cases h
theorem CT{c:CC}{nm:Option Str}{e:Expr}{f:Str}(h:cW c nm e=some f):∃p1 y p2 p3,e=.Call (.Name f p1) [.Name y p2] [] p3∧nm=some y∧aW c f=true:=by
 obtain⟨q,h1,h⟩:=aG h;obtain⟨g,h2,h⟩:=aG h;obtain⟨a,h3,h⟩:=aG h;obtain⟨y,h4,h⟩:=aG h;obtain⟨h5,h⟩:=bF h;obtain⟨h5,h7⟩:=cY h5;obtain⟨h5,h6⟩:=cY h5;cases h;exact⟨g.2,y.1,y.2,q.2.2.2,by rw[eL h1,cL h2,bO h3,cL h4,kT h5],t7.mp h6,h7⟩
theorem aAF{c:CC}{nm:Option Str}{e:Expr}{r:HR}(h:cH c nm e=some r):(∃b j q,e=.Constant (.bool b) j q∧r=.lit (.bl b))∨(∃f p1 y p2 p3,e=.Call (.Name f p1) [.Name y p2] [] p3∧nm=some y∧aW c f=true∧r=.word f) ∨
  (∃f p1 y p2 p3 x j p4 p5,e=.Compare (.Call (.Name f p1) [.Name y p2] [] p3) [.Eq] [.Constant (.str x) j p4] p5∧nm=some y∧aW c f=true∧r=.weq f x):=by
 have wd:(cW c nm e).map HR.word=some r→(∃f p1 y p2 p3,e=.Call (.Name f p1) [.Name y p2] [] p3∧nm=some y∧aW c f=true∧r=.word f):=fun h=>by
  obtain⟨f,h1,rfl⟩:=aQ h;obtain⟨p1,y,p2,p3,a,b,d⟩:=CT h1;exact⟨f,p1,y,p2,p3,a,b,d,rfl⟩
 cases e<;>first|exact .inr (.inl (wd h))|skip
 case Compare e os bs p =>
  obtain⟨f,h1,h⟩:=aG h;obtain⟨o,h2,h⟩:=aG h;obtain⟨b,h3,h⟩:=aG h;obtain⟨x,h4,h⟩:=aG h;obtain⟨h5,h⟩:=bF h;cases h;obtain⟨p1,y,p2,p3,rfl,a,d⟩:=CT h1;obtain⟨j,p4,rfl⟩:=pN h4;have ho:o=.Eq:=by cases o<;>first|rfl|exact nomatch (show false=true from h5)
  subst ho;exact .inr (.inr ⟨f,p1,y,p2,p3,x,j,p4,p,by rw[bO h2,bO h3],a,d,rfl⟩)
 case Constant v k p =>
  cases v<;>first|exact .inr (.inl (wd h))|skip
  cases (show some _=some r from h)
  exact .inl ⟨_,_,_,rfl,rfl⟩
theorem uQ(xc:XC CX X c G T lv){nm:Option Str}{e:Expr}{r:HR}{rp:Pos}{a C:Addr}{k:Str}{d:D}{σ0:L2.St}{H1:Hp}{rt:VK}{S:Addr→Prop}(hr:cH c nm e=some r)(hd:gy G k r=some d)(hT:T.xc k=some C)(i9:∀n,nm=some n→∃i:Nat,c.N[i]?=some n∧c.sc.names.lookup n=some .local∧(n == ("__debug__":Str))=false∧(n == ("__classdict__":Str))=false∧σ0[i]?=some (some (V.ref a)))
  (hx:H1 a=some (.ext (isExc a C))) (hq:∀v H',aI H1 H'→Rep X.K T H' S d v→rt v H'):PSs (fR X a) [.Return (some e) rp] (fun D' σ' fx=>D'=lD rt∧σ'=σ0∧fx=H1):=by
 have word:∀{f y:Str} {p1 p2 p3:Pos} {x:Str},nm=some y→aW c f=true→G.wd f k=some x→PE (fR X a) (.Call (.Name f p1) [.Name y p2] [] p3) (fun σ' fx Q=>σ'=σ0∧fx=H1∧∀H',aI H1 H'→Q (.str x) H'):=fun {f y p1 p2 p3 x} e1 hg hw=>by
  obtain⟨i,h1,h2,h3,h4,h5⟩:=i9 y e1;obtain⟨fa,fd,ps,j,hj,hm,hk,hb,F⟩:=xc.go.wd f k x C hT hw;have kd:X.env.kindOf y=some .local:=by
   have:=xc.kd y
   rw[h2]at this;exact this
  have pv:PE (fR X a) (.Name y p2) (rH i):=lH (X:=fR X a) (by show X.N[i]?=_;rw[xc.N];exact h1) (.inl kd) h3 h4
  have rm:RoomM j (fR X a).A:=⟨((UD xc.room).mono hj).dp,((UD xc.room).mono hj).un⟩
  refine PE.mono (HZ (X:=fR X a) F rm (xc.glob hg) hm hk hb (bJ pv gG) (xc.gne hg) rfl rfl) fun σ' fx Q hh=>?_
  obtain⟨rfl,rfl,q⟩:=hh;exact⟨.ref a,h5,a,rfl,hx,q⟩
 refine jE ?_
 rcases aAF hr with ⟨b,j,q,rfl,rfl⟩|⟨f,p1,y,p2,p3,rfl,h1,h2,rfl⟩|⟨f,p1,y,p2,p3,x,j,p4,p5,rfl,h1,h2,rfl⟩
 ·simp only[gy,Lit.d,qg]at hd;subst hd;intro pins s σ' fx D' I hh;obtain⟨rfl,rfl,rfl⟩:=hh;exact iO AB pins s _ _ _ I (hq _ _ (aI.refl _) bS)
 ·simp only[gy,qx]at hd;obtain⟨x,hw,rfl⟩:=hd;intro pins s σ' fx D' I hh;obtain⟨rfl,rfl,rfl⟩:=hh;exact iO (word h1 h2 hw) pins s _ _ _ I ⟨rfl,rfl,fun H' sm=>hq _ H' sm (by unfold Rep;rfl)⟩
 ·simp only[gy,qx]at hd;obtain⟨z,hw,rfl⟩:=hd;intro pins s σ' fx D' I hh;obtain⟨rfl,rfl,rfl⟩:=hh;refine iO (zY aDA (word h1 h2 hw) fO (IX _)) pins s _ _ _ I ⟨rfl,rfl,fun H' sm=>⟨rfl,?_⟩⟩
  rw[tR];exact hq _ H' sm bS
theorem aEQ{k:Str}{r:HR}{d:D}(h:gy G k r=some d):∀ds,d≠.lst ds:=by
 intro ds z;subst z;cases r with
 |lit l=>cases l<;>simp only[gy,Lit.d,qg,reduceCtorEq]at h
 |word f=>simp only[gy,qx,reduceCtorEq,and_false,exists_false]at h
 |weq f x=>simp only[gy,qx,reduceCtorEq,and_false,exists_false]at h
theorem WQ(xc:XC CX X c G T lv)(xs:XS CX T X c EX){n:Nat}{f:Expr}{args:List Expr}{kw:List Keyword}{p ep np rp hp:Pos}{ir:IE}{x:Str}{nm:Option Str}{e:Expr}{i:Option Nat}{r:HR}(hg:aW c x=true)(hn:cN c nm=some i)(hr:cH c nm e=some r)(he:cE n c (.Call f args kw p)=some ir) :
  PS X (.Try [.Expr (.Call f args kw p) ep] [.ExceptHandler (some (.Name x np)) nm [.Return (some e) rp] hp] [] [] pos) (bY X.K T S₀ H₀ fr EX G (.tryx ir x i r)):=fun pins s σ H D I ⟨ρ,out,S,hx,si,po⟩=>by
 refine wpAny_Try_except ?_;simp only[ex]at hx;split at hx
 ·rename_i d hd;cases hx;have ke:ev G ir (view ρ)=some d:=aAA hd
  have pn:PSs X.nox [.Expr (.Call f args kw p) ep] (UC (tD X.K T (fun _=>False) (view ρ) d)):=jE (kI ((eG n).1 X.nox c (fun _=>False) (view ρ) _ ir (xc.re rfl rfl rfl rfl rfl rfl rfl rfl rfl rfl) he d ke).1 rfl)
  refine ub (pn pins s σ H { nx:=fun σ' H'=>D.nx σ' H',rt:=fun _ _=>False } (I.wish _) ⟨si.re.view,fun v H' sm _=>po S σ H' (si.step sm) (aO.same sm)⟩) (fun fl s1 h1=>?_) fun _ _ z=>z.elim
  cases fl with
  |next =>
   obtain⟨σ',H',I',q⟩:=h1;exact wpAny_execs_nil ⟨σ',H',I'.unwish,q⟩
  |brk=>obtain⟨_,_,_,z⟩:=h1;exact z.elim
  |cont=>obtain⟨_,_,_,z⟩:=h1;exact z.elim
  |ret u=>obtain⟨_,_,_,_,_,z⟩:=h1;exact z.elim
 ·rename_i k hk;split at hx
  ·rename_i hb;rw[qv,qv]at hb;simp only[qx]at hx;obtain⟨d,hd,rfl⟩:=hx;obtain⟨C,hT⟩:=xc.go.xns k hb.1.1;obtain⟨L,hL⟩:=xc.go.xns x hb.1.2;have mP:=xc.go.sub k x C L hT hL hb.2
   have j5:∀ds,d≠.lst ds:=aEQ hd
   have fin:∀v H',aI H H'→Rep X.K T H' S₀ d v→D.rt v H':=fun v H' sm rp=>po v H' (si.same.trans sm) rp fun _ ds z=>absurd z (j5 ds)
   have hCx:=xc.go.xk k C hT
   have hLx:=xc.go.xk x L hL
   have hmL:=xc.go.xcl x L hL
   have fm:∀{H':Hp} {a:Addr},aI H H'→H' a=none→aI H (upd H' a (.ext (isExc a C))):=fun {H' a} sm ha=>sm.trans (aI.upd ha)
   have hp1:fT CX (QC X pins fun v s1=>wpAny (model X.prog X.w) X.A (noteFrame v X.env) (fun _ s₂=>wpAny (model X.prog X.w) X.A (setFlight v none) (fun _ s₃=>wpAny (model X.prog X.w) X.A (handleBy v X.env [.ExceptHandler (some (.Name x np)) nm [.Return (some e) rp] hp]) (SP X pins D) X.xe s₃) X.xe s₂) X.xe s1) (fun cls _ H'=>cls=.ref C∧aI H H'):=by
    intro dj σ1 H1 s1 v s2 I1 hcx;obtain⟨a,cls,a0,B,H',rfl,F,rfl,sm⟩:=xc.go.cxf _ _ _ _ _ _ hcx;have I2:=JS I.ok I1
    cases nm with
    |none =>
     refine aAE (rt:=D.rt) I2 F xs.stk xs.frm hCx hLx mP (xc.glob hg) (xc.gne hg) hmL rfl (uQ (S:=S₀) xc hr hd hT (fun n z=>by cases z) aM fun v H2 jw rp=>fin v H2 ((fm sm F.new).trans jw) rp)
    |some nn =>
     simp only[cN]at hn;split at hn
     ·rename_i hc;simp only[qv,t7,Bool.not_eq_true']at hc;simp only[qx]at hn;obtain⟨ii,hii,rfl⟩:=hn;have hNi:=hZ hii
      have kd:X.env.kindOf nn=some .local:=by
       have:=xc.kd nn
       rw[hc.1.1]at this;exact this
      have dw:ii<σ1.length:=by rw[I2.len,xc.N];exact(q8.mp hNi).1
      refine LK (rt:=D.rt) (i:=ii) I2 F xs.stk xs.frm hCx hLx mP (xc.glob hg) (xc.gne hg) hmL rfl (by rw[xc.N];exact xc.nd) (by rw[xc.N];exact hNi) kd (uQ (S:=S₀) xc hr hd hT (fun n z=>?_) aM fun v H2 jw rp=>fin v H2 ((fm sm F.new).trans jw) rp)
      cases z;exact⟨ii,hNi,hc.1.1,hc.1.2,hc.2,by rw[rj dw]⟩
     ·cases hn
   have xc1:XC CX (QC X pins fun v s1=>wpAny (model X.prog X.w) X.A (noteFrame v X.env) (fun _ s₂=>wpAny (model X.prog X.w) X.A (setFlight v none) (fun _ s₃=>wpAny (model X.prog X.w) X.A (handleBy v X.env [.ExceptHandler (some (.Name x np)) nm [.Return (some e) rp] hp]) (SP X pins D) X.xe s₃) X.xe s₂) X.xe s1) c G T lv:=xc.re rfl rfl rfl rfl rfl rfl rfl rfl rfl rfl
   have pn:=jE (kI (pos:=ep) (UO (S:=fun _=>False) xc1 he hk hT hp1) rfl)
   refine ub (pn [] s σ H { nx:=fun _ _=>False,rt:=fun _ _=>False } (aAg I) ⟨si.re.view,fun H' sm=>⟨rfl,sm⟩⟩) (fun fl s1 h1=>?_) fun _ _ z=>z
   cases fl with
   |next=>obtain⟨_,_,_,z⟩:=h1;exact z.elim
   |brk=>obtain⟨_,_,_,z⟩:=h1;exact z.elim
   |cont=>obtain⟨_,_,_,z⟩:=h1;exact z.elim
   |ret u=>obtain⟨_,_,_,_,_,z⟩:=h1;exact z.elim
  ·cases hx
 ·cases hx
end Z
namespace Z
open PySem PySem.Spec PyProof.Rows L2
variable {CX:au}{G:GS}{T:Tx}{lv:Nat}{X:Cx}{c:CC}{S₀:Addr→Prop}{H₀:Hp}{fr:Bool}{EX:Str→Hp→Prop}{pos:Pos}
def aAX(CX:au)(G:GS)(T:Tx)(lv:Nat)(S₀:Addr→Prop)(H₀:Hp)(fr:Bool)(EX:Str→Hp→Prop)(n:Nat):Prop:=∀(X:Cx) (c:CC) (st:Stmt) (is:IS),XC CX X c G T lv→XS CX T X c EX→cS n c st=some is→(fr=true→iJ is=true)→PS X st (bY X.K T S₀ H₀ fr EX G is)
def TR(CX:au)(G:GS)(T:Tx)(lv:Nat)(S₀:Addr→Prop)(H₀:Hp)(fr:Bool)(EX:Str→Hp→Prop)(n:Nat):Prop:=∀(X:Cx) (c:CC) (st:List Stmt) (is:IS),XC CX X c G T lv→XS CX T X c EX→jc n c st=some is→(fr=true→iJ is=true)→PSs X st (bY X.K T S₀ H₀ fr EX G is)
theorem DW{s:Stmt}{x:Option Expr×Pos}(h:aCF s=some x):s=.Return x.1 x.2:=by
 cases s<;>first|exact nomatch (show none=some x from h)|(cases (show some _=some x from h);rfl)
theorem KO{s:Stmt}{x:Expr×Pos}(h:exP s=some x):s=.Expr x.1 x.2:=by
 cases s<;>first|exact nomatch (show none=some x from h)|(cases (show some _=some x from h);rfl)
theorem GA{c:CC}{e:Expr}{q:Nat×Expr}(h:TM c e=some q):∃x p1 p2 p,e=.Call (.Attribute (.Name x p1) "append" p2) [q.2] [] p∧cV c x=some q.1∧(p2.endLine == p.line)=true:=by
 obtain⟨r,h1,h⟩:=aG h;obtain⟨g,h2,h⟩:=aG h;obtain⟨j,h3,h⟩:=aG h;obtain⟨a,h4,h⟩:=aG h;obtain⟨h5,h⟩:=bF h;obtain⟨h5,h7⟩:=cY h5;obtain⟨h5,h6⟩:=cY h5;cases h;obtain⟨x,p1,e3,hs⟩:=jJ h3;refine⟨x,p1,g.2.2,r.2.2.2,?_,hs,h7⟩;rw[eL h1,oR h2,bO h4,kT h5,e3,t7.mp h6]
theorem WZ{n:Nat}(xc:XC CX X c G T lv)(xs:XS CX T X c EX){t e:Expr}{is:IS}(h:UG (cE n c) c e t=some is):PS X (.Assign [t] e pos) (bY X.K T S₀ H₀ fr EX G is):=by
 cases t<;>first|exact nomatch (show none=some is from h)|skip
 case Name x p =>
  obtain⟨i,hx,h⟩:=aG h;unfold HC at h;split at h
  ·split at h
   ·rename_i hz;cases h;unfold AN at hz;split at hz
    ·exact OA xc hx
    ·cases hz
   ·obtain⟨hf,h⟩:=bF h;obtain⟨y,hy,rfl⟩:=aQ h;exact NZ xc hx hy hf
  ·obtain⟨y,hy,rfl⟩:=aQ h;exact WR xc hx hy
 case Subscript a i p =>
  obtain⟨j,hj,h⟩:=aG h;obtain⟨k,hk,h⟩:=aG h;obtain⟨y,hy,rfl⟩:=aQ h;obtain⟨x,p1,rfl,hs⟩:=jJ hj;exact WV xc hs hk hy
 case Tuple ts k p =>
  have h:xQ (cE n c) c ts e=some is:=h
  unfold xQ at h;cases ht:tupP e with
  |some q =>
   rw[ht]at h;exact nomatch (show none=some is from h)
  |none =>
   rw[ht]at h;obtain⟨is',his,h⟩:=aG h;obtain⟨u,hu,rfl⟩:=aQ h;refine NY xc his hu fun vs k p z=>?_
   subst z;exact nomatch (show some _=none from ht)
theorem EE{n:Nat}(hS:TR CX G T lv S₀ H₀ fr EX n):aAX CX G T lv S₀ H₀ fr EX (n+1):=by
 intro X c st is xc xs h aw;cases st<;>first|exact nomatch (show none=some is from h)|skip
 case Pass q=>cases (show some IS.nop=some is from h);exact OD
 case Return v q =>
  cases v with
  |none=>cases (show some IS.retn=some is from h);exact OB
  |some e =>
   have h:(match fP c e with|some i=>some (IS.retm i)|none=>(cE n c e).map fun x=>IS.ret (gI c e) x)=some is:=h
   cases hm:fP c e with
   |some i =>
    rw[hm]at h;cases h;obtain⟨x,p,rfl,hs⟩:=jJ hm;exact OC xc hs
   |none =>
    rw[hm]at h;obtain⟨y,hy,rfl⟩:=aQ h;exact WU xc hy (fun z=>z) fun z=>aw z
 case Assign ts e q =>
  obtain⟨t,ht,h⟩:=aG h;obtain rfl:=bO ht;exact WZ xc xs h
 case If t a b q =>
  obtain⟨u,hu,h⟩:=aG h;obtain⟨v,hv,h⟩:=aG h;obtain⟨w,hw,rfl⟩:=aQ h;have o3:fr=true→iJ v=true∧iJ w=true:=fun z=>cY (aw z)
  exact aCc xc hu (hS X _ a v xc xs hv fun z=>(o3 z).1) (hS X _ b w xc xs hw fun z=>(o3 z).2)
 case For tg iter body p0 q =>
  obtain⟨he,h⟩:=bF h;obtain rfl:=kT he;obtain⟨⟨aT,tp⟩,ez,h⟩:=aG h;obtain⟨⟨k,src⟩,hk,h⟩:=aG h;obtain⟨hen,h⟩:=bF h;have lp:LY k tg:=NU ez hen
  obtain⟨v,hv,rfl⟩:=aQ h;exact WY xc xs ez hk lp (hS X _ body v xc xs hv fun z=>aw z)
 case Expr e q =>
  have h:(match TM c e with|some q=>(cE n c q.2).map fun x=>IS.app q.1 x|none=>(mL e).bind fun _=>(cE n c e).map .drop)=some is:=h
  cases ha:TM c e with
  |some r =>
   rw[ha]at h;obtain⟨u,hu,rfl⟩:=aQ h;obtain⟨x,p1,p2,p,rfl,hs,hp⟩:=GA ha;exact XA xc hs hp hu
  |none =>
   rw[ha]at h;obtain⟨r,hr,h⟩:=aG h;obtain⟨u,hu,rfl⟩:=aQ h;obtain rfl:=eL hr;exact OE xc xs hu
 case Raise e f q =>
  obtain⟨e',he,h⟩:=aG h;obtain⟨r,h1,h⟩:=aG h;obtain⟨x,h2,h⟩:=aG h;obtain⟨a,h3,h⟩:=aG h;obtain⟨m,h4,h⟩:=aG h;obtain⟨h5,h⟩:=bF h;obtain⟨h5,h8⟩:=cY h5;obtain⟨h5,h7⟩:=cY h5;obtain⟨h5,h6⟩:=cY h5;cases h;obtain⟨j,p',ea⟩:=pN h4;rw[he,Option.isNone_iff_eq_none.mp h5,eL h1,cL h2,bO h3,kT h6,ea];exact WT xs h7 h8
 case Try b hs p0 fin q =>
  obtain⟨h0,h⟩:=bF h;obtain⟨h1,h2⟩:=cY h0;obtain rfl:=kT h1;obtain rfl:=kT h2
  match hs,h with
  |[.ExceptHandler ty nm body hp],h =>
   obtain⟨s,a1,h⟩:=aG h;obtain⟨e,a2,h⟩:=aG h;obtain⟨r,a3,h⟩:=aG h;obtain⟨ty',a4,h⟩:=aG h;obtain⟨x,a5,h⟩:=aG h;obtain⟨s',a6,h⟩:=aG h;obtain⟨re,a7,h⟩:=aG h;obtain⟨re',a8,h⟩:=aG h;obtain⟨hg,h⟩:=bF h;obtain⟨i,hi,h⟩:=aG h;obtain⟨rr,hr,h⟩:=aG h;obtain⟨u,hu,rfl⟩:=aQ h;have e3:=eL a3
   rw[e3]at hu;rw[bO a1,KO a2,a4,cL a5,bO a6,DW a7,a8,e3];exact WQ xc xs hg hi hr hu
theorem EF{n:Nat}(hS:aAX CX G T lv S₀ H₀ fr EX n)(hR:TR CX G T lv S₀ H₀ fr EX n):TR CX G T lv S₀ H₀ fr EX (n+1):=by
 intro X c st is xc xs h aw
 rcases st with _|⟨s,_|⟨s2,r⟩⟩
 ·cases (show some IS.nop=some is from h)
  exact WW
 ·exact jE (hS X c s is xc xs h aw)
 ·obtain⟨u,hu,h⟩:=aG h;obtain⟨v,hv,rfl⟩:=aQ h;have o3:fr=true→iJ u=true∧iJ v=true:=fun z=>cY (aw z)
  exact WS (hS X c s u xc xs hu fun z=>(o3 z).1) (hR X c (s2::r) v xc xs hv fun z=>(o3 z).2)
theorem mU:∀n,aAX CX G T lv S₀ H₀ fr EX n∧TR CX G T lv S₀ H₀ fr EX n
 | 0=>⟨fun X c st is xc xs h=>(nomatch (show none=some is from h)),fun X c st is xc xs h=>(nomatch (show none=some is from h))⟩
 |n+1=>⟨EE (mU n).2,EF (mU n).1 (mU n).2⟩
end Z
namespace Z
open PySem PySem.Spec PyProof.Rows L2
variable {CX:au}{G:GS}{T:Tx}{lv:Nat}
noncomputable def lA(n:Nat)(ds:List D):List Sl:=ds.map .im++List.replicate (n-ds.length) .un
theorem nI{K:va}{H:Hp}{S:Addr→Prop}{N:List Str}{ds:List D}{vs:List V}(dom:∀a,S a→∃o,H a=some o)(rl:aE K T H S ds vs):SInv K T S H S (lA N.length ds) (L2.start N vs) H:=by
 have hl:=rl.len
 have nomu:∀(i:Nat) xs,(lA N.length ds)[i]?≠some (.mu xs):=fun i xs e=>by
  unfold lA at e
  by_cases h:i<(ds.map Sl.im).length
  ·rw[ur h,qk]at e;cases h2:ds[i]? with
   |none=>rw[h2]at e;cases e
   |some d=>rw[h2]at e;cases e
  ·rw[uu (by lia),getElem?_replicate]at e
   split at e<;>cases e
 refine⟨⟨dom,by simp[lA,L2.start,hl],fun i s e=>?_⟩,dom,fun _ z=>z,aI.refl H,fun i j xs ys p h=>absurd h (nomu i xs),fun i xs p h=>absurd h (nomu i xs)⟩
 unfold lA at e;unfold L2.start
 by_cases h:i<(ds.map Sl.im).length
 ·rw[ur h,qk]at e;cases h2:ds[i]? with
  |none=>rw[h2]at e;cases e
  |some d =>
   rw[h2]at e;cases e;obtain⟨v,h3,r⟩:=rl.get h2;exact⟨v,by rw[ur (by rw[ql]at h ⊢;lia),qk,h3];rfl,r⟩
 ·rw[uu (by lia),getElem?_replicate]at e
  split at e
  ·cases e;trivial
  ·cases e
theorem vR(k:Option NameKind):uD k k:=by
 cases k with
 |none=>trivial
 |some k=>cases k<;>first|rfl|trivial|exact .inl rfl
noncomputable def mJ(c:CC)(sc:Scope):Bool:=c.N.all (fun x=>!(x == ("__debug__":Str))&&!(x == ("__classdict__":Str)))&&!(aW c "__debug__")
theorem GC{P:vc}{w:World}{K:va}{mg:vf}{base:Heap}{N ps:List Str}{qual:Str}{sc:Scope}{f:Addr}{cd:Value}{A:Around}{outer:List Env}{s:Shared}{H:Hp}{E:XK}{c:CC}(hN:c.N=N)(j5:c.sc=sc)(fs:aa N ps sc)(hk:mJ c sc=true)
  (hr:Room lv (A.deeper (envOfC qual sc s.heap.objs.size f cd))) (go:qd CX (kU CX P w K mg base N qual sc f cd A outer s H E).nox c G T lv):XC CX (kU CX P w K mg base N qual sc f cd A outer s H E).nox c G T lv:=by
 unfold mJ at hk;rw[qv,all_eq_true]at hk;refine⟨hN.symm,by rw[hN];exact fs.nd,fun x=>?_,fun _ _=>rfl,fun x hx=>?_,?_,rfl,hr,go⟩
 ·rw[j5];exact vR _
 ·have:=hk.1 x hx
  simpa using this
 ·simpa using hk.2
theorem aAm{P:vc}{w:World}{K:va}{mg:vf}{base:Heap}{x qual:Str}{st:Stmt}{f:Addr}{fd:vb}{N ps:List Str}{c:CC}{n:Nat}{ir:IS}{fr:Bool}(F:Fun K x qual st f fd)(fs:aa N ps (aD st))(hN:c.N=N)(j5:c.sc=aD st)(hk:mJ c (aD st)=true)
  (ik:jc n c (bR st)=some ir) (aw:fr=true→iJ ir=true)
  (go:∀(X:Cx),X.prog=P→X.w=w→X.K=K→X.mg=mg→X.base=base→qd (gK P w) X c G T lv):FnOk P w K mg base (gK P w) (lv+1) f fd ps (iy K T ps.length (fun ds=>aU G N.length ir ds) fr):=by
 obtain⟨oc,od,kV,doc,pm,an,bt,ct,jx,rfl,lk,fg⟩:=F.ex;refine UU lk fg fs (fun vs H Q E h=>h.1) fun A outer s H vs Q E hr br=>?_
 obtain⟨hlen,S,ds,dom,rl,hcase⟩:=br;have xc:XC (gK P w) (kU (gK P w) P w K mg base N qual (aD st) f bt A outer s H E) c G T lv:=(GC (CX:=gK P w) (E:=E) (P:=P) (w:=w) (mg:=mg) (base:=base) (outer:=outer) (s:=s) (H:=H) (f:=f) (cd:=bt) (qual:=qual) hN j5 fs hk hr (go _ rfl rfl rfl rfl rfl)).re rfl rfl rfl rfl rfl rfl rfl rfl rfl rfl
 have xs:XS (gK P w) T (kU (gK P w) P w K mg base N qual (aD st) f bt A outer s H E) c (fun k H'=>∃C,T.xc k=some C∧E (.ref C) none H'):=by
  refine⟨fs.kind,PassesOwn.leaving,fun y m j p p' q pos hg hc=>?_,fun E1 h1=>QK fun cls H' z=>?_,rfl,rfl⟩
  ·rintro pins s1 σ H1 D I ⟨C,hT,hE⟩;exact HN (W:=fun H'=>E (.ref C) none H') rfl (xc.glob hg) (xc.gne hg) (xc.go.xcl y C hT) (xc.go.xk y C hT) (fun pins σ H s h' e vs I hm hE=>yK I hm hE) pins s1 σ H1 D I hE
  ·obtain⟨k,C,hT,rfl,C',kj,hE⟩:=h1 cls H' z;rw[hT]at kj;cases kj;exact hE
 refine⟨_,(mU (S₀:=S) (H₀:=H) (fr:=fr) n).2 _ c _ ir xc xs ik aw,?_⟩;have hs:lA N.length ds=ds.map .im++List.replicate (N.length-ds.length) .un:=rfl
 rcases hcase with ⟨d,hd,q⟩|⟨e,C,he,hT,q⟩
 ·dsimp only at hd;unfold aU at hd;rw[←hs]at hd;split at hd
  ·rename_i d' ho;cases hd;exact⟨_,_,S,ho,nI dom rl,fun v H' sm r fr'=>q v H' sm r fr'⟩
  ·rename_i ρ' ho;cases hd;exact⟨_,_,S,ho,nI dom rl,fun S' σ' H' si mv=>q .non H' si.same (by unfold Rep;rfl) fun _ ds' z=>by cases z⟩
  ·cases hd
  ·cases hd
 ·dsimp only at he;unfold aU at he;rw[←hs]at he;split at he
  ·cases he
  ·cases he
  ·rename_i k ho;cases he;exact⟨_,_,S,ho,nI dom rl,fun H' sm=>⟨C,hT,q H' sm⟩⟩
  ·cases he
end Z
namespace Z
open PySem PySem.Spec PyProof.Rows L2
structure Nm where
 fns:List Str
 cls:List Str
 csts:List Str
 fresh:List Str
noncomputable def Nm.cc(m:Nm)(N:List Str)(sc:Scope)(mus:List Str):CC:=⟨N,sc,m.fns,m.cls,m.csts,mus,m.fresh⟩
def MOk(P:vc)(w:World)(K:va)(mg:vf)(base:Heap)(CX:au)(m:Nm)(G:GS)(T:Tx)(lv:Nat):Prop:=
 ∀(X:Cx) (c:CC),X.prog=P→X.w=w→X.K=K→X.mg=mg→X.base=base→c.fns=m.fns→c.cls=m.cls→c.csts=m.csts→c.fresh=m.fresh→qd CX X c G T lv
noncomputable def Nm.addF(m:Nm)(x:Str)(fr:Bool):Nm:={ m with fns:=x::m.fns,fresh:=if fr then x::m.fresh else m.fresh }
noncomputable def GS.addF(G:GS)(x:Str)(g:List D→Option Rs)(fr:Bool):GS:={ G with fn:=fun y=>if y=x then g else G.fn y,ff:=fun y=>if y=x then fr else G.ff y,mf:=fun cn y=>if y=x then fr else G.mf cn y }
section
variable {P:vc}{w:World}{K:va}{mg:vf}{base:Heap}{CX:au}{m:Nm}{G:GS}{T:Tx}{lv:Nat}
theorem contains_cons{x y:Str}{l:List Str}:(x::l).contains y=true→y=x∨l.contains y=true:=fun h=>by
 rw[List.contains_cons,or_eq_true,t7]at h;exact h
theorem MOk.addF(h:MOk P w K mg base CX m G T lv){x:Str}{f:Addr}{fd:vb}{ps:List Str}{g:List D→Option Rs}{fr:Bool}(hn:m.fns.contains x=false)(j9:∀cn ds,G.me cn x ds=none)(j7:m.fresh.contains x=false)
  (hm:mg x=some (.ref f)) (hk:keepIn K (.ref f)=true) (hb:Binds K fd ps []) (hl:∀ds r,g ds=some r→ds.length=ps.length) (F:FnOk P w K mg base CX (lv+1) f fd ps (iy K T ps.length g fr)) :
  MOk P w K mg base CX (m.addF x fr) (G.addF x g fr) T (lv+1):=by
 intro X c e1 e2 e3 e4 e5 e6 e7 e8 e9;subst e1 e2 e3 e4 e5;have o:=h X { c with fns:=m.fns,fresh:=m.fresh } rfl rfl rfl rfl rfl rfl e7 e8 rfl
 refine⟨fun y hy=>?_,fun cn C mm ds r hT hr=>?_,o.cls,o.fld,fun y hy ds d hd=>?_,fun y d hd hc=>o.cst y d hd hc,fun y hy h1 h2=>?_,o.xcl,fun y hy=>?_,o.cx0,o.cxf,o.xns,o.xk,o.sub,fun f k x C h1 h2=>let ⟨a,b,c,j,d,e⟩:=o.wd f k x C h1 h2;⟨a,b,c,j,le_succ_of_le d,e⟩,o.dk⟩
 ·rw[e6]at hy
  by_cases e:y=x
  ·subst e;refine⟨f,fd,ps,hm,hk,hb,?_,?_⟩
   ·intro ds r hr;simp only[GS.addF,if_true]at hr;exact hl ds r hr
   ·simp only[GS.addF,if_true];exact F
  ·rcases contains_cons hy with z|z
   ·exact absurd z e
   ·obtain⟨f',cu,cm,a1,a2,a3,a4,a5⟩:=o.fn y z;refine⟨f',cu,cm,a1,a2,a3,?_,?_⟩
    ·intro ds r hr;simp only[GS.addF,if_neg e]at hr;exact a4 ds r hr
    ·simp only[GS.addF,if_neg e];exact a5.mono (uf _)
 ·have ie:mm≠x:=by
   rintro rfl;have:G.me cn mm ds=some r:=hr
   rw[j9]at this;cases this
  obtain⟨f',cu,cm,a1,a2,a3,a4⟩:=o.me cn C mm ds r hT hr;refine⟨f',cu,cm,a1,a2,a3,?_⟩;simp only[GS.addF,if_neg ie];exact a4.mono (uf _)
 ·obtain⟨C,f',cu,cm,j,a1,a2⟩:=o.mo y hy ds d hd;exact⟨C,f',cu,cm,j,le_succ_of_le a1,a2⟩
 ·refine o.bi y hy ?_ h2;rw[e6]at h1;rw[Nm.addF,List.contains_cons,Bool.or_eq_false_iff]at h1;exact h1.2
 ·rw[e9]at hy
  by_cases e:y=x
  ·subst e;cases aw:fr with
   |true=>exact⟨by simp[GS.addF],fun cn=>by simp[GS.addF]⟩
   |false =>
    exfalso
    rw[aw]at hy;have:m.fresh.contains y=true:=hy
    rw[j7]at this;cases this
  ·have:m.fresh.contains y=true:=by
    unfold Nm.addF at hy;simp only at hy;split at hy
    ·rcases contains_cons hy with z|z
     ·exact absurd z e
     ·exact z
    ·exact hy
   obtain⟨b1,b2⟩:=o.frs y this;exact⟨by simp only[GS.addF,if_neg e];exact b1,fun cn=>by simp only[GS.addF,if_neg e];exact b2 cn⟩
noncomputable def Nm.addM(m:Nm)(x:Str)(fr:Bool):Nm:={ m with fresh:=if fr then x::m.fresh else m.fresh }
noncomputable def GS.addM(G:GS)(cn x:Str)(g:List D→Option Rs)(fr:Bool):GS:={ G with me:=fun c y=>if c=cn∧y=x then g else G.me c y,ff:=fun y=>if y=x then fr else G.ff y,mf:=fun c y=>if y=x then fr else G.mf c y }
theorem MOk.addM(h:MOk P w K mg base CX m G T lv){cn x:Str}{C:Addr}{f:Addr}{fd:vb}{ps:List Str}{g:List D→Option Rs}{fr:Bool}(hn:m.fns.contains x=false)(j9:∀cn ds,G.me cn x ds=none)(j7:m.fresh.contains x=false)
  (hT:T.cl cn=some C) (hm:iu K C x f) (hb:Binds K fd ps []) (hl:∀ds r,g ds=some r→ds.length=ps.length) (F:FnOk P w K mg base CX (lv+1) f fd ps (iy K T ps.length g fr)) :
  MOk P w K mg base CX (m.addM x fr) (G.addM cn x g fr) T (lv+1):=by
 intro X c e1 e2 e3 e4 e5 e6 e7 e8 e9;subst e1 e2 e3 e4 e5;have o:=h X { c with fresh:=m.fresh } rfl rfl rfl rfl rfl e6 e7 e8 rfl
 have nfn:∀y,c.fns.contains y=true→y≠x:=fun y hy z=>by
  subst z;rw[e6]at hy;have cb:m.fns.contains y=true:=hy
  rw[hn]at cb;cases cb
 refine⟨fun y hy=>?_,fun cn' C' mm ds r kj hr=>?_,o.cls,o.fld,fun y hy ds d hd=>?_,fun y d hd hc=>o.cst y d hd hc,fun y hy h1 h2=>o.bi y hy h1 h2,o.xcl,fun y hy=>?_,o.cx0,o.cxf,o.xns,o.xk,o.sub,fun f k x C h1 h2=>let ⟨a,b,c,j,d,e⟩:=o.wd f k x C h1 h2;⟨a,b,c,j,le_succ_of_le d,e⟩,o.dk⟩
 ·have e:=nfn y hy
  obtain⟨f',cu,cm,a1,a2,a3,a4,a5⟩:=o.fn y hy;refine⟨f',cu,cm,a1,a2,a3,a4,?_⟩;simp only[GS.addM,if_neg e];exact a5.mono (uf _)
 ·by_cases e:mm=x
  ·subst e;have ec:cn'=cn:=by
    by_cases e:cn'=cn
    ·exact e
    ·simp only[GS.addM,e,false_and,if_false]at hr;rw[j9]at hr;cases hr
   subst ec;rw[hT]at kj;cases kj;refine⟨f,fd,ps,hm,hb,?_,?_⟩
   ·intro ds r hr;simp only[GS.addM,and_self,if_true]at hr;exact hl ds r hr
   ·simp only[GS.addM,and_self,if_true];exact F
  ·simp only[GS.addM,e,and_false,if_false]at hr;obtain⟨f',cu,cm,a1,a2,a3,a4⟩:=o.me cn' C' mm ds r kj hr;refine⟨f',cu,cm,a1,a2,?_,?_⟩
   ·intro ds r hr;simp only[GS.addM,e,and_false,if_false]at hr;exact a3 ds r hr
   ·simp only[GS.addM,e,and_false,if_false];exact a4.mono (uf _)
 ·obtain⟨C,f',cu,cm,j,a1,a2⟩:=o.mo y hy ds d hd;exact⟨C,f',cu,cm,j,le_succ_of_le a1,a2⟩
 ·rw[e9]at hy
  by_cases e:y=x
  ·subst e;cases aw:fr with
   |true=>exact⟨by simp[GS.addM],fun cn=>by simp[GS.addM]⟩
   |false =>
    exfalso
    rw[aw]at hy;have:m.fresh.contains y=true:=hy
    rw[j7]at this;cases this
  ·have:m.fresh.contains y=true:=by
    unfold Nm.addM at hy;simp only at hy;split at hy
    ·rcases contains_cons hy with z|z
     ·exact absurd z e
     ·exact z
    ·exact hy
   obtain⟨b1,b2⟩:=o.frs y this;exact⟨by simp only[GS.addM,if_neg e];exact b1,fun cn=>by simp only[GS.addM,if_neg e];exact b2 cn⟩
theorem JE{n:Nat}{o:Option Rs}{r:Rs}{ds:List D}(h:(if ds.length=n then o else none)=some r):ds.length=n:=by
 by_cases e:ds.length=n
 ·exact e
 ·rw[if_neg e]at h;cases h
theorem MOk.defF(h:MOk P w K mg base (gK P w) m G T lv){x:Str}{st:Stmt}{f:Addr}{fd:vb}{N ps mus:List Str}{n:Nat}{ir:IS}{fr:Bool}(hn:m.fns.contains x=false)(j9:∀cn ds,G.me cn x ds=none)(j7:m.fresh.contains x=false)(hm:mg x=some (.ref f))(hb:Binds K fd ps [])
  (F:Fun K x x st f fd) (fs:aa N ps (aD st)) (hk:mJ (m.cc N (aD st) mus) (aD st)=true) (ik:jc n (m.cc N (aD st) mus) (bR st)=some ir) (aw:fr=true→iJ ir=true) :
  MOk P w K mg base (gK P w) (m.addF x fr) (G.addF x (fun ds=>if ds.length=ps.length then aU G N.length ir ds else none) fr) T (lv+1):=by
 refine h.addF hn j9 j7 hm F.kp hb (fun ds r hr=>JE hr) ?_
 have G1:=aAm (P:=P) (w:=w) (mg:=mg) (base:=base) (T:=T) (lv:=lv) F fs (c:=m.cc N (aD st) mus) rfl rfl hk ik aw (fun X a1 a2 a3 a4 a5=>h X _ a1 a2 a3 a4 a5 rfl rfl rfl rfl)
 refine⟨fun vs H Q E h=>h.1,fun A outer s H args us vs Q E hr e0 kg hv br=>G1.run A outer s H args us vs Q E hr e0 kg hv ?_⟩
 obtain⟨h1,S,ds,dom,rl,hc⟩:=br;refine⟨h1,S,ds,dom,rl,?_⟩;have el:ds.length=ps.length:=by rw[rl.len];exact h1
 dsimp only at hc;rw[if_pos el]at hc;exact hc
theorem MOk.defM(h:MOk P w K mg base (gK P w) m G T lv){cn x qual:Str}{C:Addr}{st:Stmt}{f:Addr}{fd:vb}{N ps mus:List Str}{n:Nat}{ir:IS}{fr:Bool}(hn:m.fns.contains x=false)(j9:∀cn ds,G.me cn x ds=none)(j7:m.fresh.contains x=false)(hT:T.cl cn=some C)(hm:iu K C x f)(hb:Binds K fd ps [])
  (F:Fun K x qual st f fd) (fs:aa N ps (aD st)) (hk:mJ (m.cc N (aD st) mus) (aD st)=true) (ik:jc n (m.cc N (aD st) mus) (bR st)=some ir) (aw:fr=true→iJ ir=true) :
  MOk P w K mg base (gK P w) (m.addM x fr) (G.addM cn x (fun ds=>if ds.length=ps.length then aU G N.length ir ds else none) fr) T (lv+1):=by
 refine h.addM hn j9 j7 hT hm hb (fun ds r hr=>JE hr) ?_
 have G1:=aAm (P:=P) (w:=w) (mg:=mg) (base:=base) (T:=T) (lv:=lv) F fs (c:=m.cc N (aD st) mus) rfl rfl hk ik aw (fun X a1 a2 a3 a4 a5=>h X _ a1 a2 a3 a4 a5 rfl rfl rfl rfl)
 refine⟨fun vs H Q E h=>h.1,fun A outer s H args us vs Q E hr e0 kg hv br=>G1.run A outer s H args us vs Q E hr e0 kg hv ?_⟩
 obtain⟨h1,S,ds,dom,rl,hc⟩:=br;refine⟨h1,S,ds,dom,rl,?_⟩;have el:ds.length=ps.length:=by rw[rl.len];exact h1
 dsimp only at hc;rw[if_pos el]at hc;exact hc
end
variable {CX:au}{G:GS}{T:Tx}{lv:Nat}{X:Cx}{c:CC}
noncomputable def aFM:Stmt→Option (List Expr×Expr×Pos)
 |.Assign ts e p=>some (ts,e,p)
 |_=>none
theorem FY{s:Stmt}{x:List Expr×Expr×Pos}(h:aFM s=some x):s=.Assign x.1 x.2.1 x.2.2:=by
 cases s<;>first|exact nomatch (show none=some x from h)|(cases (show some _=some x from h);rfl)
noncomputable def qP(n:Nat)(c:CC):List Stmt→Option (List (Str×IE))
 |[]=>some []
 |st::r=>(aFM st).bind fun q=>(one? q.1).bind fun t=>(LV t).bind fun a=>(nameP a.1).bind fun s=>if cV c s.1 == some 0 then(cE n c q.2.1).bind fun y=>(qP n c r).map fun z=>(a.2.1,y)::z else none
noncomputable def i6(G:GS)(ρ:List Sl):List (Str×IE)→Option (List (Str×D))
 |[]=>some []
 | (f,e)::r=>do some ((f,←ev G e ρ)::(←i6 G ρ r))
noncomputable def DV(G:GS)(cn:Str)(n:Nat)(fs:List (Str×IE))(ds:List D):Option Rs:=
 (i6 G (.un::(ds.map .im++List.replicate (n-1-ds.length) .un)) fs).map fun gs=>.ok (.obj cn gs)
theorem vA{f:Str}{v:V}:∀{gs:List (Str×V)},f∉gs.map (·.1)→iH f v gs=gs++[(f,v)]
 |[],_=>rfl
 | (g,x)::r,h=>by
  simp only[su,sg,not_or]at h;unfold iH;rw[if_neg (Ne.symm h.1),vA h.2];rfl
theorem cD.names{K:va}{H:Hp}{S:Addr→Prop}:∀{fs:List (Str×D)} {gs:List (Str×V)},cD K T H S fs gs→gs.map (·.1)=fs.map (·.1)
 |[],gs,h=>by unfold cD at h;subst h;rfl
 | (f,d)::fs,gs,h=>by
  unfold cD at h;obtain⟨x,r,rfl,_,q⟩:=h;simp[cD.names q]
theorem cD.app1{K:va}{H:Hp}{S:Addr→Prop}{f:Str}{d:D}{v:V}(rv:Rep K T H S d v):∀{fs:List (Str×D)} {gs:List (Str×V)},cD K T H S fs gs→cD K T H S (fs++[(f,d)]) (gs++[(f,v)])
 |[],gs,h=>by
  unfold cD at h;subst h;show cD K T H S [(f,d)] [(f,v)]
  unfold cD;exact⟨v,[],rfl,rv,by unfold cD;rfl⟩
 | (g,e)::fs,gs,h=>by
  unfold cD at h;obtain⟨x,r,rfl,p,q⟩:=h;show cD K T H S ((g,e)::(fs++[(f,d)])) _
  unfold cD;exact⟨x,r++[(f,v)],rfl,p,cD.app1 rv q⟩
structure IInv (K:va) (T:Tx) (S:Addr→Prop) (H₀:Hp) (C p dx:Addr) (ρ:List Sl) (fs:List (Str×D)) (σ:L2.St) (H:Hp):Prop where
 re:RE K T H S ρ σ
 sp:S p
 self:σ[0]?=some (some (.ref p))
 at_:∃gs,H p=some (.ins C dx gs)∧cD K T H S fs gs
 keep:∀b o,b≠p→H₀ b=some o→H b=some o
theorem qG(xc:XC CX X c G T lv){S:Addr→Prop}{H₀:Hp}{C p dx:Addr}{ρ:List Sl}{n:Nat}(hc:Cls X.K C):∀{body:List Stmt} {is:List (Str×IE)} {gs fs:List (Str×D)},qP n c body=some is→i6 G ρ is=some gs→(∀x∈is,eD X.K C x.1)→((fs++gs).map (·.1)).Nodup→(fs++gs).length<1000 →
  PSs X body (fun D σ H=>IInv X.K T S H₀ C p dx ρ fs σ H∧∀σ' H',IInv X.K T S H₀ C p dx ρ (fs++gs) σ' H'→D.nx σ' H')
 |[],is,gs,fs,h1,h2,_,_,_=>by
  simp only[qP,qg]at h1;subst h1;simp only[i6,qg]at h2;subst h2;exact fun pins s σ H D I ⟨iv,q⟩=>rO pins s σ H D I (q σ H (by rw[sq];exact iv))
 |st::body,is,gs,fs,h1,h2,lu,lr,hlen=>by
  obtain⟨q0,a1,h1⟩:=aG h1;obtain⟨t0,a2,h1⟩:=aG h1;obtain⟨a0,a3,h1⟩:=aG h1;obtain⟨s0,a4,h1⟩:=aG h1;obtain⟨hs,h1⟩:=bF h1;obtain⟨ir,ik,h1⟩:=aG h1;obtain⟨is',his,rfl⟩:=aQ h1;have e0:st=.Assign [.Attribute (.Name s0.1 s0.2) a0.2.1 a0.2.2] q0.2.1 q0.2.2:=by rw[FY a1,bO a2,oR a3,cL a4]
  subst e0;obtain⟨_,e,pe⟩:=q0;obtain⟨_,f,pf⟩:=a0;obtain⟨s,ps⟩:=s0;clear a1 a2 a3 a4;simp only[i6,qo,qi,qg]at h2;obtain⟨d,hd,gs',jm,rfl⟩:=h2;have cz:cV c s=some 0:=t7.mp hs
  have ih:=qG xc (S:=S) (H₀:=H₀) (p:=p) (dx:=dx) hc (fs:=fs++[(f,d)]) his jm (fun x hx=>lu x (qt _ hx)) (by simpa using lr) (by simpa using hlen)
  intro pins s1 σ H DD I ⟨iv,q⟩;refine iM (YF (vK xc cz) ((eG n).1 X c S ρ e ir xc ik d hd).1 ?_) ih pins s1 σ H DD I ⟨iv.re,fun v H' sm r=>⟨.ref p,iv.self,?_⟩⟩
  ·cases e<;>rfl
  ·obtain⟨ys,hy,rf⟩:=iv.at_;have fz:f∉ys.map (·.1):=by
    rw[rf.names];have:=lr
    simp only[uk,su]at this;rw[List.nodup_append]at this;intro z;exact this.2.2 f z f (by simp) rfl
   have hl:ys.length<1000:=by
    have e1:=congrArg List.length rf.names
    simp only[ql]at e1;rw[e1];simp only[sk,uj]at hlen;lia
   refine⟨p,C,dx,ys,rfl,sm _ _ hy,hc,lu (f,ir) (by simp),hl,?_⟩
   rw[vA fz];have mv:aO X.K H' (upd H' p (.ins C dx (ys++[(f,v)]))) S S:=fun a na _=>⟨na,fun o e=>by rw[aN (fun z=>na (by rw[z];exact iv.sp))];exact e⟩
   have rf':cD X.K T H' S fs ys:=cD.gen (aO.same sm) _ _ rf
   refine⟨⟨?_,iv.sp,iv.self,⟨_,aM,cD.gen mv _ _ (cD.app1 r rf')⟩,fun b o hb e=>by rw[aN hb];exact sm _ _ (iv.keep b o hb e)⟩,fun σ' H2 iv2=>q σ' H2 (by simpa using iv2)⟩
   refine(iv.re.same sm).gen mv (fun a xs z e hm=>⟨z,?_⟩) fun a z=>?_
   ·rw[aN]
    ·exact e
    ·rintro rfl;rw[sm _ _ hy]at e;cases e;obtain⟨d',hm⟩:=hm
     rcases hm with ⟨_,_,_,z,_⟩|⟨_,_,_,z,_⟩<;>cases z
   ·by_cases e:a=p
    ·exact⟨.ins C dx (ys++[(f,v)]),by rw[e];exact aM⟩
    ·obtain⟨o,e2⟩:=(iv.re.same sm).dom a z;exact⟨o,by rw[aN e];exact e2⟩
end Z
namespace Z
open PySem PySem.Spec PyProof.Rows L2
variable {CX:au}{G:GS}{T:Tx}{lv:Nat}
theorem qM{ρ:List Sl}:∀{is:List (Str×IE)} {gs:List (Str×D)},i6 G ρ is=some gs→gs.map (·.1)=is.map (·.1)
 |[],gs,h=>by simp only[i6,qg]at h;subst h;rfl
 | (f,e)::r,gs,h=>by
  simp only[i6,qo,qi,qg]at h;obtain⟨d,_,gs',h2,rfl⟩:=h;simp[qM h2]
theorem xJ{K:va}{H:Hp}{S:Addr→Prop}{N:List Str}{ds:List D}{p:Addr}{ws:List V}(dom:∀a,S a→∃o,H a=some o)(rl:aE K T H S ds ws)(hN:ws.length+1≤N.length):RE K T H S (.un::(ds.map .im++List.replicate (N.length-1-ds.length) .un)) (L2.start N (.ref p::ws)):=by
 have hl:=rl.len
 refine⟨dom,by simp[L2.start,hl];lia,fun i s e=>?_⟩
 cases i with
 |zero=>cases e;trivial
 |succ i =>
  rw[List.getElem?_cons_succ]at e;unfold L2.start;rw[su,List.cons_append,List.getElem?_cons_succ]
  by_cases h:i<(ds.map Sl.im).length
  ·rw[ur h,qk]at e;cases h2:ds[i]? with
   |none=>rw[h2]at e;cases e
   |some d =>
    rw[h2]at e;cases e;obtain⟨v,h3,r⟩:=rl.get h2;exact⟨v,by rw[ur (by rw[ql]at h ⊢;lia),qk,h3];rfl,r⟩
  ·rw[uu (by lia),getElem?_replicate]at e
   split at e
   ·cases e;trivial
   ·cases e
theorem SD{P:vc}{w:World}{K:va}{mg:vf}{base:Heap}{x qual cn:Str}{C:Addr}{st:Stmt}{f:Addr}{fd:vb}{N ps:List Str}{c:CC}{n:Nat}{is:List (Str×IE)}(F:Fun K x qual st f fd)(fs:aa N ps (aD st))(hN:c.N=N)(j5:c.sc=aD st)(hk:mJ c (aD st)=true)
  (ik:qP n c (bR st)=some is) (hT:T.cl cn=some C) (az:Cls K C) (lu:∀x∈is,eD K C x.1) (lr:(is.map (·.1)).Nodup) (hlen:is.length<1000)
  (go:∀(X:Cx),X.prog=P→X.w=w→X.K=K→X.mg=mg→X.base=base→qd CX X c G T lv):FnOk P w K mg base CX (lv+1) f fd ps (XB K T C ps.length (DV G cn N.length is)):=by
 obtain⟨oc,od,kV,doc,pm,an,bt,ct,jx,rfl,lk,fg⟩:=F.ex;refine UU lk fg fs (fun vs H Q E h=>h.1) fun A outer s H vs Q E hr br=>?_
 obtain⟨hl,p,dx,ws,S,ds,d,rfl,hp,sp,dom,rl,hg,q⟩:=br;have xc:=GC (E:=E) (P:=P) (w:=w) (mg:=mg) (base:=base) (outer:=outer) (s:=s) (H:=H) (f:=f) (cd:=bt) (qual:=qual) hN j5 fs hk hr (go _ rfl rfl rfl rfl rfl)
 unfold DV at hg;simp only[qx]at hg;obtain⟨gs,jm,hg⟩:=hg;cases hg;have hnm:=qM jm
 have iF:ps.length≤N.length:=by have:=congrArg List.length fs.pre;rw[tm]at this;lia
 refine⟨_,PSs.nox (qG xc (S:=S) (H₀:=H) (C:=C) (p:=p) (dx:=dx) (fs:=[]) az ik jm lu (by rw[nil_append,hnm];exact lr) (by rw[nil_append];have:=congrArg List.length hnm;simp only[ql]at this;lia)),?_,?_⟩
 ·exact⟨xJ dom rl (by simp only[uj]at hl;lia),sp,rfl,⟨[],hp,by unfold cD;rfl⟩,fun b o _ e=>e⟩
 ·intro σ' H' iv;obtain⟨ys,hy,rf⟩:=iv.at_;refine q H' iv.keep fun S' jn=>?_
  unfold Rep;exact⟨p,C,dx,ys,rfl,fun z=>(jn p z).2 rfl,hT,hy,cD.gen (aO.mk (fun a z=>(jn a z).1) fun b o _ e=>e) _ _ rf⟩
def xD(K:va)(T:Tx)(mg:vf)(x:Str)(d:D):Prop:=∃u v,mg x=some u∧RelV v u∧∀(H:Hp) (S:Addr→Prop),(∀a o,K.lookup a=some o→H a=none)→(∀a,S a→∃o,H a=some o)→Rep K T H S d v
theorem TF{K:va}{mg:vf}{x:Str}{i:Int}{t:Tok}(h:mg x=some (.int i t)):xD K T mg x (.int i):=⟨_,.int i,h,⟨t,rfl⟩,fun H S _ _=>by unfold Rep;rfl⟩
theorem tU{K:va}{mg:vf}{x:Str}{a:Addr}{ds:List D}{xs:List V}(h:mg x=some (.ref a))(hs:∀H,SqT K H a xs)(hk:∃o,K.lookup a=some o)(hd:∀H S,aE K T H S ds xs):xD K T mg x (.tup ds):=⟨_,.ref a,h,rfl,fun H S h1 h2=>by
 unfold Rep;refine⟨a,xs,rfl,fun z=>?_,hs H,hd H S⟩
 obtain⟨o,e⟩:=h2 a z;obtain⟨u,e2⟩:=hk;rw[h1 a u e2]at e;cases e⟩
noncomputable def G0(csts:List (Str×D))(fl:Str→List Str)(sub:Str→Str→Bool)(xn:Str→Bool)(wd:Str→Str→Option Str)(i7:List (Str×List (Str×D)):=[]):GS:={ fn:=fun _ _=>none,ff:=fun _=>false,me:=fun _ _ _=>none,mf:=fun _ _=>false,mo:=fun _ _=>none,cst:=fun x=>csts.lookup x,sub:=sub,fl:=fl,xn:=xn,wd:=wd,dk:=fun x=>i7.lookup x }
theorem aHI{P:vc}{w:World}{K:va}{mg:vf}{base:Heap}{cls:List Str}{csts:List (Str×D)}{fl:Str→List Str}{sub:Str→Str→Bool}{xn:Str→Bool}{wd:Str→Str→Option Str}{i7:List (Str×List (Str×D))}(hc:∀x d,csts.lookup x=some d→xD K T mg x d)(az:∀cn C,T.cl cn=some C→Cls K C)(gj:∀cn C f,T.cl cn=some C→(fl cn).contains f=true→eD K C f)
  (hbi:∀x,fH.contains x=true→mg x=none) (hx:∀x C,T.xc x=some C→mg x=some (.ref C)) (hxn:∀k,xn k=true→∃C,T.xc k=some C) (oi:∀k C,T.xc k=some C→excIn K C fj "ValueError.__new__" = true)
  (mP:∀k k' C C',T.xc k=some C→T.xc k'=some C'→sub k k'=true→eI K C (.ref C')=true)
  (hwd:∀f k x C,T.xc k=some C→wd f k=some x→∃fa fd ps j,j≤lv∧mg f=some (.ref fa)∧keepIn K (.ref fa)=true∧Binds K fd ps []∧ku P w K mg base j fa fd ps (ng C x)) (hdk:∀x kvs,i7.lookup x=some kvs→∃a,mg x=some (.ref a)∧∀X:Cx,X.prog=P→X.w=w→X.K=K→NO X T a kvs:=by intro x kvs h;cases h):MOk P w K mg base (gK P w) ⟨[],cls,csts.map (·.1),[]⟩ (G0 csts fl sub xn wd i7) T lv:=by
 intro X c e1 e2 e3 e4 e5 e6 e7 e8 e9;subst e1 e2 e3 e4 e5;refine⟨fun x hx=>?_,fun cn C m ds r _ hr=>(by cases hr),az,gj,fun x _ ds d hd=>(by cases hd),fun x d hd _=>hc x d hd,fun x hx _ _=>hbi x hx,hx,fun x hx=>?_,UV,fun _ _ _ _ _ _ z=>z,hxn,oi,mP,hwd,fun x kvs h=>let ⟨a,h1,h2⟩:=hdk x kvs h;⟨a,h1,h2 X rfl rfl rfl⟩⟩
 ·rw[e6]at hx;simp at hx
 ·rw[e9]at hx;simp at hx
noncomputable def GS.addC(G:GS)(x:Str)(g:List D→Option Rs):GS:={ G with mo:=fun y=>if y=x then g else G.mo y }
theorem MOk.addC{P:vc}{w:World}{K:va}{mg:vf}{base:Heap}{m:Nm}(h:MOk P w K mg base CX m G T lv){x:Str}{C f:Addr}{fd:vb}{ps:List Str}{g:List D→Option Rs}(hm:mg x=some (.ref C))(M:Mk K C f)(hb:Binds K fd ps [])(hl:∀ds d,g ds=some (.ok d)→ds.length+1=ps.length)
  (F:FnOk P w K mg base CX lv f fd ps (XB K T C ps.length g)):MOk P w K mg base CX m (G.addC x g) T (lv+1):=by
 intro X c e1 e2 e3 e4 e5 e6 e7 e8 e9;subst e1 e2 e3 e4 e5;have o:=h X c rfl rfl rfl rfl rfl e6 e7 e8 e9
 refine⟨fun y hy=>?_,fun cn C mm ds r hT hr=>?_,o.cls,o.fld,fun y hy ds d hd=>?_,fun y d hd hc=>o.cst y d hd hc,fun y hy h1 h2=>o.bi y hy h1 h2,o.xcl,o.frs,o.cx0,o.cxf,o.xns,o.xk,o.sub,fun f k x C h1 h2=>let ⟨a,b,c,j,d,e⟩:=o.wd f k x C h1 h2;⟨a,b,c,j,le_succ_of_le d,e⟩,o.dk⟩
 ·obtain⟨f',cu,cm,a1,a2,a3,a4,a5⟩:=o.fn y hy;exact⟨f',cu,cm,a1,a2,a3,a4,a5.mono (uf _)⟩
 ·obtain⟨f',cu,cm,a1,a2,a3,a4⟩:=o.me cn C mm ds r hT hr;exact⟨f',cu,cm,a1,a2,a3,a4.mono (uf _)⟩
 ·by_cases e:y=x
  ·subst e;simp only[GS.addC,if_true]at hd ⊢;exact⟨C,f,fd,ps,lv,qm _,hm,M,hb,hl ds d hd,F⟩
  ·simp only[GS.addC,if_neg e]at hd ⊢;obtain⟨C',f',cu,cm,j,a1,a2⟩:=o.mo y hy ds d hd;exact⟨C',f',cu,cm,j,le_succ_of_le a1,a2⟩
theorem MOk.defC{P:vc}{w:World}{K:va}{mg:vf}{base:Heap}{m:Nm}(h:MOk P w K mg base CX m G T lv){x qual:Str}{C f:Addr}{st:Stmt}{fd:vb}{N ps mus:List Str}{n:Nat}{is:List (Str×IE)}(hm:mg x=some (.ref C))(M:Mk K C f)(hb:Binds K fd ps [])
  (F:Fun K "__init__" qual st f fd) (fs:aa N ps (aD st)) (hk:mJ (m.cc N (aD st) mus) (aD st)=true) (ik:qP n (m.cc N (aD st) mus) (bR st)=some is) (hT:T.cl x=some C) (az:Cls K C) (lu:∀x∈is,eD K C x.1) (lr:(is.map (·.1)).Nodup) (hlen:is.length<1000) :
  MOk P w K mg base CX m (G.addC x fun ds=>if ds.length+1=ps.length then DV G x N.length is ds else none) T (lv+2):=by
 have G1:=SD (CX:=CX) (P:=P) (w:=w) (mg:=mg) (base:=base) (T:=T) (lv:=lv) F fs (c:=m.cc N (aD st) mus) rfl rfl hk ik hT az lu lr hlen (fun X a1 a2 a3 a4 a5=>h X _ a1 a2 a3 a4 a5 rfl rfl rfl rfl)
 have h':MOk P w K mg base CX m G T (lv+1):=by
  intro X c e1 e2 e3 e4 e5 e6 e7 e8 e9;subst e1 e2 e3 e4 e5;have o:=h X c rfl rfl rfl rfl rfl e6 e7 e8 e9
  refine⟨fun y hy=>?_,fun cn C mm ds r hT hr=>?_,o.cls,o.fld,fun y hy ds d hd=>?_,fun y d hd hc=>o.cst y d hd hc,fun y hy h1 h2=>o.bi y hy h1 h2,o.xcl,o.frs,o.cx0,o.cxf,o.xns,o.xk,o.sub,fun f k x C h1 h2=>let ⟨a,b,c,j,d,e⟩:=o.wd f k x C h1 h2;⟨a,b,c,j,le_succ_of_le d,e⟩,o.dk⟩
  ·obtain⟨f',cu,cm,a1,a2,a3,a4,a5⟩:=o.fn y hy;exact⟨f',cu,cm,a1,a2,a3,a4,a5.mono (uf _)⟩
  ·obtain⟨f',cu,cm,a1,a2,a3,a4⟩:=o.me cn C mm ds r hT hr;exact⟨f',cu,cm,a1,a2,a3,a4.mono (uf _)⟩
  ·obtain⟨C',f',cu,cm,j,a1,a2⟩:=o.mo y hy ds d hd;exact⟨C',f',cu,cm,j,le_succ_of_le a1,a2⟩
 refine h'.addC hm M hb (fun ds d hd=>?_) ?_
 ·by_cases e:ds.length+1=ps.length
  ·exact e
  ·rw[if_neg e]at hd;cases hd
 ·refine⟨fun vs H Q E h=>h.1,fun A outer s H args us vs Q E hr e0 kg hv br=>G1.run A outer s H args us vs Q E hr e0 kg hv ?_⟩
  obtain⟨h1,p,dx,ws,S,ds,d,e1,h2,h3,h4,h5,h6,h7⟩:=br;refine⟨h1,p,dx,ws,S,ds,d,e1,h2,h3,h4,h5,?_,h7⟩;have el:ds.length+1=ps.length:=by
   by_cases e:ds.length+1=ps.length
   ·exact e
   ·dsimp only at h6;rw[if_neg e]at h6;cases h6
  dsimp only at h6;rw[if_pos el]at h6;exact h6
end Z
namespace Z
open PySem PySem.Spec PyProof.Rows L2
def CV(K:va)(T:Tx)(d:D)(u:Value):Prop:=∃v,RelV v u∧∀(H:Hp) (S:Addr→Prop),(∀a o,K.lookup a=some o→H a=none)→(∀a,S a→∃o,H a=some o)→Rep K T H S d v
theorem tS{K:va}{T:Tx}{a:Addr}{ds:List D}{xs:List V}(hs:∀H,SqT K H a xs)(hk:∃o,K.lookup a=some o)(hd:∀H S,aE K T H S ds xs):CV K T (.tup ds) (.ref a):=⟨.ref a,rfl,fun H S h1 h2=>by
 unfold Rep;refine⟨a,xs,rfl,fun z=>?_,hs H,hd H S⟩
 obtain⟨o,e⟩:=h2 a z;obtain⟨u,e2⟩:=hk;rw[h1 a u e2]at e;cases e⟩
noncomputable def enW(w:World)(p:Str×Tok×Value):DictEntry:=⟨hashStr w p.1,.str p.1 p.2.1,p.2.2⟩
noncomputable def dvs(ts:List (Str×Tok×Value)):List (Key×Value):=ts.map fun p=>(Sum.inr p.1,p.2.2)
theorem KS:∀{ts:List (Str×Tok×Value)},(ts.map (·.1)).Nodup→((dvs ts).map (·.1)).Nodup:=fun {ts} h=>by
 unfold dvs;rw[uq];have e:ts.map ((fun x=>x.1) ∘ fun p:Str×Tok×Value=>((Sum.inr p.1,p.2.2):Key×Value))=(ts.map (·.1)).map Sum.inr:=by rw[uq];rfl
 rw[e];rw[List.nodup_iff_pairwise_ne,pairwise_map];exact(List.nodup_iff_pairwise_ne.mp h).imp fun {a b} hab z=>hab (Sum.inr.inj z)
theorem qN{P:vc}{w:World}:∀{ts:List (Str×Tok×Value)},Pairs (bQ P w) (ts.map (enW w)) (dvs ts)
 |[]=>.nil
 |p::ts=>.cons (eU P w p.1 p.2.1) rfl qN
theorem KU:∀{kvs:List (Str×D)} {ts:List (Str×Tok×Value)},kvs.map (·.1)=ts.map (·.1)→∀k,(valueAt (dvs ts) (Sum.inr k)).isSome=(kvs.lookup k).isSome
 |[],[],_,k=>rfl
 | (x,d)::kvs,(y,t,u)::ts,h,k=>by
  simp only[su,List.cons.injEq]at h;obtain⟨rfl,h⟩:=h;have ih:=KU h k
  show (valueAt ((Sum.inr x,u)::dvs ts) (Sum.inr k)).isSome=_
  unfold valueAt at ih ⊢;rw[find?_cons,lookup_cons]
  by_cases e:k=x
  ·subst e;simp
  ·have e1:(k == x)=false:=tf.mpr e
   have e2:decide ((Sum.inr x:Key)=Sum.inr k)=false:=qp fun z=>e (Sum.inr.inj z).symm
   rw[e1,e2];exact ih
theorem CJ{K:va}{T:Tx}:∀{kvs:List (Str×D)} {ts:List (Str×Tok×Value)},kvs.map (·.1)=ts.map (·.1)→(∀(i:Nat) p q,kvs[i]?=some p→ts[i]?=some q→CV K T p.2 q.2.2)→∀k d u,kvs.lookup k=some d→valueAt (dvs ts) (Sum.inr k)=some u→CV K T d u
 |[],[],_,_,k,d,u,h,_=>by cases h
 | (x,d')::kvs,(y,t,u')::ts,h,hv,k,d,u,h1,h2=>by
  simp only[su,List.cons.injEq]at h;obtain⟨rfl,h⟩:=h;have ih:=CJ h (fun i p q a b=>hv (i+1) p q a b) k d u
  unfold valueAt at ih h2;rw[show dvs ((x,t,u')::ts)=(Sum.inr x,u')::dvs ts from rfl,find?_cons]at h2
  rw[lookup_cons]at h1
  by_cases e:k=x
  ·subst e;simp at h1 h2;subst h1 h2;exact hv 0 _ _ rfl rfl
  ·have e1:(k == x)=false:=tf.mpr e
   have e2:decide ((Sum.inr x:Key)=Sum.inr k)=false:=qp fun z=>e (Sum.inr.inj z).symm
   rw[e1]at h1;rw[e2]at h2;exact ih h1 h2
theorem KZ{X:Cx}{T:Tx}{a:Addr}{o:Obj}{ep:Nat}{kvs:List (Str×D)}{ts:List (Str×Tok×Value)}(hs:(a == sysModules)=false)(hl:X.K.lookup a=some o)(he:o.ExactDict)(hd:o.data=.dict (ts.map (enW X.w)).toArray ep)(hk:kvs.map (·.1)=ts.map (·.1))(hn:(ts.map (·.1)).Nodup)
  (hv:∀(i:Nat) p q,kvs[i]?=some p→ts[i]?=some q→CV X.K T p.2 q.2.2):NO X T a kvs:=by
 refine⟨hs,o,dvs ts,hl,⟨_,ep,he,hd,fun e h=>?_,?_,KS hn⟩,KU hk,fun k d u h1 h2=>CJ hk hv k d u h1 h2⟩
 ·have h:e∈ts.map (enW X.w):=by simpa using h
  obtain⟨p,_,rfl⟩:=t8.mp h;exact⟨Sum.inr p.1,eU X.prog X.w p.1 p.2.1,rfl⟩
 ·exact qN
section
variable {X:Cx}
theorem rC:∀{bs:List Bool} {its:List Value},aS (bs.map V.bl) its→its=bs.map Value.bool
 |[],its,h=>by cases h;rfl
 |b::bs,its,h=>by
  cases h with
  |cons h1 h2 =>
   obtain rfl:=h1;rw[rC h2];rfl
noncomputable def eqT:Value→Bool
 |.bool a=>a == true
 |_=>false
theorem aFe:∀bs:List Bool,(bs.map Value.bool).countP eqT=bs.count true
 |[]=>rfl
 |b::bs=>by
  rw[su,List.countP_cons,List.count_cons,aFe bs];cases b<;>rfl
noncomputable def aDp:V→List V→Hp→VK→Prop:=fun x vs H Q=>∃(l:Addr) (bs:List Bool),x=.ref l∧vs=[.bl true]∧H l=some (.lst (bs.map V.bl))∧Q (.int (bs.count true)) H
theorem ZS:MtM X "list.count" aDp:=by
 intro pins s σ H x vs v us Q I rx rv h;obtain⟨l,bs,rfl,rfl,hH,q⟩:=h;cases rx;obtain⟨u,rfl,ru⟩:=rv.one;obtain rfl:u=.bool true:=ru;obtain⟨z,its,n,r,hl,e⟩:=I.lstM hH;have hi:=rC r
 subst hi;refine call_meets PySem.F.slot_list_count ⟨_,e,rfl⟩ PySem.F.entry_list_count (PySem.F.args_list_count_2 _ _) (SeqAt.list_countAt l (bs.map Value.bool).toArray n none #[] (.bool true) eqT) ⟨e,fun y hy=>?_,?_⟩
 ·have cb:y∈bs.map Value.bool:=by simpa using hy
  obtain⟨b,_,rfl⟩:=t8.mp cb;exact SeqAt.EqAt.bool_bool b true
 ·refine⟨.int (bs.count true),H,I.tok _,⟨s.toks,?_⟩,q⟩;rw[←aFe bs]
noncomputable def aDo:V→List V→Hp→VK→Prop:=fun x vs H Q=>∃(l:Addr) (bs:List Bool) (j:Nat),x=.ref l∧vs=[.bl true]∧H l=some (.lst (bs.map V.bl))∧bs[j]?=some true∧(∀m,m<j→bs[m]?=some false)∧j<1000∧Q (.int (j:Nat)) H
theorem ZR:MtM X "list.index" aDo:=by
 intro pins s σ H x vs v us Q I rx rv h;obtain⟨l,bs,j,rfl,rfl,hH,hj,hno,hs,q⟩:=h;cases rx;obtain⟨u,rfl,ru⟩:=rv.one;obtain rfl:u=.bool true:=ru;obtain⟨z,its,n,r,hl,e⟩:=I.lstM hH;have hi:=rC r
 subst hi;have hjl:=(q8.mp hj).1
 have hsz:(bs.map Value.bool).toArray.size=bs.length:=by simp
 have at_:∀(m:Nat) (hm:m<(bs.map Value.bool).toArray.size) (b:Bool),bs[m]?=some b→(bs.map Value.bool).toArray[m]=.bool b:=fun m hm b e=>by
  have hm':m<bs.length:=by rw[hsz]at hm;exact hm
  have e':bs[m]=b:=by rw[qj hm']at e;exact qw e
  simp[e']
 refine call_meets PySem.F.slot_list_index ⟨_,e,rfl⟩ PySem.F.entry_list_index (PySem.F.args_list_index_2 _ _) (SeqAt.list_indexAt l (bs.map Value.bool).toArray n none #[] (.bool true) eqT j (by rw[hsz];exact hjl) (by lia) ?_ fun m hm hmj=>?_) ⟨e,fun y hy=>?_,?_⟩
 ·rw[at_ j _ true hj];rfl
 ·rw[at_ m hm false (hno m hmj)];rfl
 ·have cb:y∈bs.map Value.bool:=by simpa using hy
  obtain⟨b,_,rfl⟩:=t8.mp cb;exact SeqAt.EqAt.bool_bool b true
 ·exact⟨.int (j:Nat),H,I.tok _,⟨_,rfl⟩,q⟩
end
noncomputable def fA(p:Nat→Pos)(k:Nat)(y:Str):Expr:=.Call (.Name "isinstance" (p k)) [.Name "e" (p (k+1)),.Name y (p (k+2))] [] (p (k+3))
noncomputable def nB(p:Nat→Pos):List Stmt:=[
 .Assign [.Name "kinds" (p 0)] (.List [fA p 1 "NoSheet",fA p 5 "NoFold",fA p 9 "NoPlace",fA p 13 "Ajar"] (p 17)) (p 18),
 .Assign [.Name "kinds" (p 19)] (.BinOp (.Name "kinds" (p 20)) .Add (.List [fA p 21 "Severed",fA p 25 "Bolted",fA p 29 "Loose",fA p 33 "NoWord"] (p 37)) (p 38)) (p 39),
 .If (.BoolOp .Or [.Compare (.Call (.Attribute (.Name "kinds" (p 40)) "count" (p 41)) [.Constant (.bool true) 0 (p 42)] [] (p 43)) [.NotEq] [.Constant (.int 1) 0 (p 44)] (p 45),.UnaryOp .Not (fA p 46 "ValueError") (p 50)] (p 51)) [.Return (some (.Constant (.str "other") 0 (p 52))) (p 53)] [] (p 54),
 .Return (some (.Subscript (.List [.Constant (.str "sheet") 0 (p 55),.Constant (.str "fold") 0 (p 56),.Constant (.str "place") 0 (p 57),.Constant (.str "ajar") 0 (p 58),.Constant (.str "severed") 0 (p 59),.Constant (.str "bolted") 0 (p 60),.Constant (.str "loose") 0 (p 61),.Constant (.str "word") 0 (p 62)] (p 63)) (.Call (.Attribute (.Name "kinds" (p 64)) "index" (p 65)) [.Constant (.bool true) 0 (p 66)] [] (p 67)) (p 68))) (p 69)]
noncomputable def bI:List Str:=["NoSheet","NoFold","NoPlace","Ajar","Severed","Bolted","Loose","NoWord"]
noncomputable def rA:List Str:=["sheet","fold","place","ajar","severed","bolted","loose","word"]
section
variable {X:Cx}{p:Nat→Pos}
def WL(K:va)(c:Value):TE:=fun σ H Q=>∃a C b,σ[0]?=some (some (.ref a))∧H a=some (.ext (isExc a C))∧XcK K C∧kitOne K (.ref C) c=some b∧Q (.bl b) H
theorem xA{c:Value}{v:V}(rc:∀u,RelV v u→u=c):gF X (.builtin "isinstance") (fun xs H Q=>∃a C b,xs=[.ref a,v]∧H a=some (.ext (isExc a C))∧XcK X.K C∧kitOne X.K (.ref C) c=some b∧Q (.bl b) H):=by
 rintro pins s σ H xs us Q I r ⟨a,C,b,rfl,hx,F,hk,q⟩;cases r with
 |cons r1 r2 =>
  cases r2 with
  |cons r2 r3 =>
   cases r3;obtain rfl:=r1;have ec:=rc _ r2
   subst ec;obtain⟨h1,_,_⟩:=I.hok a _ hx;exact kia_one (JJ F) I.kIn h1 hk (fun z=>by cases z) fun tk=>⟨.bl b,H,I.tok tk,rfl,q⟩
theorem qQ:bootBuiltins "isinstance" = some (.builtin "isinstance"):=by decide +kernel
theorem aFf:bootBuiltins "ValueError" = some (.type "ValueError"):=by decide +kernel
structure WX (X:Cx) (cs:Str→Addr):Prop where
 N:X.N=(["e","kinds"]:List Str)
 le:X.env.kindOf "e" = some .local
 lk:X.env.kindOf "kinds" = some .local
 gi:Gl X "isinstance"
 gv:Gl X "ValueError"
 gx:∀y∈bI,Gl X y
 mi:X.mg "isinstance" = none
 mv:X.mg "ValueError" = none
 mx:∀y∈bI,X.mg y=some (.ref (cs y))
variable {cs:Str→Addr}
theorem aDu(W:WX X cs){q:Pos}:PE X (.Name "e" q) (rH 0):=lH (by rw[W.N];rfl) (.inl W.le) (by decide +kernel) (by decide +kernel)
theorem YM(W:WX X cs){q:Pos}:PE X (.Name "kinds" q) (rH 1):=lH (by rw[W.N];rfl) (.inl W.lk) (by decide +kernel) (by decide +kernel)
theorem rP(W:WX X cs){k:Nat}{y:Str}(hy:y∈bI):PE X (fA p k y) (WL X.K (.ref (cs y))):=by
 have hd:(y == ("__debug__":Str))=false:=by
  have:bI.all (fun y=>!(y == ("__debug__":Str)))=true:=by decide +kernel
  have:=all_eq_true.mp this y hy
  simpa using this
 refine PE.mono (gN (xA (v:=.ref (cs y)) fun u h=>h) W.gi W.mi qQ (bJ (aDu W) (bJ (QH (v:=.ref (cs y)) (W.gx y hy) (W.mx y hy) rfl hd) gG)) (by decide +kernel) (by decide +kernel) rfl rfl) fun σ H Q hh=>?_
 obtain⟨a,C,b,h1,h2,h3,h4,q⟩:=hh;exact⟨.ref a,h1,a,C,b,rfl,h2,h3,h4,q⟩
theorem YN(W:WX X cs){k:Nat}:PE X (fA p k "ValueError") (WL X.K (.type "ValueError")):=by
 refine PE.mono (gN (xA (v:=.ty "ValueError") fun u h=>h) W.gi W.mi qQ (bJ (aDu W) (bJ (AA (v:=.ty "ValueError") W.gv W.mv aFf rfl (by decide +kernel) (by decide +kernel)) gG)) (by decide +kernel) (by decide +kernel) rfl rfl) fun σ H Q hh=>?_
 obtain⟨a,C,b,h1,h2,h3,h4,q⟩:=hh;exact⟨.ref a,h1,a,C,b,rfl,h2,h3,h4,q⟩
def GN(K:va)(c1 c2 c3 c4:Value):TE:=fun σ H Q=>∃a C b1 b2 b3 b4,σ[0]?=some (some (.ref a))∧H a=some (.ext (isExc a C))∧XcK K C∧kitOne K (.ref C) c1=some b1∧kitOne K (.ref C) c2=some b2∧kitOne K (.ref C) c3=some b3∧kitOne K (.ref C) c4=some b4∧∀l,H l=none→Q (.ref l) (upd H l (.lst ([b1,b2,b3,b4].map V.bl)))
theorem zX(W:WX X cs){k1 k2 k3 k4:Nat}{q:Pos}{y1 y2 y3 y4:Str}(h1:y1∈bI)(h2:y2∈bI)(h3:y3∈bI)(h4:y4∈bI):PE X (.List [fA p k1 y1,fA p k2 y2,fA p k3 y3,fA p k4 y4] q) (GN X.K (.ref (cs y1)) (.ref (cs y2)) (.ref (cs y3)) (.ref (cs y4))):=
 PE.mono (xU (bJ (rP W h1) (bJ (rP W h2) (bJ (rP W h3) (bJ (rP W h4) gG))))) fun σ H Q hh=>by
  obtain⟨a,C,b1,b2,b3,b4,e1,e2,e3,f1,f2,f3,f4,q⟩:=hh;exact⟨a,C,b1,e1,e2,e3,f1,a,C,b2,e1,e2,e3,f2,a,C,b3,e1,e2,e3,f3,a,C,b4,e1,e2,e3,f4,by show 4≤sizeLine;rw[sizeLine_eq];decide,q⟩
theorem mC{i:Nat}{y:Str}(h:bI[i]?=some y):y∈bI:=qh h
def aBU(K:va)(cs:Str→Addr):TS:=fun D σ H=>∃a C j w,σ[0]?=some (some (.ref a))∧σ.length=2∧H a=some (.ext (isExc a C))∧XcK K C∧j<8∧(∀i y,bI[i]?=some y→kitOne K (.ref C) (.ref (cs y))=some (decide (i=j)))∧kitOne K (.ref C) (.type "ValueError")=some true∧rA[j]?=some w∧∀H',aI H H'→D.rt (.str w) H'
section
variable (p)
abbrev wS1:Stmt:=.Assign [.Name "kinds" (p 0)] (.List [fA p 1 "NoSheet",fA p 5 "NoFold",fA p 9 "NoPlace",fA p 13 "Ajar"] (p 17)) (p 18)
abbrev wS2:Stmt:=.Assign [.Name "kinds" (p 19)] (.BinOp (.Name "kinds" (p 20)) .Add (.List [fA p 21 "Severed",fA p 25 "Bolted",fA p 29 "Loose",fA p 33 "NoWord"] (p 37)) (p 38)) (p 39)
abbrev wC1:Expr:=.Call (.Attribute (.Name "kinds" (p 40)) "count" (p 41)) [.Constant (.bool true) 0 (p 42)] [] (p 43)
abbrev wC2:Expr:=.Call (.Attribute (.Name "kinds" (p 64)) "index" (p 65)) [.Constant (.bool true) 0 (p 66)] [] (p 67)
abbrev wT3:Expr:=.BoolOp .Or [.Compare (wC1 p) [.NotEq] [.Constant (.int 1) 0 (p 44)] (p 45),.UnaryOp .Not (fA p 46 "ValueError") (p 50)] (p 51)
abbrev wL:Expr:=.List [.Constant (.str "sheet") 0 (p 55),.Constant (.str "fold") 0 (p 56),.Constant (.str "place") 0 (p 57),.Constant (.str "ajar") 0 (p 58),.Constant (.str "severed") 0 (p 59),.Constant (.str "bolted") 0 (p 60),.Constant (.str "loose") 0 (p 61),.Constant (.str "word") 0 (p 62)] (p 63)
end
theorem w1(W:WX X cs):PS X (wS1 p) (NW (GN X.K (.ref (cs "NoSheet")) (.ref (cs "NoFold")) (.ref (cs "NoPlace")) (.ref (cs "Ajar"))) (qI 1)):=
 nM (i:=1) (by rw[W.N];decide +kernel) (by rw[W.N];rfl) (.inl W.lk) (zX W (mC (i:=0) rfl) (mC (i:=1) rfl) (mC (i:=2) rfl) (mC (i:=3) rfl)) rfl (.inr W.lk)
theorem w2(W:WX X cs):PS X (wS2 p) (NW (i8 aDr (rH 1) (GN X.K (.ref (cs "Severed")) (.ref (cs "Bolted")) (.ref (cs "Loose")) (.ref (cs "NoWord")))) (qI 1)):=
 nM (i:=1) (by rw[W.N];decide +kernel) (by rw[W.N];rfl) (.inl W.lk) (UJ IH (YM W) (zX W (mC (i:=4) rfl) (mC (i:=5) rfl) (mC (i:=6) rfl) (mC (i:=7) rfl))) rfl (.inr W.lk)
theorem w3(W:WX X cs)(ka:((p 41).endLine == (p 43).line)=true):PT X (wT3 p) (tOr (GL (i8 rNe (tBM X.K "list" aDp (rH 1) (iK (tC (.bl true)) GM)) (tC (.int 1)))) (aBY (tB (WL X.K (.type "ValueError"))))):=
 PW.pt (HF (zU aDv (IA plainAttrs_list PySem.F.slot_list_count PySem.F.type_list_count ZS (YM W) (bJ AB gG) rfl rfl ka) HX (IX _)) (HE (HM (YC (YN W)))))
def tWd:TE:=aBZ (iK (tC (.str "sheet")) (iK (tC (.str "fold")) (iK (tC (.str "place")) (iK (tC (.str "ajar")) (iK (tC (.str "severed")) (iK (tC (.str "bolted")) (iK (tC (.str "loose")) (iK (tC (.str "word")) GM))))))))
theorem w4(W:WX X cs)(gh:((p 65).endLine == (p 67).line)=true):PS X (.Return (some (.Subscript (wL p) (wC2 p) (p 68))) (p 69)) (aBW (i8 (XO X.K) tWd (tBM X.K "list" aDo (rH 1) (iK (tC (.bl true)) GM)))):=
 iO (UK AH (xU (bJ fO (bJ fO (bJ fO (bJ fO (bJ fO (bJ fO (bJ fO (bJ fO gG))))))))) (IA plainAttrs_list PySem.F.slot_list_index PySem.F.type_list_index ZR (YM W) (bJ AB gG) rfl rfl gh) (fun _ _=>rfl))
end
section
variable {X:Cx}{p:Nat→Pos}{cs:Str→Addr}
theorem aHR:∀j,j<8→[decide (0=j),decide (1=j),decide (2=j),decide (3=j),decide (4=j),decide (5=j),decide (6=j),decide (7=j)].count true=1:=by decide
theorem at8:∀j,j<8→[decide (0=j),decide (1=j),decide (2=j),decide (3=j),decide (4=j),decide (5=j),decide (6=j),decide (7=j)][j]?=some true:=by decide
theorem no8:∀j,j<8→∀m,m<j→[decide (0=j),decide (1=j),decide (2=j),decide (3=j),decide (4=j),decide (5=j),decide (6=j),decide (7=j)][m]?=some false:=by decide
theorem wd8:∀j:Nat,j<8→∀w,rA[j]?=some w→L2.atI ([.str "sheet",.str "fold",.str "place",.str "ajar",.str "severed",.str "bolted",.str "loose",.str "word"]:List V) (j:Int)=some (.str w):=by
 intro j hj w hw;refine TL ?_;have:j=0∨j=1∨j=2∨j=3∨j=4∨j=5∨j=6∨j=7:=by lia
 rcases this with rfl|rfl|rfl|rfl|rfl|rfl|rfl|rfl<;>(have ji:=qw hw;subst ji;rfl)
theorem NQ(W:WX X cs)(ka:((p 41).endLine == (p 43).line)=true)(gh:((p 65).endLine == (p 67).line)=true):PSs X (nB p) (aBU X.K cs):=by
 intro pins s σ H D I hw;refine iM (w1 W) (iM (w2 W) (iM (UH (w3 W ka) (jE (iO fO)) rO) (jE (w4 W gh)))) pins s σ H D I ?_;obtain⟨a,C,j,w,e0,elen,e1,e2,hj,hk,hv,hwj,q⟩:=hw;refine⟨a,C,_,_,_,_,e0,e1,e2,hk 0 _ rfl,hk 1 _ rfl,hk 2 _ rfl,hk 3 _ rfl,fun l hl=>?_⟩
 have ne1:a≠l:=fun z=>by rw[z,hl]at e1;cases e1
 refine⟨.ref l,by rw[rj (by lia)],?_⟩
 have a0:(σ.set 1 (some (V.ref l)))[0]?=some (some (.ref a)):=by rw[rn (by decide)];exact e0
 refine⟨a,C,_,_,_,_,a0,by rw[aN ne1];exact e1,e2,hk 4 _ rfl,hk 5 _ rfl,hk 6 _ rfl,hk 7 _ rfl,fun l2 jk=>?_⟩
 have ne2:l≠l2:=fun z=>by rw[←z,aM]at jk;cases jk
 have s1:aI H (upd H l (.lst ([decide (0=j),decide (1=j),decide (2=j),decide (3=j)].map V.bl))):=aI.upd hl
 have s2:=s1.trans (aI.upd (o:=.lst ([decide (4=j),decide (5=j),decide (6=j),decide (7=j)].map V.bl)) jk)
 refine⟨l,l2,_,_,rfl,rfl,by rw[aN ne2];exact aM,aM,?_,fun l3 hl3=>?_⟩
 ·show 4+4≤sizeLine;rw[sizeLine_eq];decide
 have n2:(((σ.set 1 (some (V.ref l))).set 1 (some (V.ref l3))))[1]?=some (some (.ref l3)):=by rw[rj (by rw[List.length_set];lia)]
 have n0:(((σ.set 1 (some (V.ref l))).set 1 (some (V.ref l3))))[0]?=some (some (.ref a)):=by rw[rn (by decide)];exact a0
 have s3:=s2.trans (aI.upd (o:=.lst ([decide (0=j),decide (1=j),decide (2=j),decide (3=j),decide (4=j),decide (5=j),decide (6=j),decide (7=j)].map V.bl)) hl3)
 have ha3:=s3 _ _ e1
 refine⟨.ref l3,n2,.inl ⟨rfl,_,SqL.of aM⟩,l3,[decide (0=j),decide (1=j),decide (2=j),decide (3=j),decide (4=j),decide (5=j),decide (6=j),decide (7=j)],rfl,rfl,aM,rfl,⟨_,rfl,?_⟩⟩;refine aEJ (by rw[aHR j hj];rfl) ?_
 refine⟨a,C,true,n0,ha3,e2,hv,true,rfl,?_⟩;show if false=true then _ else _
 refine oY ?_;refine⟨by show 8≤sizeLine;rw[sizeLine_eq];decide,fun l4 hl4=>?_⟩
 have ne4:l3≠l4:=fun z=>by
  rw[←z]at hl4;have:(some (HO.lst ([decide (0=j),decide (1=j),decide (2=j),decide (3=j),decide (4=j),decide (5=j),decide (6=j),decide (7=j)].map V.bl)))=none:=aM.symm.trans hl4
  cases this
 refine⟨.ref l3,n2,.inl ⟨rfl,_,SqL.of (by rw[aN ne4];exact aM)⟩,l3,[decide (0=j),decide (1=j),decide (2=j),decide (3=j),decide (4=j),decide (5=j),decide (6=j),decide (7=j)],j,rfl,rfl,by rw[aN ne4];exact aM,at8 j hj,no8 j hj,by lia,l4,_,_,_,rfl,rfl,SqL.of aM,wd8 j hj w hwj,q _ (s3.trans (aI.upd hl4))⟩
end
theorem SC{P:vc}{w:World}{K:va}{mg:vf}{base:Heap}{x qual:Str}{st:Stmt}{f C:Addr}{fd:vb}{p:Nat→Pos}{cs:Str→Addr}{j k:Nat}{wd:Str}(F:Fun K x qual st f fd)(fs:aa ["e","kinds"] ["e"] (aD st))(hb:bR st=nB p)
  (ka:((p 41).endLine == (p 43).line)=true) (gh:((p 65).endLine == (p 67).line)=true) (h1:(aD st).names.lookup ("e":Str)=some .local) (h2:(aD st).names.lookup ("kinds":Str)=some .local)
  (h3:∀y∈("isinstance":Str) :: "ValueError" :: bI,(aD st).names.lookup y=some .globalImplicit) (mi:mg "isinstance" = none) (mv:mg "ValueError" = none) (mx:∀y∈bI,mg y=some (.ref (cs y)))
  (X:XcK K C) (hj:j<8) (hk:∀(i:Nat) (y:Str),bI[i]?=some y→kitOne K (.ref C) (.ref (cs y))=some (decide (i=j))) (hv:kitOne K (.ref C) (.type "ValueError")=some true) (hw:rA[j]?=some wd):ku P w K mg base (k+1) f fd ["e"] (ng C wd):=by
 refine aAn F fs (fun vs H Q br=>?_) fun cd A outer s H vs Q hr br=>⟨_,by rw[hb];exact NQ (cs:=cs) ⟨rfl,h1,h2,h3 _ (by simp),h3 _ (by simp),fun y hy=>h3 y (by simp[hy]),mi,mv,mx⟩ ka gh,?_⟩
 ·obtain⟨a,rfl,_⟩:=br;rfl
 ·obtain⟨a,rfl,hx,q⟩:=br;exact⟨a,C,j,wd,rfl,rfl,hx,X,hj,hk,hv,hw,q⟩
end Z
namespace Toy
open PySem PySem.Spec PyProof.Rows L2 Z
noncomputable def vV:Str→List Str:=fun c=>if c = "Pile" then ["columns","rows","wide","high","table","folds","severed"] else []
noncomputable def csts:List (Str×D):=[("MOST_CELLS",.int 64),("UPRIGHT_SIDES",.tup [.str "west",.str "east"]),("LEVEL_SIDES",.tup [.str "north",.str "south"]),("NEAR_SIDES",.tup [.str "west",.str "north"])]
noncomputable def i7:List (Str×List (Str×D)):=[("SPINE_LINES",[("west",.tup [.bl false,.int 0]),("east",.tup [.bl false,.int 1]),("north",.tup [.bl true,.int 0]),("south",.tup [.bl true,.int 1])])]
noncomputable def cj:List Str:=(["LeafError","Ajar","NoPlace"]:List Str)
noncomputable def WN:Str→Str→Bool:=fun k k'=>cj.contains k&&(k' == "LeafError" || k == k')
noncomputable def k6:Str→Str→Option Str:=fun f k=>if f = "_law_word_of"∧cj.contains k=true then(bI.idxOf? k).bind (rA[·]?) else none
noncomputable def m0:Nm:=⟨[],(["Pile","LeafError","NoSheet","NoFold","NoPlace","Ajar","Severed","Bolted","Loose","NoWord"]:List Str),csts.map (·.1),[]⟩
noncomputable def g0:GS:=G0 csts vV WN (fun k=>cj.contains k) k6 i7
abbrev Rd(U:List Str)(m:Nm)(N:List Str)(st:Stmt)(i:IS):Prop:=jc 60 (m.cc N (aD st) U) (bR st)=some i
abbrev Ok(U:List Str)(m:Nm)(N:List Str)(st:Stmt):Prop:=mJ (m.cc N (aD st) U) (aD st)=true
theorem sK{N P:List Str}{sc:Scope}(a:sc.kind=.function:=by rfl)(b:sc.isCoroutine=false:=by rfl)(c:sc.isGenerator=false:=by rfl)(d:N.Nodup:=by decide +kernel)(e:N.take P.length=P:=by rfl)(f:∀x∈P,sc.names.lookup x=some .local∨sc.names.lookup x=some .cell:=by decide +kernel)(h:∀y∈sc.names,y.2≠.free:=by decide +kernel):aa N P sc:=⟨a,b,c,d,e,f,h⟩
noncomputable def fD(k:Nat)(g:GS)(n:Nat)(i:IS)(ds:List D):Option Rs:=if ds.length=k then aU g n i ds else none
theorem dE{k:Nat}{g:GS}{n:Nat}{i:IS}{ds:List D}(h:ds.length=k):fD k g n i ds=aU g n i ds:=if_pos h
noncomputable def vU:List (Str×IE):=[("columns",.var 1),("rows",.var 2),("wide",.bcall .len (.cons (.ix (.var 3) (.lit (.int 0))) .nil)),("high",.bcall .len (.cons (.var 3) .nil)),("table",.var 3),("folds",.var 4),("severed",.var 5)]
theorem aDn:qP 60 (m0.cc (["self","columns","rows","table","folds","severed"]:List Str) (aD (L2.inClass (top 15) 0)) []) (bR (L2.inClass (top 15) 0))=some vU:=by kernel_rfl
noncomputable def KG(ds:List D):Option Rs:=if ds.length+1=6 then DV g0 "Pile" 6 vU ds else none
noncomputable def g1:GS:=g0.addC "Pile" KG
noncomputable def m1:Nm:=m0
noncomputable def CZ:List Str:=(["self","x","y"]:List Str)
abbrev MC:List Str:=CZ
theorem aCP:Rd ([]:List Str) m1 CZ (L2.inClass (top 15) 1) Pg.sD:=by kernel_rfl
theorem aCh:aa CZ MC (aD (L2.inClass (top 15) 1)):=sK
theorem aDK:Ok ([]:List Str) m1 CZ (L2.inClass (top 15) 1):=by decide +kernel
noncomputable def nY:=fD 3 g1 3 Pg.sD
theorem aBx{ds:List D}:ds.length=3→nY ds=aU g1 3 Pg.sD ds:=dE
noncomputable def g2:GS:=g1.addM "Pile" "heap" nY true
noncomputable def m2:Nm:=m1.addM "heap" true
noncomputable def DE:List Str:=(["columns","y"]:List Str)
abbrev MK:List Str:=DE
theorem aCU:Rd ([]:List Str) m2 DE (top 17) Pg.iA:=by kernel_rfl
theorem aCm:aa DE MK (aD (top 17)):=sK
theorem aDP:Ok ([]:List Str) m2 DE (top 17):=by decide +kernel
noncomputable def BM:=fD 2 g2 2 Pg.iA
theorem aBB{ds:List D}:ds.length=2→BM ds=aU g2 2 Pg.iA ds:=dE
noncomputable def g3:GS:=g2.addF "laid_row" BM false
noncomputable def m3:Nm:=m2.addF "laid_row" false
noncomputable def NC:List Str:=(["columns","rows","table"]:List Str)
noncomputable def MB:List Str:=(["columns","rows"]:List Str)
theorem aCO:Rd ([]:List Str) m3 NC (top 16) Pg.sC:=by kernel_rfl
theorem aCg:aa NC MB (aD (top 16)):=sK
theorem aDJ:Ok ([]:List Str) m3 NC (top 16):=by decide +kernel
noncomputable def vY:=fD 2 g3 3 Pg.sC
theorem aBw{ds:List D}:ds.length=2→vY ds=aU g3 3 Pg.sC ds:=dE
noncomputable def g4:GS:=g3.addF "laid" vY false
noncomputable def m4:Nm:=m3.addF "laid" false
noncomputable def DC:List Str:=(["part","k"]:List Str)
abbrev MJ:List Str:=DC
theorem aCT:Rd ([]:List Str) m4 DC (top 28) Pg.jK:=by kernel_rfl
theorem aCl:aa DC MJ (aD (top 28)):=sK
theorem aDO:Ok ([]:List Str) m4 DC (top 28):=by decide +kernel
noncomputable def BL:=fD 2 g4 2 Pg.jK
theorem aBA{ds:List D}:ds.length=2→BL ds=aU g4 2 Pg.jK ds:=dE
noncomputable def g5:GS:=g4.addF "heap_at" BL false
noncomputable def m5:Nm:=m4.addF "heap_at" false
noncomputable def aBd:List Str:=(["moving","staying","over","upper","lower","longer"]:List Str)
noncomputable def aAS:List Str:=(["moving","staying","over"]:List Str)
theorem aHk:Rd ([]:List Str) m5 aBd (top 27) Pg.dJ:=by kernel_rfl
theorem aGY:aa aBd aAS (aD (top 27)):=sK
theorem aHB:Ok ([]:List Str) m5 aBd (top 27):=by decide +kernel
noncomputable def SL:=fD 3 g5 6 Pg.dJ
theorem aGJ{ds:List D}:ds.length=3→SL ds=aU g5 6 Pg.dJ ds:=dE
noncomputable def g6:GS:=g5.addF "laid_together" SL false
noncomputable def m6:Nm:=m5.addF "laid_together" false
noncomputable def DJ:List Str:=(["heap","side"]:List Str)
abbrev MW:List Str:=DJ
theorem aDf:Rd ([]:List Str) m6 DJ (top 26) Pg.eT:=by kernel_rfl
theorem aCx:aa DJ MW (aD (top 26)):=sK
theorem aEa:Ok ([]:List Str) m6 DJ (top 26):=by decide +kernel
noncomputable def BX:=fD 2 g6 2 Pg.eT
theorem aBM{ds:List D}:ds.length=2→BX ds=aU g6 2 Pg.eT ds:=dE
noncomputable def g7:GS:=g6.addF "turned_heap" BX false
noncomputable def m7:Nm:=m6.addF "turned_heap" false
noncomputable def DK:List Str:=(["part","side"]:List Str)
abbrev MX:List Str:=DK
theorem aDg:Rd ([]:List Str) m7 DK (top 25) Pg.eS:=by kernel_rfl
theorem aCy:aa DK MX (aD (top 25)):=sK
theorem aEb:Ok ([]:List Str) m7 DK (top 25):=by decide +kernel
noncomputable def BY:=fD 2 g7 2 Pg.eS
theorem aBN{ds:List D}:ds.length=2→BY ds=aU g7 2 Pg.eS ds:=dE
noncomputable def g8:GS:=g7.addF "turned_part" BY false
noncomputable def m8:Nm:=m7.addF "turned_part" false
noncomputable def aAY:List Str:=(["strip","side","over","crease","before","behind","outward"]:List Str)
noncomputable def aAN:List Str:=(["strip","side","over","crease"]:List Str)
theorem aHf:Rd ([]:List Str) m8 aAY (top 24) Pg.eC:=by kernel_rfl
theorem aGT:aa aAY aAN (aD (top 24)):=sK
theorem aHw:Ok ([]:List Str) m8 aAY (top 24):=by decide +kernel
noncomputable def SH:=fD 4 g8 7 Pg.eC
theorem aGF{ds:List D}:ds.length=4→SH ds=aU g8 7 Pg.eC ds:=dE
noncomputable def g9:GS:=g8.addF "folded_strip" SH false
noncomputable def m9:Nm:=m8.addF "folded_strip" false
noncomputable def DF:List Str:=(["table","x"]:List Str)
abbrev ML:List Str:=DF
theorem aCV:Rd ([]:List Str) m9 DF (top 23) Pg.fY:=by kernel_rfl
theorem aCn:aa DF ML (aD (top 23)):=sK
theorem aDQ:Ok ([]:List Str) m9 DF (top 23):=by decide +kernel
noncomputable def BN:=fD 2 g9 2 Pg.fY
theorem aBC{ds:List D}:ds.length=2→BN ds=aU g9 2 Pg.fY ds:=dE
noncomputable def pz:GS:=g9.addF "column_of" BN false
noncomputable def m10:Nm:=m9.addF "column_of" false
noncomputable def DH:List Str:=(["table"]:List Str)
abbrev MS:List Str:=DH
theorem aDb:Rd ([]:List Str) m10 DH (top 22) Pg.fB:=by kernel_rfl
theorem aCt:aa DH MS (aD (top 22)):=sK
theorem aDW:Ok ([]:List Str) m10 DH (top 22):=by decide +kernel
noncomputable def BU:=fD 1 pz 1 Pg.fB
theorem aBI{ds:List D}:ds.length=1→BU ds=aU pz 1 Pg.fB ds:=dE
noncomputable def mq:GS:=pz.addF "transposed" BU false
noncomputable def m11:Nm:=m10.addF "transposed" false
noncomputable def aAZ:List Str:=(["table","side","over","crease","strips"]:List Str)
noncomputable def aAO:List Str:=(["table","side","over","crease"]:List Str)
theorem aHg:Rd ([]:List Str) m11 aAZ (top 21) Pg.eB:=by kernel_rfl
theorem aGU:aa aAZ aAO (aD (top 21)):=sK
theorem aHx:Ok ([]:List Str) m11 aAZ (top 21):=by decide +kernel
noncomputable def SI:=fD 4 mq 5 Pg.eB
theorem aGG{ds:List D}:ds.length=4→SI ds=aU mq 5 Pg.eB ds:=dE
noncomputable def g12:GS:=mq.addF "folded_table" SI false
noncomputable def m12:Nm:=m11.addF "folded_table" false
noncomputable def DG:List Str:=(["pile","side","crease"]:List Str)
abbrev MP:List Str:=DG
theorem aCY:Rd ([]:List Str) m12 DG (top 20) Pg.fE:=by kernel_rfl
theorem aCq:aa DG MP (aD (top 20)):=sK
theorem aDT:Ok ([]:List Str) m12 DG (top 20):=by decide +kernel
noncomputable def BQ:=fD 3 g12 3 Pg.fE
theorem aBF{ds:List D}:ds.length=3→BQ ds=aU g12 3 Pg.fE ds:=dE
noncomputable def g13:GS:=g12.addF "has_crease" BQ false
noncomputable def m13:Nm:=m12.addF "has_crease" false
noncomputable def TX:List Str:=(["pile"]:List Str)
abbrev aAV:List Str:=TX
theorem aHn:Rd ([]:List Str) m13 TX (top 19) Pg.dA:=by kernel_rfl
theorem aHb:aa TX aAV (aD (top 19)):=sK
theorem aHE:Ok ([]:List Str) m13 TX (top 19):=by decide +kernel
noncomputable def SN:=fD 1 g13 1 Pg.dA
theorem aGL{ds:List D}:ds.length=1→SN ds=aU g13 1 Pg.dA ds:=dE
noncomputable def kl:GS:=g13.addF "refuse_severed" SN false
noncomputable def m14:Nm:=m13.addF "refuse_severed" false
noncomputable def ND:List Str:=(["pile","side","over","crease","table","folds"]:List Str)
noncomputable def ME:List Str:=(["pile","side","over","crease"]:List Str)
theorem aCR:Rd ([]:List Str) m14 ND (top 18) Pg.kO:=by kernel_rfl
theorem aCj:aa ND ME (aD (top 18)):=sK
theorem aDM:Ok ([]:List Str) m14 ND (top 18):=by decide +kernel
noncomputable def BJ:=fD 4 kl 6 Pg.kO
theorem aBy{ds:List D}:ds.length=4→BJ ds=aU kl 6 Pg.kO ds:=dE
noncomputable def mj:GS:=kl.addF "folded" BJ false
noncomputable def m15:Nm:=m14.addF "folded" false
noncomputable def NI:List Str:=(["pile","lines","y","x","cell","east","north"]:List Str)
noncomputable def MR:List Str:=(["pile"]:List Str)
theorem aDa:Rd (["lines"]:List Str) m15 NI (top 33) Pg.fF:=by kernel_rfl
theorem aCs:aa NI MR (aD (top 33)):=sK
theorem aDV:Ok (["lines"]:List Str) m15 NI (top 33):=by decide +kernel
noncomputable def BS:=fD 1 mj 7 Pg.fF
theorem aBH{ds:List D}:ds.length=1→BS ds=aU mj 7 Pg.fF ds:=dE
noncomputable def g16:GS:=mj.addF "edge_lines" BS false
noncomputable def m16:Nm:=m15.addF "edge_lines" false
noncomputable def NH:List Str:=(["columns","rows","cells","found","cell"]:List Str)
noncomputable def MQ:List Str:=(["columns","rows"]:List Str)
theorem aCZ:Rd (["found"]:List Str) m16 NH (top 32) Pg.fC:=by kernel_rfl
theorem aCr:aa NH MQ (aD (top 32)):=sK
theorem aDU:Ok (["found"]:List Str) m16 NH (top 32):=by decide +kernel
noncomputable def BR:=fD 2 g16 5 Pg.fC
theorem aBG{ds:List D}:ds.length=2→BR ds=aU g16 5 Pg.fC ds:=dE
noncomputable def mh:GS:=g16.addF "neighbours" BR false
noncomputable def m17:Nm:=m16.addF "neighbours" false
noncomputable def NJ:List Str:=(["pile","lines","found","first","second","level"]:List Str)
noncomputable def MU:List Str:=(["pile"]:List Str)
theorem aDd:Rd (["found"]:List Str) m17 NJ (top 31) Pg.fG:=by kernel_rfl
theorem aCv:aa NJ MU (aD (top 31)):=sK
theorem aDY:Ok (["found"]:List Str) m17 NJ (top 31):=by decide +kernel
noncomputable def BV:=fD 1 mh 6 Pg.fG
theorem aBK{ds:List D}:ds.length=1→BV ds=aU mh 6 Pg.fG ds:=dE
noncomputable def pq:GS:=mh.addF "all_joints" BV false
noncomputable def m18:Nm:=m17.addF "all_joints" false
noncomputable def DB:List Str:=(["pile"]:List Str)
abbrev MF:List Str:=DB
theorem aCS:Rd ([]:List Str) m18 DB (top 30) Pg.kN:=by kernel_rfl
theorem aCk:aa DB MF (aD (top 30)):=sK
theorem aDN:Ok ([]:List Str) m18 DB (top 30):=by decide +kernel
noncomputable def BK:=fD 1 pq 1 Pg.kN
theorem aBz{ds:List D}:ds.length=1→BK ds=aU pq 1 Pg.kN ds:=dE
noncomputable def pk:GS:=pq.addF "joints" BK false
noncomputable def m19:Nm:=m18.addF "joints" false
noncomputable def NB:List Str:=(["pile","level","number","last","parted"]:List Str)
noncomputable def MA:List Str:=(["pile","level","number"]:List Str)
theorem aCM:Rd ([]:List Str) m19 NB (top 34) Pg.AS:=by kernel_rfl
theorem aCe:aa NB MA (aD (top 34)):=sK
theorem aDH:Ok ([]:List Str) m19 NB (top 34):=by decide +kernel
noncomputable def BI:=fD 3 pk 5 Pg.AS
theorem aBv{ds:List D}:ds.length=3→BI ds=aU pk 5 Pg.AS ds:=dE
noncomputable def g20:GS:=pk.addF "cut" BI false
noncomputable def m20:Nm:=m19.addF "cut" false
noncomputable def TV:List Str:=(["pile","spine"]:List Str)
abbrev aAU:List Str:=TV
theorem aHm:Rd ([]:List Str) m20 TV (top 38) Pg.qH:=by kernel_rfl
theorem aHa:aa TV aAU (aD (top 38)):=sK
theorem aHD:Ok ([]:List Str) m20 TV (top 38):=by decide +kernel
noncomputable def FL:=fD 2 g20 2 Pg.qH
theorem WH{ds:List D}:ds.length=2→FL ds=aU g20 2 Pg.qH ds:=dE
noncomputable def pj:GS:=g20.addF "refuse_unbound" FL false
noncomputable def m21:Nm:=m20.addF "refuse_unbound" false
noncomputable def aBe:List Str:=(["pile","spine","found","cell","east","north","upward","downward"]:List Str)
noncomputable def aAT:List Str:=(["pile","spine"]:List Str)
theorem aHl:Rd (["found"]:List Str) m21 aBe (top 39) Pg.RZ:=by kernel_rfl
theorem aGZ:aa aBe aAT (aD (top 39)):=sK
theorem aHC:Ok (["found"]:List Str) m21 aBe (top 39):=by decide +kernel
noncomputable def SM:=fD 2 pj 8 Pg.RZ
theorem aGK{ds:List D}:ds.length=2→SM ds=aU pj 8 Pg.RZ ds:=dE
noncomputable def ma:GS:=pj.addF "upright_pages" SM false
noncomputable def m22:Nm:=m21.addF "upright_pages" false
noncomputable def DA:List Str:=(["pile","spine","prints"]:List Str)
abbrev MD:List Str:=DA
theorem aCQ:Rd ([]:List Str) m22 DA (top 37) K10.kM:=by kernel_rfl
theorem aCi:aa DA MD (aD (top 37)):=sK
theorem aDL:Ok ([]:List Str) m22 DA (top 37):=by decide +kernel
noncomputable def vZ:=fD 3 ma 3 K10.kM
theorem GG{ds:List D}:ds.length=3→vZ ds=aU ma 3 K10.kM ds:=dE
noncomputable def g23:GS:=ma.addF "pages" vZ false
noncomputable def m23:Nm:=m22.addF "pages" false
noncomputable def DL:List Str:=(["script","k"]:List Str)
abbrev NA:List Str:=DL
theorem aDj:Rd ([]:List Str) m23 DL (top 41) Pg.jL:=by kernel_rfl
theorem aCB:aa DL NA (aD (top 41)):=sK
theorem aEe:Ok ([]:List Str) m23 DL (top 41):=by decide +kernel
noncomputable def qK:=fD 2 g23 2 Pg.jL
theorem aBQ{ds:List D}:ds.length=2→qK ds=aU g23 2 Pg.jL ds:=dE
noncomputable def g24:GS:=g23.addF "_law_cell_at" qK false
noncomputable def m24:Nm:=m23.addF "_law_cell_at" false
noncomputable def DI:List Str:=(["found"]:List Str)
abbrev MT:List Str:=DI
theorem aDc:Rd ([]:List Str) m24 DI (top 42) Pg.mY:=by kernel_rfl
theorem aCu:aa DI MT (aD (top 42)):=sK
theorem aDX:Ok ([]:List Str) m24 DI (top 42):=by decide +kernel
noncomputable def wB:=fD 1 g24 1 Pg.mY
theorem aBJ{ds:List D}:ds.length=1→wB ds=aU g24 1 Pg.mY ds:=dE
noncomputable def g25:GS:=g24.addF "_law_whole" wB false
noncomputable def m25:Nm:=m24.addF "_law_whole" false
noncomputable def aBc:List Str:=(["cell","way","more"]:List Str)
noncomputable def aAR:List Str:=(["cell"]:List Str)
theorem aHj:Rd ([]:List Str) m25 aBc (top 43) Pg.fQ:=by kernel_rfl
theorem aGX:aa aBc aAR (aD (top 43)):=sK
theorem aHA:Ok ([]:List Str) m25 aBc (top 43):=by decide +kernel
noncomputable def aAr:=fD 1 g25 3 Pg.fQ
theorem aGI{ds:List D}:ds.length=1→aAr ds=aU g25 3 Pg.fQ ds:=dE
noncomputable def ph:GS:=g25.addF "_law_sheet_by" aAr false
noncomputable def m26:Nm:=m25.addF "_law_sheet_by" false
noncomputable def aBb:List Str:=(["cell","wide","high","level","extent","sides"]:List Str)
noncomputable def aAQ:List Str:=(["cell","wide","high"]:List Str)
theorem aHi:Rd ([]:List Str) m26 aBb (top 44) Pg.gT:=by kernel_rfl
theorem aGW:aa aBb aAQ (aD (top 44)):=sK
theorem aHz:Ok ([]:List Str) m26 aBb (top 44):=by decide +kernel
noncomputable def SJ:=fD 3 ph 6 Pg.gT
theorem aGH{ds:List D}:ds.length=3→SJ ds=aU ph 6 Pg.gT ds:=dE
noncomputable def jb:GS:=ph.addF "_law_fold_by" SJ false
noncomputable def m27:Nm:=m26.addF "_law_fold_by" false
noncomputable def NF:List Str:=(["columns","rows","script","pile","k","cell","fold"]:List Str)
noncomputable def MM:List Str:=(["columns","rows","script"]:List Str)
theorem aCW:Rd ([]:List Str) m27 NF (top 45) Pg.rY:=by kernel_rfl
theorem aCo:aa NF MM (aD (top 45)):=sK
theorem aDR:Ok ([]:List Str) m27 NF (top 45):=by decide +kernel
noncomputable def BO:=fD 3 jb 7 Pg.rY
theorem aBD{ds:List D}:ds.length=3→BO ds=aU jb 7 Pg.rY ds:=dE
noncomputable def l9:GS:=jb.addF "_law_shut" BO false
noncomputable def m28:Nm:=m27.addF "_law_shut" false
noncomputable def NL:List Str:=(["pile","count","found","one"]:List Str)
noncomputable def MY:List Str:=(["pile","count"]:List Str)
theorem aDh:Rd ([]:List Str) m28 NL (top 46) Pg.sA:=by kernel_rfl
theorem aCz:aa NL MY (aD (top 46)):=sK
theorem aEc:Ok ([]:List Str) m28 NL (top 46):=by decide +kernel
noncomputable def BZ:=fD 2 l9 4 Pg.sA
theorem aBO{ds:List D}:ds.length=2→BZ ds=aU l9 4 Pg.sA ds:=dE
noncomputable def g29:GS:=l9.addF "_law_leaves" BZ false
noncomputable def m29:Nm:=m28.addF "_law_leaves" false
noncomputable def NK:List Str:=(["found","spine","out","cell","east","north","front","head_south"]:List Str)
noncomputable def MV:List Str:=(["found","spine"]:List Str)
theorem aDe:Rd (["out"]:List Str) m29 NK (top 47) Pg.sF:=by kernel_rfl
theorem aCw:aa NK MV (aD (top 47)):=sK
theorem aDZ:Ok (["out"]:List Str) m29 NK (top 47):=by decide +kernel
noncomputable def BW:=fD 2 g29 8 Pg.sF
theorem aBL{ds:List D}:ds.length=2→BW ds=aU g29 8 Pg.sF ds:=dE
noncomputable def oN:GS:=g29.addF "_law_faces" BW false
noncomputable def m30:Nm:=m29.addF "_law_faces" false
noncomputable def NM:List Str:=(["script","count","out","k","cell"]:List Str)
noncomputable def MZ:List Str:=(["script","count"]:List Str)
theorem aDi:Rd (["out"]:List Str) m30 NM (top 49) K10.kL:=by kernel_rfl
theorem aCA:aa NM MZ (aD (top 49)):=sK
theorem aEd:Ok (["out"]:List Str) m30 NM (top 49):=by decide +kernel
noncomputable def CA:=fD 2 oN 5 K10.kL
theorem aBP{ds:List D}:ds.length=2→CA ds=aU oN 5 K10.kL ds:=dE
noncomputable def o9:GS:=oN.addF "_law_prints" CA false
noncomputable def m31:Nm:=m30.addF "_law_prints" false
noncomputable def NG:List Str:=(["found","prints","due","k","one","mark","south"]:List Str)
noncomputable def MN:List Str:=(["found","prints","due"]:List Str)
theorem aCX:Rd ([]:List Str) m31 NG (top 50) K10.rZ:=by kernel_rfl
theorem aCp:aa NG MN (aD (top 50)):=sK
theorem aDS:Ok ([]:List Str) m31 NG (top 50):=by decide +kernel
noncomputable def BP:=fD 3 o9 7 K10.rZ
theorem aBE{ds:List D}:ds.length=3→BP ds=aU o9 7 K10.rZ ds:=dE
noncomputable def o8:GS:=o9.addF "_law_read" BP false
noncomputable def m32:Nm:=m31.addF "_law_read" false
noncomputable def aBa:List Str:=(["pile","spine","prints","e"]:List Str)
noncomputable def aAP:List Str:=(["pile","spine","prints"]:List Str)
theorem aHh:Rd ([]:List Str) m32 aBa (top 51) K10.AQ:=by kernel_rfl
theorem aGV:aa aBa aAP (aD (top 51)):=sK
theorem aHy:Ok ([]:List Str) m32 aBa (top 51):=by decide +kernel
noncomputable def KH:=fD 3 o8 4 K10.AQ
theorem aBu{ds:List D}:ds.length=3→KH ds=aU o8 4 K10.AQ ds:=dE
noncomputable def d9:GS:=o8.addF "_law_refused" KH false
noncomputable def oa:Nm:=m32.addF "_law_refused" false
noncomputable def CY:List Str:=(["script","columns","rows","spines","prints","odd","word","pile","leafs","k","spine","handed"]:List Str)
noncomputable def qV:List Str:=(["script"]:List Str)
theorem aCN:Rd ([]:List Str) oa CY (top 52) K10.AR:=by kernel_rfl
theorem aCf:aa CY qV (aD (top 52)):=sK
theorem aDI:Ok ([]:List Str) oa CY (top 52):=by decide +kernel
noncomputable def vX:=fD 1 d9 12 K10.AR
theorem TZ{ds:List D}:ds.length=1→vX ds=aU d9 12 K10.AR ds:=dE
noncomputable def tx(C:Addr)(cs:Str→Addr):Tx:=⟨fun x=>if x = "Pile" then some C else none,fun x=>if cj.contains x=true then some (cs x) else none⟩
theorem zL(C:Addr)(cs:Str→Addr):(tx C cs).cl "Pile" = some C:=by
 unfold tx;simp only[if_true]
theorem UA{C:Addr}{cs:Str→Addr}{cn:Str}{C':Addr}(h:(tx C cs).cl cn=some C'):cn = "Pile"∧C'=C:=by
 unfold tx at h;dsimp only at h;split at h
 ·rename_i e;cases h;exact⟨e,rfl⟩
 ·cases h
theorem uL{C:Addr}{cs:Str→Addr}{k:Str}{C':Addr}(h:(tx C cs).xc k=some C'):cj.contains k=true∧C'=cs k:=by
 unfold tx at h;dsimp only at h;split at h
 ·rename_i e;cases h;exact⟨e,rfl⟩
 ·cases h
structure Df (K:va) (mg:vf) (x:Str) (st:Stmt) (ps:List Str) (f:Addr) (fd:vb):Prop where
 fn:Fun K x x st f fd
 at_:mg x=some (.ref f)
 bd:Binds K fd ps []
structure Mt (K:va) (C:Addr) (x qual:Str) (st:Stmt) (ps:List Str) (f:Addr) (fd:vb):Prop where
 fn:Fun K x qual st f fd
 at_:iu K C x f
 bd:Binds K fd ps []
section
variable {P:vc}{w:World}{K:va}{mg:vf}{base:Heap}{C:Addr}{cs:Str→Addr}
abbrev MO(P:vc)(w:World)(K:va)(mg:vf)(base:Heap)(C:Addr)(cs:Str→Addr)(m:Nm)(g:GS)(k:Nat):Prop:=MOk P w K mg base (gK P w) m g (tx C cs) k
noncomputable def aGE:Nat→Pos:=fun i=>([⟨201,4,201,9⟩,⟨201,13,201,23⟩,⟨201,24,201,25⟩,⟨201,27,201,34⟩,⟨201,13,201,35⟩,⟨201,37,201,47⟩,⟨201,48,201,49⟩,⟨201,51,201,57⟩,⟨201,37,201,58⟩,⟨201,60,201,70⟩,⟨201,71,201,72⟩,⟨201,74,201,81⟩,⟨201,60,201,82⟩,⟨201,84,201,94⟩,⟨201,95,201,96⟩,⟨201,98,201,102⟩,⟨201,84,201,103⟩,⟨201,12,201,104⟩,⟨201,4,201,104⟩,⟨202,4,202,9⟩,⟨202,12,202,17⟩,⟨202,21,202,31⟩,⟨202,32,202,33⟩,⟨202,35,202,42⟩,⟨202,21,202,43⟩,⟨202,45,202,55⟩,⟨202,56,202,57⟩,⟨202,59,202,65⟩,⟨202,45,202,66⟩,⟨202,68,202,78⟩,⟨202,79,202,80⟩,⟨202,82,202,87⟩,⟨202,68,202,88⟩,⟨202,90,202,100⟩,⟨202,101,202,102⟩,⟨202,104,202,110⟩,⟨202,90,202,111⟩,⟨202,20,202,112⟩,⟨202,12,202,112⟩,⟨202,4,202,112⟩,⟨203,7,203,12⟩,⟨203,7,203,18⟩,⟨203,19,203,23⟩,⟨203,7,203,24⟩,⟨203,28,203,29⟩,⟨203,7,203,29⟩,⟨203,37,203,47⟩,⟨203,48,203,49⟩,⟨203,51,203,61⟩,⟨203,37,203,62⟩,⟨203,33,203,62⟩,⟨203,7,203,62⟩,⟨204,15,204,22⟩,⟨204,8,204,22⟩,⟨203,4,204,22⟩,⟨205,12,205,19⟩,⟨205,21,205,27⟩,⟨205,29,205,36⟩,⟨205,38,205,44⟩,⟨205,46,205,55⟩,⟨205,57,205,65⟩,⟨205,67,205,74⟩,⟨205,76,205,82⟩,⟨205,11,205,83⟩,⟨205,84,205,89⟩,⟨205,84,205,95⟩,⟨205,96,205,100⟩,⟨205,84,205,101⟩,⟨205,11,205,102⟩,⟨205,4,205,102⟩]:List Pos).getD i ⟨0,0,0,0⟩
theorem WG:bR (top 48)=nB aGE:=by rfl
theorem NS:aa ["e","kinds"] ["e"] (aD (top 48)):=sK
theorem WE:∀y∈("isinstance":Str) :: "ValueError" :: bI,(aD (top 48)).names.lookup y=some .globalImplicit:=by
 have:(("isinstance":Str) :: "ValueError" :: bI).all (fun y=>(aD (top 48)).names.lookup y == some .globalImplicit)=true:=by decide +kernel
 intro y hy;exact t7.mp (all_eq_true.mp this y hy)
theorem aGD{f:Addr}{fd:vb}(F:Df K mg "_law_word_of" (top 48) ["e"] f fd)(mi:mg "isinstance" = none)(mv:mg "ValueError" = none)(mx:∀y∈bI,mg y=some (.ref (cs y)))(hX:∀k,cj.contains k=true→∀(j:Nat),bI.idxOf? k=some j→XcK K (cs k))
  (hk:∀k,cj.contains k=true→∀(j:Nat),bI.idxOf? k=some j→∀(i:Nat) (y:Str),bI[i]?=some y→kitOne K (.ref (cs k)) (.ref (cs y))=some (decide (i=j))) (hv:∀k,cj.contains k=true→∀(j:Nat),bI.idxOf? k=some j→kitOne K (.ref (cs k)) (.type "ValueError")=some true) :
  ∀g k x C',(tx C cs).xc k=some C'→k6 g k=some x→∃fa fd ps j,j≤1∧mg g=some (.ref fa)∧keepIn K (.ref fa)=true∧Binds K fd ps []∧ku P w K mg base j fa fd ps (ng C' x):=by
 intro g k x C' h1 h2;obtain⟨lz,rfl⟩:=uL h1;unfold k6 at h2;split at h2
 ·rename_i hc;obtain⟨rfl,_⟩:=hc;obtain⟨j,hj,hw⟩:=qi.mp h2;refine⟨f,fd,["e"],1,qm 1,F.at_,F.fn.kp,F.bd,SC (cs:=cs) (j:=j) F.fn NS WG (by decide) (by decide) (by decide +kernel) (by decide +kernel) WE mi mv mx (hX k lz j hj) ?_ (hk k lz j hj) (hv k lz j hj) hw⟩
  have:=(q8.mp hw).1
  exact this
 ·cases h2
theorem mk0(hc:∀x d,csts.lookup x=some d→xD K (tx C cs) mg x d)(az:Cls K C)(gj:∀f,(vV "Pile").contains f=true→eD K C f)(hbi:∀x,fH.contains x=true→mg x=none)(hx:∀k,cj.contains k=true→mg k=some (.ref (cs k)))(oi:∀k,cj.contains k=true→excIn K (cs k) fj "ValueError.__new__" = true)
  (mP:∀k k',cj.contains k=true→cj.contains k'=true→WN k k'=true→eI K (cs k) (.ref (cs k'))=true) (hwd:∀g k x C',(tx C cs).xc k=some C'→k6 g k=some x→∃fa fd ps j,j≤1∧mg g=some (.ref fa)∧keepIn K (.ref fa)=true∧Binds K fd ps []∧ku P w K mg base j fa fd ps (ng C' x)) (hdk:∀x kvs,i7.lookup x=some kvs→∃a,mg x=some (.ref a)∧∀X:Cx,X.prog=P→X.w=w→X.K=K→NO X (tx C cs) a kvs):MO P w K mg base C cs m0 g0 1:=
 aHI hc (fun cn C' h=>by obtain⟨_,rfl⟩:=UA h;exact az) (fun cn C' f h hf=>by obtain⟨rfl,rfl⟩:=UA h;exact gj f hf) hbi (fun k C' h=>by obtain⟨h1,rfl⟩:=uL h;exact hx k h1) (fun k h=>⟨cs k,if_pos h⟩) (fun k C' h=>by obtain⟨h1,rfl⟩:=uL h;exact oi k h1)
  (fun k k' C1 C2 a b h=>by obtain⟨h1,rfl⟩:=uL a;obtain⟨h2,rfl⟩:=uL b;exact mP k k' h1 h2 h) hwd hdk
theorem aCC:aa (["self","columns","rows","table","folds","severed"]:List Str) (["self","columns","rows","table","folds","severed"]:List Str) (aD (L2.inClass (top 15) 0)):=sK
theorem mk1{f:Addr}{fd:vb}(h:MO P w K mg base C cs m0 g0 1)(hm:mg "Pile" = some (.ref C))(M:Mk K C f)(hb:Binds K fd (["self","columns","rows","table","folds","severed"]:List Str) [])(F:Fun K "__init__" "Pile.__init__" (L2.inClass (top 15) 0) f fd)(az:Cls K C)(gj:∀f,(vV "Pile").contains f=true→eD K C f):MO P w K mg base C cs m1 g1 3:=
 h.defC hm M hb F aCC (by decide +kernel) aDn (zL C cs) az (fun x hx=>gj x.1 (by
  have:vU.all (fun x=>(vV "Pile").contains x.1)=true:=by decide +kernel
  exact all_eq_true.mp this x hx)) (by decide +kernel) (by decide)
theorem mkM{m:Nm}{g:GS}{k:Nat}{x q:Str}{st:Stmt}{N ps U:List Str}{i:IS}{f:Addr}{fd:vb}(e:∀cn ds,g.me cn x ds=none)(s:aa N ps (aD st))(o:Ok U m N st)(r:Rd U m N st i)(h:MO P w K mg base C cs m g k)(M:Mt K C x q st ps f fd)(a1:m.fns.contains x=false:=by decide +kernel)(a3:m.fresh.contains x=false:=by decide +kernel)(a4:true=true→iJ i=true:=by decide +kernel):MO P w K mg base C cs (m.addM x true) (g.addM "Pile" x (fD ps.length g N.length i) true) (k+1):=h.defM a1 e a3 (zL C cs) M.at_ M.bd M.fn s o r a4
theorem aFb:∀cn ds,g1.me cn "heap" ds=none:=fun cn ds=>by
 rfl
theorem aEC{x:Str}(h_heap:¬x = "heap"):∀cn ds,g2.me cn x ds=none:=fun cn ds=>by
 show (if cn = "Pile"∧x = "heap" then nY else fun _=>none) ds=none
 rw[if_neg fun z=>h_heap z.2]
theorem bu{m:Nm}{g:GS}{k:Nat}{x:Str}{st:Stmt}{N ps U:List Str}{i:IS}{f:Addr}{fd:vb}(s:aa N ps (aD st))(o:Ok U m N st)(r:Rd U m N st i)(h:MO P w K mg base C cs m g k)(M:Df K mg x st ps f fd)(a1:m.fns.contains x=false:=by decide +kernel)(a2:∀cn ds,g.me cn x ds=none:=by exact aEC (by decide +kernel))(a3:m.fresh.contains x=false:=by decide +kernel)(a4:false=true→iJ i=true:=by first|(intro z;cases z;done)|decide +kernel):MO P w K mg base C cs (m.addF x false) (g.addF x (fD ps.length g N.length i) false) (k+1):=h.defF a1 a2 a3 M.at_ M.bd M.fn s o r a4
theorem ZT{f:Addr}{fd:vb}(h:MO P w K mg base C cs oa d9 35)(M:Df K mg "law" (top 52) qV f fd):FnOk P w K mg base (gK P w) 36 f fd qV (iy K (tx C cs) 1 vX false):=
 ((aAm (fr:=false) (n:=60) (c:=oa.cc CY (aD (top 52)) ([]:List Str)) M.fn aCf rfl rfl aDI aCN (fun z=>by cases z) (fun X a1 a2 a3 a4 a5=>h X _ a1 a2 a3 a4 a5 rfl rfl rfl rfl)).imp fun vs H Q E ⟨h1,S,ds,dom,rl,hc⟩=>⟨h1,S,ds,dom,rl,by rw[TZ (by rw[rl.len];exact h1)]at hc;exact hc⟩)
end
theorem XU:g3.fn "laid_row" = BM:=by kernel_rfl
theorem XT:g5.fn "heap_at" = BL:=by kernel_rfl
theorem XR:g7.fn "turned_heap" = BX:=by kernel_rfl
theorem aDs:g8.fn "laid_together" = SL:=by kernel_rfl
theorem XQ:g8.fn "turned_part" = BY:=by kernel_rfl
theorem PU:pz.fn "column_of" = BN:=by kernel_rfl
theorem YB:mq.fn "folded_strip" = SH:=by kernel_rfl
theorem PR:mq.fn "transposed" = BU:=by kernel_rfl
theorem XZ:kl.fn "folded_table" = SI:=by kernel_rfl
theorem PQ:kl.fn "has_crease" = BQ:=by kernel_rfl
theorem YA:kl.fn "refuse_severed" = SN:=by kernel_rfl
theorem QN:mj.me "Pile" "heap" = nY:=by kernel_rfl
theorem PP:mh.fn "edge_lines" = BS:=by kernel_rfl
theorem PN:mh.fn "neighbours" = BR:=by kernel_rfl
theorem PM:pq.fn "all_joints" = BV:=by kernel_rfl
theorem PL:pk.fn "joints" = BK:=by kernel_rfl
theorem QM:pj.me "Pile" "heap" = nY:=by kernel_rfl
theorem xS:ma.fn "refuse_unbound" = FL:=by kernel_rfl
theorem XY:ma.fn "upright_pages" = SM:=by kernel_rfl
theorem PK:jb.fn "_law_cell_at" = qK:=by kernel_rfl
theorem XX:jb.fn "_law_fold_by" = SJ:=by kernel_rfl
theorem PJ:jb.fn "folded" = BJ:=by kernel_rfl
theorem PH:jb.fn "laid" = vY:=by kernel_rfl
theorem PF:l9.fn "_law_whole" = wB:=by kernel_rfl
theorem QL:l9.me "Pile" "heap" = nY:=by kernel_rfl
theorem PD:oN.fn "_law_cell_at" = qK:=by kernel_rfl
theorem PB:o9.fn "_law_whole" = wB:=by kernel_rfl
theorem zT:o8.fn "pages" = vZ:=by kernel_rfl
theorem OZ:d9.fn "_law_cell_at" = qK:=by kernel_rfl
theorem OW:d9.fn "_law_faces" = BW:=by kernel_rfl
theorem OX:d9.fn "_law_leaves" = BZ:=by kernel_rfl
theorem OY:d9.fn "_law_prints" = CA:=by kernel_rfl
theorem OV:d9.fn "_law_read" = BP:=by kernel_rfl
theorem HD:d9.fn "_law_refused" = KH:=by kernel_rfl
theorem XW:d9.fn "_law_sheet_by" = aAr:=by kernel_rfl
theorem OU:d9.fn "_law_shut" = BO:=by kernel_rfl
theorem OR:d9.fn "cut" = BI:=by kernel_rfl
theorem OS:d9.fn "laid" = vY:=by kernel_rfl
theorem OT:d9.fn "pages" = vZ:=by kernel_rfl
end Toy
namespace Toy
open PySem Z Z.Pg
theorem f9(G:GS)(h:G.fl=vV):G.fl "Pile" = cw:=by rw[h];rfl
theorem mo_(c r:Int)(T row:List D)(F S:List D)(h:T[0]?=some (.lst row)):KG [.int c,.int r,.lst T,.tup F,.tup S]=some (.ok (bN c r row.length T.length T F S)):=by
 show DV g0 "Pile" 6 vU _=_
 unfold DV vU;have e:atI T 0=some (.lst row):=eM (k:=0) h
 show Option.map _ (i6 g0 [.un,.im (.int c),.im (.int r),.im (.lst T),.im (.tup F),.im (.tup S)] _)=_
 simp only[i6,qo];simp only[zz,yy,aA,aB,e];rfl
theorem GE{c r w h:Nat}{T:Table}{F S:List D}{x y:Nat}(R:Rect T w h)(hx:x<w)(hy:y<h):nY [aL c r w h T F S,.int x,.int y]=some (.ok (hE ((T.getD y []).getD x []))):=by
 rw[aBx rfl];have cb:y<T.length:=by rw[R.len];exact hy
 have hr:(T.getD y []).length=w:=R.row _ (by rw[q9,qj cb];exact v5 cb)
 refine SA (f9 _ rfl) (row:=(T.getD y []).map hE) (by lia) (by lia) ?_ ?_
 ·rw[qk,q9,qj cb];rfl
 ·rw[qk,q9 (l:=T.getD y []),qj (by lia)];rfl
theorem mc_:g3.cst "MOST_CELLS" = some (.int 64):=by rfl
theorem aBl{c y:Nat}(h1:c≤64)(h2:y≤64):BM [.int c,.int y]=some (.ok (.lst (mM c y))):=(aBB rfl).trans (vQ h1 h2)
theorem TY{c r:Nat}(h1:1≤c)(h2:1≤r)(h3:c*r≤64):vY [.int c,.int r]=some (.ok (aL c r c r (eZ c r) [] [])):=by
 rw[aBw rfl];unfold aL;rw[←uN];exact RT mc_ (fun c y a b=>by rw[XU];exact aBl a b) (fun c r T row h=>mo_ c r T row [] [] h) h1 h2 h3
theorem aBk(p:aY)(k:Nat):BL [sE p,.int k]=some (.ok (hE (p.getD k []))):=(aBA rfl).trans yR
theorem aGB(mv st:aY)(over:Bool)(l1:mv.length≤1000)(l2:st.length≤1000)(f1:Few 400000 mv)(f2:Few 400000 st):SL [sE mv,sE st,.bl over]=some (.ok (sE (bV mv st over))):=
 (aGJ rfl).trans (lM (fun p k=>by rw[XT];exact aBk p k) l1 l2 f1 f2)
theorem aBs(h:cR)(sd:Side):BX [hE h,.str sd.str]=some (.ok (hE (eE sd.up h))):=(aBM rfl).trans (nF rfl)
theorem aBt(p:aY)(sd:Side):BY [sE p,.str sd.str]=some (.ok (sE (dR sd.up p))):=(aBN rfl).trans (nE fun h sd=>by rw[XR];exact aBs h sd)
theorem aGz(s:aY)(sd:Side)(over:Bool)(c:Nat)(ls:s.length≤1000)(hf:Few 400000 s):SH [sE s,.str sd.str,.bl over,.int c]=some (.ok (sE (cQ sd over c s))):=
 (aGF rfl).trans (mR rfl (fun p sd=>by rw[XQ];exact aBt p sd) (fun mv st over a b c d=>by rw[aDs];exact aGB mv st over a b c d) ls hf)
theorem aBm(T:Table)(x:Nat)(h:∀s∈T,x<s.length):BN [tE T,.int x]=some (.ok (sE (T.map fun s=>s.getD x []))):=(aBC rfl).trans (tX h)
theorem aBq(T:Table)(w h:Nat)(R:Rect T w h)(hw:w≤1000):BU [tE T]=some (.ok (tE (transp T))):=(aBI rfl).trans (oV (fun T x h=>by rw[PU];exact aBm T x h) R hw)
theorem aGA(T:Table)(w h:Nat)(sd:Side)(over:Bool)(k:Nat)(R:Rect T w h)(hw:w≤1000)(hh:h≤1000)(hf:pG 400000 T)(h1:1≤k)(h2:k<if sd.up then w else h):SI [tE T,.str sd.str,.bl over,.int k]=some (.ok (tE (foldT sd over k T))):=
 (aGG rfl).trans (mQ rfl (fun T w h R hw=>by rw[PR];exact aBq T w h R hw) (fun s sd over c a b=>by rw[YB];exact aGz s sd over c a b) R hw hh hf h1 h2)
theorem aBn(c r w h:Nat)(T:Table)(F S:List D)(sd:Side)(i:Int):BQ [aL c r w h T F S,.str sd.str,.int i]=some (.ok (.bl (decide (1≤i)&&decide (i<((if sd.up then w else h:Nat):Int))))):=(aBF rfl).trans (oZ (f9 _ rfl) rfl rfl)
theorem aGC(c r w h:Nat)(T:Table)(F:List D):SN [aL c r w h T F []]=some (.ok .non):=(aGL rfl).trans (kH (f9 _ rfl))
theorem aBj(c r w h:Nat)(T:Table)(F:List D)(sd:Side)(over:Bool)(k:Nat)(R:Rect T w h)(hw:w≤1000)(hh:h≤1000)(hf:pG 400000 T)(h1:1≤k)(h2:k<if sd.up then w else h)(hF:F.length≤1000):BJ [aL c r w h T F [],.str sd.str,.bl over,.int k]=some (.ok (aL c r (if sd.up then max k (w-k) else w) (if sd.up then h else max k (h-k)) (foldT sd over k T) (F++[eY sd over k]) [])):=
 (aBy rfl).trans (FE (f9 _ rfl) (fun c r w h T F=>by rw[YA];exact aGC c r w h T F) (fun c r w h T F S sd i=>by rw[PQ];exact aBn c r w h T F S sd i) (fun T w h sd over k a b c d e f=>by rw[XZ];exact aGA T w h sd over k a b c d e f) (fun c r T row F S h=>mo_ c r T row F S h) R hw hh hf h1 h2 hF)
theorem kY(ns:List Int)(k:Nat):qK [.frz (ns.map .int),.int k]=some (.ok (.int (bg ns k))):=(aBQ rfl).trans zC
theorem zI(i:Int):wB [.int i]=some (.ok (.bl true)):=(aBJ rfl).trans GF
theorem DM(w h:Nat)(cell:Int)(hw:1≤w)(hh:1≤h)(hwh:1<w*h):∃(sd:Side) (over:Bool) (k:Nat),1≤k∧(k<if sd.up then w else h)∧SJ [.int cell,.int w,.int h]=some (.ok (eY sd over k)):=by
 obtain⟨sd,over,k,a,b,e⟩:=yW (G:=ph) (cell:=cell) hw hh hwh;exact⟨sd,over,k,a,b,(aGH rfl).trans e⟩
theorem aBp(c r w h:Nat)(T:Table)(F C:List D)(sp:List Spot)(S:Sits T w h sp):∃kvs,BS [aL c r w h T F C]=some (.ok (.dct kvs))∧∀(i:Nat) (s:Spot),sp[i]?=some s→dQ kvs i=some (iP s):=by
 obtain⟨kvs,e,h⟩:=pA (G:=mj) (c:=c) (r:=r) (F:=F) (C:=C) (f9 _ rfl) (fun c r w h T F S x y a b d=>by rw[QN];exact GE a b d) S
 exact⟨kvs,(aBH rfl).trans e,h⟩
theorem aBo(c r:Nat)(hc:1≤c)(bb:c*r≤64)(i5:c≤64):BR [.int c,.int r]=some (.ok (.lst ((dy c (c*r) (c*r)).map jh))):=(aBG rfl).trans (oX hc bb i5)
theorem aBr(c r w h:Nat)(T:Table)(F C:List D)(sp:List Spot)(S:Sits T w h sp)(hc:1≤c)(bb:c*r≤64)(i5:c≤64)(br:sp.length=c*r):BV [aL c r w h T F C]=some (.ok (jsE sp c r)):=by
 obtain⟨kvs,e,hk⟩:=aBp c r w h T F C sp S;exact(aBK rfl).trans (pF (f9 _ rfl) (by rw[PP];exact e) hk (by rw[PN];exact aBo c r hc bb i5) bb br)
theorem qZ(c r w h:Nat)(T:Table)(F:List D)(sp:List Spot)(ak:List (Nat×Nat))(S:Sits T w h sp)(hc:1≤c)(bb:c*r≤64)(i5:c≤64)(br:sp.length=c*r):BK [aL c r w h T F (ak.map pD)]=some (.ok (.lst ((Pg.left c (c*r) ak).map (jD sp)))):=
 (aBz rfl).trans (yM (f9 _ rfl) (by rw[PM];exact aBr c r w h T F _ sp S hc bb i5 br))
theorem DN(c r w h:Nat)(T:Table)(F:List D)(sp:List Spot)(ak:List (Nat×Nat))(S:Sits T w h sp)(hc:1≤c)(bb:c*r≤64)(i5:c≤64)(br:sp.length=c*r)(l:Bool)(n:Int)(h0:0≤n)(h1:n≤((if l then h else w:Nat):Int))(hs:ak.length≤900000):BI [aL c r w h T F (ak.map pD),.bl l,.int n]=some (.ok (aL c r w h T F ((ak++fS c (c*r) sp ak l n).map pD))):=
 (aBv rfl).trans (TC (f9 _ rfl) S.rect (by rw[PL];exact qZ c r w h T F sp ak S hc bb i5 br) (fun c r T row F S h=>mo_ c r T row F S h) h0 h1 (by lia))
theorem aBh(c r:Nat)(T:Table)(F S:List D)(sd:Side):FL [aL c r 1 1 T F S,.str sd.str]=some (.ok .non):=(WH rfl).trans (WI (f9 _ rfl) rfl)
theorem uG(c r:Nat)(T:Table)(F S:List D)(x:Str)(hn:ko.lookup x=none):FL [aL c r 1 1 T F S,.str x]=some (.er "NoPlace"):=(WH rfl).trans (DO (f9 _ rfl) rfl rfl hn)
theorem xE(c r w h:Nat)(T:Table)(F S:List D)(d:D)(hw:1≤w)(hh:1≤h)(h1:1<w*h):FL [aL c r w h T F S,d]=some (.er "Ajar"):=(WH rfl).trans (GH (f9 _ rfl) rfl h1 hw hh)
theorem WA(ns:List Int)(c r:Nat)(hc:1≤c)(hr:1≤r)(bb:c*r≤64):∃fs sp,Stg c r fs sp∧(runs c r fs).2.1=1∧(runs c r fs).2.2=1∧BO [.int c,.int r,.frz (ns.map .int)]=some (.ok (dM c r fs)):=by
 obtain⟨fs,sp,S,w1,h1,e⟩:=OL (G:=jb) (ns:=ns) (f9 _ rfl) hc hr bb (fun k=>by rw[PK];exact kY ns k) (by rw[PH];exact TY hc hr bb) (fun w h cell a b d=>by rw[XX];exact DM w h cell a b d)
  (fun fs sp f S ok hl=>FF (fun c r w h T F sd over k a1 a2 a3 a4 a5 a6 a7=>by rw[PJ];exact aBj c r w h T F sd over k a1 a2 a3 a4 a5 a6 a7) S ok hl)
 exact⟨fs,sp,S,w1,h1,(aBD rfl).trans e⟩
theorem WC(c r:Nat)(T:Table)(F S:List D)(sp:List Spot)(Si:Sits T 1 1 sp)(hs:sp.length=c*r):BZ [aL c r 1 1 T F S,.int ((c*r:Nat):Int)]=some (.ok (hE (aj T 0 0))):=
 (aBO rfl).trans (RP (f9 _ rfl) (fun i=>by rw[PF];exact zI i) Si hs (by rw[QL];exact GE (x:=0) (y:=0) Si.rect (by decide) (by decide)))
theorem WD(h:cR)(sd:Side)(hl:h.length≤1000):BW [hE h,.str sd.str]=some (.ok (.lst ((b9 (!sd.up) h).map Pg.fD))):=(aBL rfl).trans (SF hl)
theorem aGy(c r:Nat)(T:Table)(F S:List D)(sp:List Spot)(sd:Side)(Si:Sits T 1 1 sp):SM [aL c r 1 1 T F S,.str sd.str]=some (.ok (.lst ((b9 (!sd.up) (aj T 0 0)).map Pg.fD))):=
 (aGK rfl).trans (aBR rfl (by rw[QM];exact GE (x:=0) (y:=0) Si.rect (by decide) (by decide)) (by rw[(kA Si).1];exact se Si.len (by decide)))
theorem GD(ns:List Int)(n:Nat)(hn:n≤1000):CA [.frz (ns.map .int),.int n]=some (.ok (.lst (((List.range n).map (K10.pr1 ns)).map Pg.fD))):=(aBP rfl).trans (K10.DY (fun k=>by rw[PD];exact kY ns k) hn)
theorem aBi(c r:Nat)(T:Table)(F S:List D)(sp:List Spot)(sd:Side)(P:List (Int×Bool))(Si:Sits T 1 1 sp)(hF:K10.Fit P (b9 (!sd.up) (aj T 0 0))):vZ [aL c r 1 1 T F S,.str sd.str,.lst (P.map Pg.fD)]=some (.ok (.lst ((b9 (!sd.up) (aj T 0 0)).map (K10.pgD P)))):=
 (GG rfl).trans (K10.ID (by rw[xS];exact aBh c r T F S sd) (by rw[XY];exact aGy c r T F S sp sd Si) hF)
theorem wA:k6 "_law_word_of" "Ajar" = some ("ajar":Str):=by decide +kernel
theorem wP:k6 "_law_word_of" "NoPlace" = some ("place":Str):=by decide +kernel
theorem xF(c r w h:Nat)(T:Table)(F S:List D)(x:Str)(d:D)(hw:1≤w)(hh:1≤h)(h1:1<w*h):KH [aL c r w h T F S,.str x,d]=some (.ok (.str "ajar")):=
 (aBu rfl).trans (K10.GX (k:="Ajar") (by rw[zT];exact(GG rfl).trans (K10.vG (by rw[xS];exact xE c r w h T F S _ hw hh h1) rfl)) rfl rfl rfl wA)
theorem uH(c r:Nat)(T:Table)(F S:List D)(x:Str)(d:D)(hn:ko.lookup x=none):KH [aL c r 1 1 T F S,.str x,d]=some (.ok (.str "place")):=
 (aBu rfl).trans (K10.GX (k:="NoPlace") (by rw[zT];exact(GG rfl).trans (K10.vG (by rw[xS];exact uG c r T F S x hn) rfl)) rfl rfl rfl wP)
theorem WB(P fs:List (Int×Bool))(hF:K10.Fit P fs)(hl:fs.length≤1000):BP [.lst (fs.map (K10.pgD P)),.lst (P.map Pg.fD),.lst (fs.map Pg.fD)]=some (.ok (.bl true)):=(aBE rfl).trans (K10.OO (fun i=>by rw[PB];exact zI i) hF hl)
theorem law_true(ns:List Int)(_:ns.length≤63):vX [.frz (ns.map .int)]=some (.ok (.bl true)):=by
 refine(TZ rfl).trans (K10.ZU (G:=d9) (ns:=ns) (fun k=>by rw[OZ];exact kY ns k) (fun cell=>?_) (fun c r a b d=>by rw[OS];exact TY a b d) (fun n h=>by rw[OY];exact GD ns n h)
  (fun c r x d hc hr h=>by rw[HD];exact xF c r c r _ _ _ x d hc hr h) (fun c r hc hr bb=>by rw[OU];exact WA ns c r hc hr bb) (fun c r T F S sp Si hs=>by rw[OX];exact WC c r T F S sp Si hs)
  (fun c r T F S x d hn=>by rw[HD];exact uH c r T F S x d hn) (fun c r T F S sp sd P Si hF=>by rw[OT];exact aBi c r T F S sp sd P Si hF) (fun h sd hl=>by rw[OW];exact WD h sd hl)
  (fun P fs hF hl=>by rw[OV];exact WB P fs hF hl) (fun c r T F sp ak l n hc bb i5 Si hs h0 h1 hsv=>by rw[OR];exact DN c r 1 1 T F sp ak Si hc bb i5 hs l n h0 (by cases l<;>exact h1) hsv))
 rw[XW,aGI rfl];exact DS
end Toy
namespace Toy
open PySem L2 Z
theorem je{K:va}{x q:Str}{st:Stmt}{f:Addr}{fd:vb}{ps:List Str}(F:Fun K x q st f fd)(l:ps.length=1)(h:∀(kV doc pm:Value) (an:Option Addr) (bt ct a:Value),bindArgs (PySem.W.fnOf x q (gB st) (bR st) (aD st) .none kV doc pm an bt ct) ⟨[a],[]⟩=pure (ps.zip [a])):Binds K fd ps []:=F.binds fun _ _ _ _ _ _ us hl=>by
 match us,hl.trans l with
 |[a],_=>exact h _ _ _ _ _ _ a
theorem gb{K:va}{x q:Str}{st:Stmt}{f:Addr}{fd:vb}{ps:List Str}(F:Fun K x q st f fd)(l:ps.length=2)(h:∀(kV doc pm:Value) (an:Option Addr) (bt ct a b:Value),bindArgs (PySem.W.fnOf x q (gB st) (bR st) (aD st) .none kV doc pm an bt ct) ⟨[a,b],[]⟩=pure (ps.zip [a,b])):Binds K fd ps []:=F.binds fun _ _ _ _ _ _ us hl=>by
 match us,hl.trans l with
 |[a,b],_=>exact h _ _ _ _ _ _ a b
theorem jd{K:va}{x q:Str}{st:Stmt}{f:Addr}{fd:vb}{ps:List Str}(F:Fun K x q st f fd)(l:ps.length=3)(h:∀(kV doc pm:Value) (an:Option Addr) (bt ct a b c:Value),bindArgs (PySem.W.fnOf x q (gB st) (bR st) (aD st) .none kV doc pm an bt ct) ⟨[a,b,c],[]⟩=pure (ps.zip [a,b,c])):Binds K fd ps []:=F.binds fun _ _ _ _ _ _ us hl=>by
 match us,hl.trans l with
 |[a,b,c],_=>exact h _ _ _ _ _ _ a b c
theorem bn4{K:va}{x q:Str}{st:Stmt}{f:Addr}{fd:vb}{ps:List Str}(F:Fun K x q st f fd)(l:ps.length=4)(h:∀(kV doc pm:Value) (an:Option Addr) (bt ct a b c d:Value),bindArgs (PySem.W.fnOf x q (gB st) (bR st) (aD st) .none kV doc pm an bt ct) ⟨[a,b,c,d],[]⟩=pure (ps.zip [a,b,c,d])):Binds K fd ps []:=F.binds fun _ _ _ _ _ _ us hl=>by
 match us,hl.trans l with
 |[a,b,c,d],_=>exact h _ _ _ _ _ _ a b c d
theorem bn6{K:va}{x q:Str}{st:Stmt}{f:Addr}{fd:vb}{ps:List Str}(F:Fun K x q st f fd)(l:ps.length=6)(h:∀(kV doc pm:Value) (an:Option Addr) (bt ct a b c d e f:Value),bindArgs (PySem.W.fnOf x q (gB st) (bR st) (aD st) .none kV doc pm an bt ct) ⟨[a,b,c,d,e,f],[]⟩=pure (ps.zip [a,b,c,d,e,f])):Binds K fd ps []:=F.binds fun _ _ _ _ _ _ us hl=>by
 match us,hl.trans l with
 |[a,b,c,d,e,f],_=>exact h _ _ _ _ _ _ a b c d e f
theorem mF{K:va}{n q:Str}{st:Stmt}{a:Addr}{fd:vb}{m:Str}{t c:Nat}(e:fd=dF n q st m t c)(h:K.lookup a=some (oF fd))(h2:codeIn K (.ref c) q=true)(h3:keepIn K (.ref a)=true):Fun K n q st a fd:=⟨⟨_,_,_,_,_,_,_,_,_,e,h,h2⟩,h3⟩
section
variable (P:Params)
theorem VC:Fun (KK P) "laid" "laid" (top 16) 166 sL:=mF rfl (by kernel_rfl) (by kernel_rfl) (by kernel_rfl)
theorem aFo:Binds (KK P) sL MB []:=gb (VC P) rfl fun _ _ _ _ _ _ _ _=>rfl
theorem VH:Fun (KK P) "laid_row" "laid_row" (top 17) 171 sR:=mF rfl (by kernel_rfl) (by kernel_rfl) (by kernel_rfl)
theorem aFu:Binds (KK P) sR MK []:=gb (VH P) rfl fun _ _ _ _ _ _ _ _=>rfl
theorem VE:Fun (KK P) "folded" "folded" (top 18) 178 sO:=mF rfl (by kernel_rfl) (by kernel_rfl) (by kernel_rfl)
theorem aFr:Binds (KK P) sO ME []:=bn4 (VE P) rfl fun _ _ _ _ _ _ _ _ _ _=>rfl
theorem aGa:Fun (KK P) "refuse_severed" "refuse_severed" (top 19) 185 BH:=mF rfl (by kernel_rfl) (by kernel_rfl) (by kernel_rfl)
theorem aIb:Binds (KK P) BH aAV []:=je (aGa P) rfl fun _ _ _ _ _ _ _=>rfl
theorem VN:Fun (KK P) "has_crease" "has_crease" (top 20) 192 sV:=mF rfl (by kernel_rfl) (by kernel_rfl) (by kernel_rfl)
theorem aFz:Binds (KK P) sV MP []:=jd (VN P) rfl fun _ _ _ _ _ _ _ _ _=>rfl
theorem aFS:Fun (KK P) "folded_table" "folded_table" (top 21) 197 AY:=mF rfl (by kernel_rfl) (by kernel_rfl) (by kernel_rfl)
theorem aHT:Binds (KK P) AY aAO []:=bn4 (aFS P) rfl fun _ _ _ _ _ _ _ _ _ _=>rfl
theorem VQ:Fun (KK P) "transposed" "transposed" (top 22) 202 sY:=mF rfl (by kernel_rfl) (by kernel_rfl) (by kernel_rfl)
theorem aFC:Binds (KK P) sY MS []:=je (VQ P) rfl fun _ _ _ _ _ _ _=>rfl
theorem VJ:Fun (KK P) "column_of" "column_of" (top 23) 207 sS:=mF rfl (by kernel_rfl) (by kernel_rfl) (by kernel_rfl)
theorem aFw:Binds (KK P) sS ML []:=gb (VJ P) rfl fun _ _ _ _ _ _ _ _=>rfl
theorem aFR:Fun (KK P) "folded_strip" "folded_strip" (top 24) 214 AX:=mF rfl (by kernel_rfl) (by kernel_rfl) (by kernel_rfl)
theorem aHS:Binds (KK P) AX aAN []:=bn4 (aFR P) rfl fun _ _ _ _ _ _ _ _ _ _=>rfl
theorem VV:Fun (KK P) "turned_part" "turned_part" (top 25) 219 tJ:=mF rfl (by kernel_rfl) (by kernel_rfl) (by kernel_rfl)
theorem aFH:Binds (KK P) tJ MX []:=gb (VV P) rfl fun _ _ _ _ _ _ _ _=>rfl
theorem VU:Fun (KK P) "turned_heap" "turned_heap" (top 26) 224 tH:=mF rfl (by kernel_rfl) (by kernel_rfl) (by kernel_rfl)
theorem aFG:Binds (KK P) tH MW []:=gb (VU P) rfl fun _ _ _ _ _ _ _ _=>rfl
theorem aFX:Fun (KK P) "laid_together" "laid_together" (top 27) 229 BD:=mF rfl (by kernel_rfl) (by kernel_rfl) (by kernel_rfl)
theorem aHY:Binds (KK P) BD aAS []:=jd (aFX P) rfl fun _ _ _ _ _ _ _ _ _=>rfl
theorem VG:Fun (KK P) "heap_at" "heap_at" (top 28) 236 sQ:=mF rfl (by kernel_rfl) (by kernel_rfl) (by kernel_rfl)
theorem aFt:Binds (KK P) sQ MJ []:=gb (VG P) rfl fun _ _ _ _ _ _ _ _=>rfl
theorem VF:Fun (KK P) "joints" "joints" (top 30) 241 sP:=mF rfl (by kernel_rfl) (by kernel_rfl) (by kernel_rfl)
theorem aFs:Binds (KK P) sP MF []:=je (VF P) rfl fun _ _ _ _ _ _ _=>rfl
theorem VS:Fun (KK P) "all_joints" "all_joints" (top 31) 248 tF:=mF rfl (by kernel_rfl) (by kernel_rfl) (by kernel_rfl)
theorem aFE:Binds (KK P) tF MU []:=je (VS P) rfl fun _ _ _ _ _ _ _=>rfl
theorem VO:Fun (KK P) "neighbours" "neighbours" (top 32) 255 sW:=mF rfl (by kernel_rfl) (by kernel_rfl) (by kernel_rfl)
theorem aFA:Binds (KK P) sW MQ []:=gb (VO P) rfl fun _ _ _ _ _ _ _ _=>rfl
theorem VP:Fun (KK P) "edge_lines" "edge_lines" (top 33) 262 sX:=mF rfl (by kernel_rfl) (by kernel_rfl) (by kernel_rfl)
theorem aFB:Binds (KK P) sX MR []:=je (VP P) rfl fun _ _ _ _ _ _ _=>rfl
theorem VA:Fun (KK P) "cut" "cut" (top 34) 267 sJ:=mF rfl (by kernel_rfl) (by kernel_rfl) (by kernel_rfl)
theorem aFm:Binds (KK P) sJ MA []:=jd (VA P) rfl fun _ _ _ _ _ _ _ _ _=>rfl
theorem VD:Fun (KK P) "pages" "pages" (top 37) 277 sN:=mF rfl (by kernel_rfl) (by kernel_rfl) (by kernel_rfl)
theorem aFq:Binds (KK P) sN MD []:=jd (VD P) rfl fun _ _ _ _ _ _ _ _ _=>rfl
theorem aFZ:Fun (KK P) "refuse_unbound" "refuse_unbound" (top 38) 284 BG:=mF rfl (by kernel_rfl) (by kernel_rfl) (by kernel_rfl)
theorem aIa:Binds (KK P) BG aAU []:=gb (aFZ P) rfl fun _ _ _ _ _ _ _ _=>rfl
theorem aFY:Fun (KK P) "upright_pages" "upright_pages" (top 39) 291 BE:=mF rfl (by kernel_rfl) (by kernel_rfl) (by kernel_rfl)
theorem aHZ:Binds (KK P) BE aAT []:=gb (aFY P) rfl fun _ _ _ _ _ _ _ _=>rfl
theorem VY:Fun (KK P) "_law_cell_at" "_law_cell_at" (top 41) 298 tM:=mF rfl (by kernel_rfl) (by kernel_rfl) (by kernel_rfl)
theorem aFK:Binds (KK P) tM NA []:=gb (VY P) rfl fun _ _ _ _ _ _ _ _=>rfl
theorem VR:Fun (KK P) "_law_whole" "_law_whole" (top 42) 305 sZ:=mF rfl (by kernel_rfl) (by kernel_rfl) (by kernel_rfl)
theorem aFD:Binds (KK P) sZ MT []:=je (VR P) rfl fun _ _ _ _ _ _ _=>rfl
theorem aFW:Fun (KK P) "_law_sheet_by" "_law_sheet_by" (top 43) 312 BC:=mF rfl (by kernel_rfl) (by kernel_rfl) (by kernel_rfl)
theorem aHX:Binds (KK P) BC aAR []:=je (aFW P) rfl fun _ _ _ _ _ _ _=>rfl
theorem aFU:Fun (KK P) "_law_fold_by" "_law_fold_by" (top 44) 319 BA:=mF rfl (by kernel_rfl) (by kernel_rfl) (by kernel_rfl)
theorem aHV:Binds (KK P) BA aAQ []:=jd (aFU P) rfl fun _ _ _ _ _ _ _ _ _=>rfl
theorem VL:Fun (KK P) "_law_shut" "_law_shut" (top 45) 326 sT:=mF rfl (by kernel_rfl) (by kernel_rfl) (by kernel_rfl)
theorem aFx:Binds (KK P) sT MM []:=jd (VL P) rfl fun _ _ _ _ _ _ _ _ _=>rfl
theorem VW:Fun (KK P) "_law_leaves" "_law_leaves" (top 46) 331 tK:=mF rfl (by kernel_rfl) (by kernel_rfl) (by kernel_rfl)
theorem aFI:Binds (KK P) tK MY []:=gb (VW P) rfl fun _ _ _ _ _ _ _ _=>rfl
theorem VT:Fun (KK P) "_law_faces" "_law_faces" (top 47) 338 tG:=mF rfl (by kernel_rfl) (by kernel_rfl) (by kernel_rfl)
theorem aFF:Binds (KK P) tG MV []:=gb (VT P) rfl fun _ _ _ _ _ _ _ _=>rfl
theorem aFV:Fun (KK P) "_law_word_of" "_law_word_of" (top 48) 345 BB:=mF rfl (by kernel_rfl) (by kernel_rfl) (by kernel_rfl)
theorem aHW:Binds (KK P) BB (["e"]:List Str) []:=je (aFV P) rfl fun _ _ _ _ _ _ _=>rfl
theorem VX:Fun (KK P) "_law_prints" "_law_prints" (top 49) 352 tL:=mF rfl (by kernel_rfl) (by kernel_rfl) (by kernel_rfl)
theorem aFJ:Binds (KK P) tL MZ []:=gb (VX P) rfl fun _ _ _ _ _ _ _ _=>rfl
theorem VM:Fun (KK P) "_law_read" "_law_read" (top 50) 359 sU:=mF rfl (by kernel_rfl) (by kernel_rfl) (by kernel_rfl)
theorem aFy:Binds (KK P) sU MN []:=jd (VM P) rfl fun _ _ _ _ _ _ _ _ _=>rfl
theorem aFT:Fun (KK P) "_law_refused" "_law_refused" (top 51) 366 AZ:=mF rfl (by kernel_rfl) (by kernel_rfl) (by kernel_rfl)
theorem aHU:Binds (KK P) AZ aAP []:=jd (aFT P) rfl fun _ _ _ _ _ _ _ _ _=>rfl
theorem VB:Fun (KK P) "law" "law" (top 52) 373 nX:=mF rfl (by kernel_rfl) (by kernel_rfl) (by kernel_rfl)
theorem aFn:Binds (KK P) nX qV []:=je (VB P) rfl fun _ _ _ _ _ _ _=>rfl
theorem VI:Fun (KK P) "__init__" "Pile.__init__" (L2.inClass (top 15) 0) 140 yY:=mF rfl (by kernel_rfl) (by kernel_rfl) (by kernel_rfl)
theorem aFv:Binds (KK P) yY (["self","columns","rows","table","folds","severed"]:List Str) []:=bn6 (VI P) rfl fun _ _ _ _ _ _ _ _ _ _ _ _=>rfl
theorem NN:Fun (KK P) "heap" "Pile.heap" (L2.inClass (top 15) 1) 147 sM:=mF rfl (by kernel_rfl) (by kernel_rfl) (by kernel_rfl)
theorem aFp:Binds (KK P) sM MC []:=jd (NN P) rfl fun _ _ _ _ _ _ _ _ _=>rfl
theorem aGd:Mt (KK P) 157 "heap" "Pile.heap" (L2.inClass (top 15) 1) MC 147 sM:=⟨NN P,⟨by kernel_rfl,by kernel_rfl,(NN P).kp⟩,aFp P⟩
theorem aAi:Mk (KK P) 157 140:=⟨by kernel_rfl,by kernel_rfl,by kernel_rfl,by kernel_rfl⟩
theorem LM:Cls (KK P) 157:=⟨by kernel_rfl,by kernel_rfl,by kernel_rfl,by kernel_rfl⟩
theorem JB:∀f,(vV "Pile").contains f=true→eD (KK P) 157 f:=by
 intro f hf;have il:f∈vV "Pile":=by simpa using hf
 rw[show vV "Pile" = (["columns","rows","wide","high","table","folds","severed"]:List Str) from if_pos rfl]at il
 simp only[sg,uo,or_false]at il
 rcases il with rfl|rfl|rfl|rfl|rfl|rfl|rfl
 ·exact(by kernel_rfl:findIn (KK P) (.ref 157) "columns" = some none)
 ·exact(by kernel_rfl:findIn (KK P) (.ref 157) "rows" = some none)
 ·exact(by kernel_rfl:findIn (KK P) (.ref 157) "wide" = some none)
 ·exact(by kernel_rfl:findIn (KK P) (.ref 157) "high" = some none)
 ·exact(by kernel_rfl:findIn (KK P) (.ref 157) "table" = some none)
 ·exact(by kernel_rfl:findIn (KK P) (.ref 157) "folds" = some none)
 ·exact(by kernel_rfl:findIn (KK P) (.ref 157) "severed" = some none)
variable {P}{h:Heap}{mg:vf}(X:(KK P).In h)(G:h.Ns mainGlobals mg)
include X G
theorem aGc:Df (KK P) mg "laid" (top 16) MB 166 sL:=⟨VC P,mg_of X G (by kernel_rfl),aFo P⟩
theorem aGi:Df (KK P) mg "laid_row" (top 17) MK 171 sR:=⟨VH P,mg_of X G (by kernel_rfl),aFu P⟩
theorem aGf:Df (KK P) mg "folded" (top 18) ME 178 sO:=⟨VE P,mg_of X G (by kernel_rfl),aFr P⟩
theorem aIp:Df (KK P) mg "refuse_severed" (top 19) aAV 185 BH:=⟨aGa P,mg_of X G (by kernel_rfl),aIb P⟩
theorem aGm:Df (KK P) mg "has_crease" (top 20) MP 192 sV:=⟨VN P,mg_of X G (by kernel_rfl),aFz P⟩
theorem aIh:Df (KK P) mg "folded_table" (top 21) aAO 197 AY:=⟨aFS P,mg_of X G (by kernel_rfl),aHT P⟩
theorem aGp:Df (KK P) mg "transposed" (top 22) MS 202 sY:=⟨VQ P,mg_of X G (by kernel_rfl),aFC P⟩
theorem aGj:Df (KK P) mg "column_of" (top 23) ML 207 sS:=⟨VJ P,mg_of X G (by kernel_rfl),aFw P⟩
theorem aIg:Df (KK P) mg "folded_strip" (top 24) aAN 214 AX:=⟨aFR P,mg_of X G (by kernel_rfl),aHS P⟩
theorem aGu:Df (KK P) mg "turned_part" (top 25) MX 219 tJ:=⟨VV P,mg_of X G (by kernel_rfl),aFH P⟩
theorem aGt:Df (KK P) mg "turned_heap" (top 26) MW 224 tH:=⟨VU P,mg_of X G (by kernel_rfl),aFG P⟩
theorem aIm:Df (KK P) mg "laid_together" (top 27) aAS 229 BD:=⟨aFX P,mg_of X G (by kernel_rfl),aHY P⟩
theorem aGh:Df (KK P) mg "heap_at" (top 28) MJ 236 sQ:=⟨VG P,mg_of X G (by kernel_rfl),aFt P⟩
theorem aGg:Df (KK P) mg "joints" (top 30) MF 241 sP:=⟨VF P,mg_of X G (by kernel_rfl),aFs P⟩
theorem aGr:Df (KK P) mg "all_joints" (top 31) MU 248 tF:=⟨VS P,mg_of X G (by kernel_rfl),aFE P⟩
theorem aGn:Df (KK P) mg "neighbours" (top 32) MQ 255 sW:=⟨VO P,mg_of X G (by kernel_rfl),aFA P⟩
theorem aGo:Df (KK P) mg "edge_lines" (top 33) MR 262 sX:=⟨VP P,mg_of X G (by kernel_rfl),aFB P⟩
theorem aGb:Df (KK P) mg "cut" (top 34) MA 267 sJ:=⟨VA P,mg_of X G (by kernel_rfl),aFm P⟩
theorem aGe:Df (KK P) mg "pages" (top 37) MD 277 sN:=⟨VD P,mg_of X G (by kernel_rfl),aFq P⟩
theorem aIo:Df (KK P) mg "refuse_unbound" (top 38) aAU 284 BG:=⟨aFZ P,mg_of X G (by kernel_rfl),aIa P⟩
theorem aIn:Df (KK P) mg "upright_pages" (top 39) aAT 291 BE:=⟨aFY P,mg_of X G (by kernel_rfl),aHZ P⟩
theorem aGx:Df (KK P) mg "_law_cell_at" (top 41) NA 298 tM:=⟨VY P,mg_of X G (by kernel_rfl),aFK P⟩
theorem aGq:Df (KK P) mg "_law_whole" (top 42) MT 305 sZ:=⟨VR P,mg_of X G (by kernel_rfl),aFD P⟩
theorem aIl:Df (KK P) mg "_law_sheet_by" (top 43) aAR 312 BC:=⟨aFW P,mg_of X G (by kernel_rfl),aHX P⟩
theorem aIj:Df (KK P) mg "_law_fold_by" (top 44) aAQ 319 BA:=⟨aFU P,mg_of X G (by kernel_rfl),aHV P⟩
theorem aGk:Df (KK P) mg "_law_shut" (top 45) MM 326 sT:=⟨VL P,mg_of X G (by kernel_rfl),aFx P⟩
theorem aGv:Df (KK P) mg "_law_leaves" (top 46) MY 331 tK:=⟨VW P,mg_of X G (by kernel_rfl),aFI P⟩
theorem aGs:Df (KK P) mg "_law_faces" (top 47) MV 338 tG:=⟨VT P,mg_of X G (by kernel_rfl),aFF P⟩
theorem aIk:Df (KK P) mg "_law_word_of" (top 48) (["e"]:List Str) 345 BB:=⟨aFV P,mg_of X G (by kernel_rfl),aHW P⟩
theorem aGw:Df (KK P) mg "_law_prints" (top 49) MZ 352 tL:=⟨VX P,mg_of X G (by kernel_rfl),aFJ P⟩
theorem aGl:Df (KK P) mg "_law_read" (top 50) MN 359 sU:=⟨VM P,mg_of X G (by kernel_rfl),aFy P⟩
theorem aIi:Df (KK P) mg "_law_refused" (top 51) aAP 366 AZ:=⟨aFT P,mg_of X G (by kernel_rfl),aHU P⟩
theorem VZ:Df (KK P) mg "law" (top 52) qV 373 nX:=⟨VB P,mg_of X G (by kernel_rfl),aFn P⟩
theorem aAk:∀x,fH.contains x=true→mg x=none:=by
 intro x hx;have dt:x∈fH:=by simpa using hx
 simp only[fH,sg,uo,or_false]at dt
 rcases dt with rfl|rfl|rfl|rfl|rfl|rfl|rfl|rfl|rfl|rfl|rfl|rfl|rfl|rfl|rfl
 ·exact mg_none_of X G (by kernel_rfl)
 ·exact mg_none_of X G (by kernel_rfl)
 ·exact mg_none_of X G (by kernel_rfl)
 ·exact mg_none_of X G (by kernel_rfl)
 ·exact mg_none_of X G (by kernel_rfl)
 ·exact mg_none_of X G (by kernel_rfl)
 ·exact mg_none_of X G (by kernel_rfl)
 ·exact mg_none_of X G (by kernel_rfl)
 ·exact mg_none_of X G (by kernel_rfl)
 ·exact mg_none_of X G (by kernel_rfl)
 ·exact mg_none_of X G (by kernel_rfl)
 ·exact mg_none_of X G (by kernel_rfl)
 ·exact mg_none_of X G (by kernel_rfl)
 ·exact mg_none_of X G (by kernel_rfl)
 ·exact mg_none_of X G (by kernel_rfl)
theorem aER{T:Tx}:∀x d,csts.lookup x=some d→xD (KK P) T mg x d:=by
 intro x d hx;have dt:(x,d)∈csts:=t9 hx
 simp only[csts,sg,uo,or_false,Prod.mk.injEq]at dt
 rcases dt with ⟨rfl,rfl⟩|⟨rfl,rfl⟩|⟨rfl,rfl⟩|⟨rfl,rfl⟩
 ·exact TF (mg_of X G (by kernel_rfl:nsIn (KK P) mainGlobals "MOST_CELLS" = some (some (.int 64 337))))
 ·have u:(KK P).lookup 124=some ⟨(.type "tuple"),none,(.seq #[(.str "west" 339),(.str "east" 340)] 0),#[]⟩:=by kernel_rfl
  exact tU (xs:=[.str "west",.str "east"]) (mg_of X G (by kernel_rfl:nsIn (KK P) mainGlobals "UPRIGHT_SIDES" = some (some (.ref 124)))) (fun H=>.inr ⟨_,_,_,u,rfl,rfl,by show 2≤sizeLine;rw[sizeLine_eq];decide,.cons ⟨_,rfl⟩ (.cons ⟨_,rfl⟩ .nil)⟩) ⟨_,u⟩ fun H S=>aE.cons (by exact rfl) (aE.cons (by exact rfl) aE.nil)
 ·have u:(KK P).lookup 125=some ⟨(.type "tuple"),none,(.seq #[(.str "north" 342),(.str "south" 343)] 0),#[]⟩:=by kernel_rfl
  exact tU (xs:=[.str "north",.str "south"]) (mg_of X G (by kernel_rfl:nsIn (KK P) mainGlobals "LEVEL_SIDES" = some (some (.ref 125)))) (fun H=>.inr ⟨_,_,_,u,rfl,rfl,by show 2≤sizeLine;rw[sizeLine_eq];decide,.cons ⟨_,rfl⟩ (.cons ⟨_,rfl⟩ .nil)⟩) ⟨_,u⟩ fun H S=>aE.cons (by exact rfl) (aE.cons (by exact rfl) aE.nil)
 ·have u:(KK P).lookup 126=some ⟨(.type "tuple"),none,(.seq #[(.str "west" 345),(.str "north" 346)] 0),#[]⟩:=by kernel_rfl
  exact tU (xs:=[.str "west",.str "north"]) (mg_of X G (by kernel_rfl:nsIn (KK P) mainGlobals "NEAR_SIDES" = some (some (.ref 126)))) (fun H=>.inr ⟨_,_,_,u,rfl,rfl,by show 2≤sizeLine;rw[sizeLine_eq];decide,.cons ⟨_,rfl⟩ (.cons ⟨_,rfl⟩ .nil)⟩) ⟨_,u⟩ fun H S=>aE.cons (by exact rfl) (aE.cons (by exact rfl) aE.nil)
end
theorem aHN{w:World}{h:Heap}{mg:vf}(X:(KK w.params).In h)(G:h.Ns mainGlobals mg){T:Tx}{Pr:vc}:∀x kvs,i7.lookup x=some kvs→∃a,mg x=some (.ref a)∧∀Y:Cx,Y.prog=Pr→Y.w=w→Y.K=KK w.params→NO Y T a kvs:=by
 intro x kvs hx;have dt:(x,kvs)∈i7:=t9 hx
 simp only[i7,sg,uo,or_false,Prod.mk.injEq]at dt;obtain⟨rfl,rfl⟩:=dt;refine⟨268,mg_of X G (by kernel_rfl:nsIn (KK w.params) mainGlobals "SPINE_LINES" = some (some (.ref 268))),fun Y _ e2 e3=>?_⟩
 refine KZ (ts:=[("west",552,.ref 269),("east",554,.ref 270),("north",556,.ref 271),("south",558,.ref 272)]) (o:=⟨(.type "dict"),none,(.dict #[en Y.w.params "west" 552 (.ref 269),en Y.w.params "east" 554 (.ref 270),en Y.w.params "north" 556 (.ref 271),en Y.w.params "south" 558 (.ref 272)] 4),#[]⟩) (by decide +kernel) (by rw[e3,←e2];kernel_rfl) ⟨rfl,rfl,rfl⟩ rfl (by decide +kernel) (by decide +kernel) ?_
 rw[e3];have u269:CV (KK w.params) T (.tup [.bl false,.int 0]) (.ref 269):=by
  have u:(KK w.params).lookup 269=some ⟨(.type "tuple"),none,(.seq #[(.bool false),(.int 0 553)] 0),#[]⟩:=by kernel_rfl
  exact tS (xs:=[.bl false,.int 0]) (fun H=>.inr ⟨_,_,_,u,rfl,rfl,by show 2≤sizeLine;rw[sizeLine_eq];decide,.cons rfl (.cons ⟨_,rfl⟩ .nil)⟩) ⟨_,u⟩ fun H S=>aE.cons (by exact rfl) (aE.cons (by exact rfl) aE.nil)
 have u270:CV (KK w.params) T (.tup [.bl false,.int 1]) (.ref 270):=by
  have u:(KK w.params).lookup 270=some ⟨(.type "tuple"),none,(.seq #[(.bool false),(.int 1 555)] 0),#[]⟩:=by kernel_rfl
  exact tS (xs:=[.bl false,.int 1]) (fun H=>.inr ⟨_,_,_,u,rfl,rfl,by show 2≤sizeLine;rw[sizeLine_eq];decide,.cons rfl (.cons ⟨_,rfl⟩ .nil)⟩) ⟨_,u⟩ fun H S=>aE.cons (by exact rfl) (aE.cons (by exact rfl) aE.nil)
 have u271:CV (KK w.params) T (.tup [.bl true,.int 0]) (.ref 271):=by
  have u:(KK w.params).lookup 271=some ⟨(.type "tuple"),none,(.seq #[(.bool true),(.int 0 557)] 0),#[]⟩:=by kernel_rfl
  exact tS (xs:=[.bl true,.int 0]) (fun H=>.inr ⟨_,_,_,u,rfl,rfl,by show 2≤sizeLine;rw[sizeLine_eq];decide,.cons rfl (.cons ⟨_,rfl⟩ .nil)⟩) ⟨_,u⟩ fun H S=>aE.cons (by exact rfl) (aE.cons (by exact rfl) aE.nil)
 have u272:CV (KK w.params) T (.tup [.bl true,.int 1]) (.ref 272):=by
  have u:(KK w.params).lookup 272=some ⟨(.type "tuple"),none,(.seq #[(.bool true),(.int 1 559)] 0),#[]⟩:=by kernel_rfl
  exact tS (xs:=[.bl true,.int 1]) (fun H=>.inr ⟨_,_,_,u,rfl,rfl,by show 2≤sizeLine;rw[sizeLine_eq];decide,.cons rfl (.cons ⟨_,rfl⟩ .nil)⟩) ⟨_,u⟩ fun H S=>aE.cons (by exact rfl) (aE.cons (by exact rfl) aE.nil)
 intro i p q h1 h2
 match i with
 | 0=>cases h1;cases h2;exact u269
 | 1=>cases h1;cases h2;exact u270
 | 2=>cases h1;cases h2;exact u271
 | 3=>cases h1;cases h2;exact u272
 |i+4=>cases h1
def uR(K:va):Sp:=fun vs H Q _=>∃(a:Addr) (ns:List Int),vs=[.ref a]∧SqL K H a (ns.map V.int)∧ns.length≤63∧∀H',Q (.bl true) H'
theorem pU{K:va}{T:Tx}{H:Hp}{S:Addr→Prop}:∀ns:List Int,aE K T H S (ns.map D.int) (ns.map V.int)
 |[]=>aE.nil
 |n::ns=>aE.cons (by exact rfl) (pU ns)
theorem ZV{P:vc}{w:World}{K:va}{mg:vf}{base:Heap}{T:Tx}{k:Nat}{f:Addr}{fd:vb}{fr:Bool}(F:FnOk P w K mg base (gK P w) k f fd qV (iy K T 1 vX fr))(hk:k≤60):FnOk P w K mg base kx 60 f fd ["script"] (uR K):=by
 have key:∀vs H Q E,uR K vs H Q E→iy K T 1 vX fr vs H Q E0:=by
  rintro vs H Q E ⟨a,ns,rfl,hS,hl,q⟩;refine⟨rfl,fun _=>False,[.frz (ns.map D.int)],fun _ z=>z.elim,aE.cons (show Exists _ from⟨a,ns.map V.int,rfl,fun z=>z,hS,pU ns⟩) aE.nil,.inl ⟨.bl true,law_true ns hl,fun v H' sm r _=>?_⟩⟩
  obtain rfl:=r;exact q H'
 refine⟨fun vs H Q E hs=>F.len _ _ _ _ (key vs H Q E hs),fun A outer s H args us vs Q E hr e0 hb hv hs=>?_⟩
 refine codeAny_mono (F.run A outer s H args us vs Q E0 (hr.mono hk) e0 hb hv (key vs H Q E hs)) fun r s' hq=>?_
 cases r with
 |error e=>exact(UV _ _ _ _ _ hq).elim
 |ok fl=>cases fl<;>exact hq
noncomputable def cs(y:Str):Addr:=if y = "LeafError" then 24 else if y = "NoSheet" then 37 else if y = "NoFold" then 49 else if y = "NoPlace" then 61 else if y = "Ajar" then 73 else if y = "Severed" then 85 else if y = "Bolted" then 97 else if y = "Loose" then 109 else if y = "NoWord" then 121 else 0
section
variable {P:Params}
theorem tV:cs "LeafError" = 24:=by kernel_rfl
theorem zB:cs "NoSheet" = 37:=by kernel_rfl
theorem FU:cs "NoFold" = 49:=by kernel_rfl
theorem oJ:cs "NoPlace" = 61:=by kernel_rfl
theorem CP:cs "Ajar" = 73:=by kernel_rfl
theorem zA:cs "Severed" = 85:=by kernel_rfl
theorem FV:cs "Bolted" = 97:=by kernel_rfl
theorem LG:cs "Loose" = 109:=by kernel_rfl
theorem FT:cs "NoWord" = 121:=by kernel_rfl
theorem j3:∀k,cj.contains k=true→k = "LeafError"∨k = "Ajar"∨k = "NoPlace":=by
 intro k hk;have ij:k∈cj:=by simpa using hk
 simpa only [cj,sg,uo,or_false] using ij
theorem oi:∀k,cj.contains k=true→excIn (KK P) (cs k) fj "ValueError.__new__" = true:=by
 intro k hk
 rcases j3 k hk with rfl|rfl|rfl
 ·exact(by kernel_rfl:excIn (KK P) (cs "LeafError") fj "ValueError.__new__" = true)
 ·exact(by kernel_rfl:excIn (KK P) (cs "Ajar") fj "ValueError.__new__" = true)
 ·exact(by kernel_rfl:excIn (KK P) (cs "NoPlace") fj "ValueError.__new__" = true)
theorem mP:∀k k',cj.contains k=true→cj.contains k'=true→WN k k'=true→eI (KK P) (cs k) (.ref (cs k'))=true:=by
 intro k k' hk ij hs
 rcases j3 k hk with rfl|rfl|rfl
 ·rcases j3 k' ij with rfl|rfl|rfl
  ·exact(by kernel_rfl:eI (KK P) (cs "LeafError") (.ref (cs "LeafError"))=true)
  ·exact nomatch (show false=true from hs)
  ·exact nomatch (show false=true from hs)
 ·rcases j3 k' ij with rfl|rfl|rfl
  ·exact(by kernel_rfl:eI (KK P) (cs "Ajar") (.ref (cs "LeafError"))=true)
  ·exact(by kernel_rfl:eI (KK P) (cs "Ajar") (.ref (cs "Ajar"))=true)
  ·exact nomatch (show false=true from hs)
 ·rcases j3 k' ij with rfl|rfl|rfl
  ·exact(by kernel_rfl:eI (KK P) (cs "NoPlace") (.ref (cs "LeafError"))=true)
  ·exact nomatch (show false=true from hs)
  ·exact(by kernel_rfl:eI (KK P) (cs "NoPlace") (.ref (cs "NoPlace"))=true)
theorem aAj:∀k,cj.contains k=true→∀j,bI.idxOf? k=some j→(k = "Ajar"∧j=3)∨(k = "NoPlace"∧j=2):=by
 intro k hk j hj
 rcases j3 k hk with rfl|rfl|rfl
 ·rw[show bI.idxOf? ("LeafError":Str)=none from by decide +kernel]at hj;cases hj
 ·exact .inl ⟨rfl,qw (hj.symm.trans (by decide +kernel))⟩
 ·exact .inr (⟨rfl,qw (hj.symm.trans (by decide +kernel))⟩)
theorem hX:∀k,cj.contains k=true→∀(j:Nat),bI.idxOf? k=some j→XcK (KK P) (cs k):=by
 intro k hk j hj
 rcases aAj k hk j hj with ⟨rfl,rfl⟩|⟨rfl,rfl⟩
 ·rw[CP];exact⟨by kernel_rfl,by kernel_rfl,by kernel_rfl,by kernel_rfl,by kernel_rfl,by kernel_rfl,by kernel_rfl⟩
 ·rw[oJ];exact⟨by kernel_rfl,by kernel_rfl,by kernel_rfl,by kernel_rfl,by kernel_rfl,by kernel_rfl,by kernel_rfl⟩
theorem hv:∀k,cj.contains k=true→∀(j:Nat),bI.idxOf? k=some j→kitOne (KK P) (.ref (cs k)) (.type "ValueError")=some true:=by
 intro k hk j hj
 rcases aAj k hk j hj with ⟨rfl,rfl⟩|⟨rfl,rfl⟩
 ·exact(by kernel_rfl:kitOne (KK P) (.ref (cs "Ajar")) (.type "ValueError")=some true)
 ·exact(by kernel_rfl:kitOne (KK P) (.ref (cs "NoPlace")) (.type "ValueError")=some true)
theorem hkt:∀k,cj.contains k=true→∀(j:Nat),bI.idxOf? k=some j→∀(i:Nat) (y:Str),bI[i]?=some y→kitOne (KK P) (.ref (cs k)) (.ref (cs y))=some (decide (i=j)):=by
 intro k hk j hj i y hy;have hi:i<8:=(q8.mp hy).1
 have hi8:i=0∨i=1∨i=2∨i=3∨i=4∨i=5∨i=6∨i=7:=by lia
 rcases aAj k hk j hj with ⟨rfl,rfl⟩|⟨rfl,rfl⟩
 ·rcases hi8 with rfl|rfl|rfl|rfl|rfl|rfl|rfl|rfl
  ·cases hy;exact(by kernel_rfl:kitOne (KK P) (.ref (cs "Ajar")) (.ref (cs "NoSheet"))=some (decide (0=3)))
  ·cases hy;exact(by kernel_rfl:kitOne (KK P) (.ref (cs "Ajar")) (.ref (cs "NoFold"))=some (decide (1=3)))
  ·cases hy;exact(by kernel_rfl:kitOne (KK P) (.ref (cs "Ajar")) (.ref (cs "NoPlace"))=some (decide (2=3)))
  ·cases hy;exact(by kernel_rfl:kitOne (KK P) (.ref (cs "Ajar")) (.ref (cs "Ajar"))=some (decide (3=3)))
  ·cases hy;exact(by kernel_rfl:kitOne (KK P) (.ref (cs "Ajar")) (.ref (cs "Severed"))=some (decide (4=3)))
  ·cases hy;exact(by kernel_rfl:kitOne (KK P) (.ref (cs "Ajar")) (.ref (cs "Bolted"))=some (decide (5=3)))
  ·cases hy;exact(by kernel_rfl:kitOne (KK P) (.ref (cs "Ajar")) (.ref (cs "Loose"))=some (decide (6=3)))
  ·cases hy;exact(by kernel_rfl:kitOne (KK P) (.ref (cs "Ajar")) (.ref (cs "NoWord"))=some (decide (7=3)))
 ·rcases hi8 with rfl|rfl|rfl|rfl|rfl|rfl|rfl|rfl
  ·cases hy;exact(by kernel_rfl:kitOne (KK P) (.ref (cs "NoPlace")) (.ref (cs "NoSheet"))=some (decide (0=2)))
  ·cases hy;exact(by kernel_rfl:kitOne (KK P) (.ref (cs "NoPlace")) (.ref (cs "NoFold"))=some (decide (1=2)))
  ·cases hy;exact(by kernel_rfl:kitOne (KK P) (.ref (cs "NoPlace")) (.ref (cs "NoPlace"))=some (decide (2=2)))
  ·cases hy;exact(by kernel_rfl:kitOne (KK P) (.ref (cs "NoPlace")) (.ref (cs "Ajar"))=some (decide (3=2)))
  ·cases hy;exact(by kernel_rfl:kitOne (KK P) (.ref (cs "NoPlace")) (.ref (cs "Severed"))=some (decide (4=2)))
  ·cases hy;exact(by kernel_rfl:kitOne (KK P) (.ref (cs "NoPlace")) (.ref (cs "Bolted"))=some (decide (5=2)))
  ·cases hy;exact(by kernel_rfl:kitOne (KK P) (.ref (cs "NoPlace")) (.ref (cs "Loose"))=some (decide (6=2)))
  ·cases hy;exact(by kernel_rfl:kitOne (KK P) (.ref (cs "NoPlace")) (.ref (cs "NoWord"))=some (decide (7=2)))
variable {h:Heap}{mg:vf}(X:(KK P).In h)(G:h.Ns mainGlobals mg)
include X G
theorem mx:∀y,(["LeafError","NoSheet","NoFold","NoPlace","Ajar","Severed","Bolted","Loose","NoWord"]:List Str).contains y=true→mg y=some (.ref (cs y)):=by
 intro y hy;have cb:y∈(["LeafError","NoSheet","NoFold","NoPlace","Ajar","Severed","Bolted","Loose","NoWord"]:List Str):=by simpa using hy
 simp only[sg,uo,or_false]at cb
 rcases cb with rfl|rfl|rfl|rfl|rfl|rfl|rfl|rfl|rfl
 ·rw[tV];exact mg_of X G (by kernel_rfl)
 ·rw[zB];exact mg_of X G (by kernel_rfl)
 ·rw[FU];exact mg_of X G (by kernel_rfl)
 ·rw[oJ];exact mg_of X G (by kernel_rfl)
 ·rw[CP];exact mg_of X G (by kernel_rfl)
 ·rw[zA];exact mg_of X G (by kernel_rfl)
 ·rw[FV];exact mg_of X G (by kernel_rfl)
 ·rw[LG];exact mg_of X G (by kernel_rfl)
 ·rw[FT];exact mg_of X G (by kernel_rfl)
theorem hxg:∀k,cj.contains k=true→mg k=some (.ref (cs k)):=fun k hk=>mx X G k (by
 rcases j3 k hk with rfl|rfl|rfl<;>decide +kernel)
theorem hmx:∀y∈bI,mg y=some (.ref (cs y)):=fun y hy=>mx X G y (by
 have:bI.all (fun y=>(["LeafError","NoSheet","NoFold","NoPlace","Ajar","Severed","Bolted","Loose","NoWord"]:List Str).contains y)=true:=by decide +kernel
 exact all_eq_true.mp this y hy)
end
set_option maxHeartbeats 0 in
theorem all_mk{l:PySem.W.OpenLaw}{w:World}{h:Heap}{mg:vf}{fa:Addr}(X:(KK w.params).In h)(G:h.Ns mainGlobals mg)(hfa:mg "law" = some (.ref fa)) :
  ∃fd:vb,(∀(s:Shared) (v:Value),BindsTo s fd ⟨[v],[]⟩ [("script",v)])∧∀base:Heap,(KK w.params).In base→base.Ns mainGlobals mg→FnOk l.prog w (KK w.params) mg base kx 60 fa fd ["script"] (uR (KK w.params)):=by
 have e:=hfa.symm.trans (VZ X G).at_
 cases e;refine⟨nX,fun s v=>.of_eq rfl,fun base _ _=>?_⟩
 have m:=mk1 (mk0 (P:=l.prog) (w:=w) (base:=base) (cs:=cs) (aER X G) (LM _) (JB _) (aAk X G) (hxg X G) oi mP (aGD (aIk X G) (aAk X G _ (by decide +kernel)) (aAk X G _ (by decide +kernel)) (hmx X G) hX hkt hv) (aHN X G)) (mg_of X G (by kernel_rfl)) (aAi _) (aFv _) (VI _) (LM _) (JB _)
 replace m:MO _ _ _ _ _ _ _ m2 g2 4:=mkM aFb aCh aDK aCP m (aGd _);replace m:MO _ _ _ _ _ _ _ m3 g3 5:=bu aCm aDP aCU m (aGi X G);replace m:MO _ _ _ _ _ _ _ m4 g4 6:=bu aCg aDJ aCO m (aGc X G);replace m:MO _ _ _ _ _ _ _ m5 g5 7:=bu aCl aDO aCT m (aGh X G);replace m:MO _ _ _ _ _ _ _ m6 g6 8:=bu aGY aHB aHk m (aIm X G);replace m:MO _ _ _ _ _ _ _ m7 g7 9:=bu aCx aEa aDf m (aGt X G);replace m:MO _ _ _ _ _ _ _ m8 g8 10:=bu aCy aEb aDg m (aGu X G);replace m:MO _ _ _ _ _ _ _ m9 g9 11:=bu aGT aHw aHf m (aIg X G);replace m:MO _ _ _ _ _ _ _ m10 pz 12:=bu aCn aDQ aCV m (aGj X G);replace m:MO _ _ _ _ _ _ _ m11 mq 13:=bu aCt aDW aDb m (aGp X G);replace m:MO _ _ _ _ _ _ _ m12 g12 14:=bu aGU aHx aHg m (aIh X G);replace m:MO _ _ _ _ _ _ _ m13 g13 15:=bu aCq aDT aCY m (aGm X G);replace m:MO _ _ _ _ _ _ _ m14 kl 16:=bu aHb aHE aHn m (aIp X G);replace m:MO _ _ _ _ _ _ _ m15 mj 17:=bu aCj aDM aCR m (aGf X G);replace m:MO _ _ _ _ _ _ _ m16 g16 18:=bu aCs aDV aDa m (aGo X G);replace m:MO _ _ _ _ _ _ _ m17 mh 19:=bu aCr aDU aCZ m (aGn X G);replace m:MO _ _ _ _ _ _ _ m18 pq 20:=bu aCv aDY aDd m (aGr X G);replace m:MO _ _ _ _ _ _ _ m19 pk 21:=bu aCk aDN aCS m (aGg X G);replace m:MO _ _ _ _ _ _ _ m20 g20 22:=bu aCe aDH aCM m (aGb X G);replace m:MO _ _ _ _ _ _ _ m21 pj 23:=bu aHa aHD aHm m (aIo X G);replace m:MO _ _ _ _ _ _ _ m22 ma 24:=bu aGZ aHC aHl m (aIn X G);replace m:MO _ _ _ _ _ _ _ m23 g23 25:=bu aCi aDL aCQ m (aGe X G);replace m:MO _ _ _ _ _ _ _ m24 g24 26:=bu aCB aEe aDj m (aGx X G);replace m:MO _ _ _ _ _ _ _ m25 g25 27:=bu aCu aDX aDc m (aGq X G);replace m:MO _ _ _ _ _ _ _ m26 ph 28:=bu aGX aHA aHj m (aIl X G);replace m:MO _ _ _ _ _ _ _ m27 jb 29:=bu aGW aHz aHi m (aIj X G);replace m:MO _ _ _ _ _ _ _ m28 l9 30:=bu aCo aDR aCW m (aGk X G);replace m:MO _ _ _ _ _ _ _ m29 g29 31:=bu aCz aEc aDh m (aGv X G);replace m:MO _ _ _ _ _ _ _ m30 oN 32:=bu aCw aDZ aDe m (aGs X G);replace m:MO _ _ _ _ _ _ _ m31 o9 33:=bu aCA aEd aDi m (aGw X G);replace m:MO _ _ _ _ _ _ _ m32 o8 34:=bu aCp aDS aCX m (aGl X G);replace m:MO _ _ _ _ _ _ _ oa d9 35:=bu aGV aHy aHh m (aIi X G);exact ZV (ZT m (VZ X G)) (by decide)
theorem walk{l:PySem.W.OpenLaw}{q:vc}{loose:List Str}{XP:(vf)→Heap→Prop}{YP:World→Heap→Prop}{d:DefRec}{K:Params→va}(hn:l.most=some 63)(o4:d.params.defaults=[])
  (hY:∀(w:World) (h:Heap),YP w h→(K w.params).In h)
  (F:∀(w:World) (mg:vf) (fa:Addr) (h:Heap),(K w.params).In h→h.Ns mainGlobals mg→mg d.name=some (.ref fa) →
   ∃fd:vb,(∀(s:Shared) (u:Value),BindsTo s fd ⟨[u],[]⟩ [("script",u)])∧∀base:Heap,(K w.params).In base→base.Ns mainGlobals mg→FnOk l.prog w (K w.params) mg base kx 60 fa fd ["script"] (uR (K w.params))) :
  PySem.W.WalkO q loose XP YP l.row.toRowW d [] (fun f vs=>PySem.call f vs):=
 L2.NR (n:=63) (k:=60) (x:="script") (CX:=fun _=>kx) (sp:=fun w=>uR (K w.params)) hn (by decide) o4 ⟨rfl,by decide,by decide⟩ hY F (fun _ _ a ns hl _ hS=>⟨a,ns,rfl,hS,hl,fun _=>rfl⟩) fun _ _ _ _ _ z=>z
end Toy
open PySem PySem.W PyProof.Rows
set_option maxRecDepth 100000 in
set_option maxHeartbeats 0 in
theorem PySem.Challenge.cw_leaffold_k10_pages_holds : PySem.Challenge.rw_leaffold_k10_pages.Holds := by
 w_on;o_law
 refine holds_open (q:=Toy.vw) (loose:=(["SPINE_LINES"]:List Str)) (Xt:=Toy.Xt) (XP:=XL Toy.vw []) (Yf:=Hook.obs Toy.HH) (Ya:=Hook.val Toy.HH) (YP:=Hook.says Toy.HH) (N:=6842) Toy.left (Hook.of Toy.HH) (Hook.keeps Toy.HH) (fun s e=>xl_of s (Bool.and_eq_true_iff.mp e).1) XL.keeps (by rfl) (by rfl) (by rfl) (fun s e=>recFacts_of (Bool.and_eq_true_iff.mp e).2) (by rfl) (by first|assumption|decide +kernel) (by decide +kernel) ⟨rfl,rfl,rfl,rfl,rfl,by decide +kernel⟩ ?hw ?hc
 case hw=>w_witness2
 case hc=>exact Toy.walk (l:=Toy.lw) (K:=Toy.KK) rfl rfl (fun w h Y=>PySem.W.kIn_of Y) fun w mg fa h KX G ig=>Toy.all_mk KX G ig
