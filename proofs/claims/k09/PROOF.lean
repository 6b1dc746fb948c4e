import PyProof.Rows.All
import Wide.All
import OpenK.AllK
import Wide.FinOn
import Lean
import PyProof.EqAt
import PyProof.EqKinds
import PyProof.TupleCall
import PySem.Syntax
import PySem.Eval
import PyProof.P3In
import KE.KIsAll
import PyProof.CollectIter
import PyProof.ListRange
import PyProof.EnumMake
import PyProof.WalksEnum
import PyProof.LayNew
import KE.KSortTup
import PySem.Challenge.RW_leaffold_k09_plan
noncomputable section
set_option linter.all false
set_option maxRecDepth 100000
set_option maxHeartbeats 4000000
set_option Elab.async false
set_option genSizeOf false
set_option bootstrap.genMatcherCode false
set_option compiler.extract_closed false
open Array (append_empty getD_eq_getD_getElem? length_toList)
open Bool (or_eq_true)
open List (all_cons all_eq_true any_cons drop_zero find?_cons getElem?_drop getElem?_replicate getElem_of_mem lookup_cons map_nil map_take mem_filterMap mem_flatMap mem_of_mem_drop mem_of_mem_take mem_reverse nil_append nodup_append nodup_cons of_mem_zip pairwise_map pairwise_singleton perm_append_comm range' reverse_cons take_append_drop take_zero)
open Nat (add_comm le_succ_of_le min_eq_left min_le_right not_lt)
open Option (getD_some)
open PySem.F (args_tuple_add_2 entry_tuple_add plainAttrs_list slot_tuple_add)
open PySem.Heap (size_push)
open PySem.W (callWith_K callWith_K0 cellsFrom_some codeIn emptyDict excIn findIn handedIn hasDictIn hideAll instObj isFn keepIn kia_one kitOne kitx_dict kitx_list lookIn makesIn methodObj mg_none_of mg_of mroIn nsIn plainGet plainGet_of plainOver specialIn tail_of_in takerIn takesIn)
abbrev q8:=@List.getElem?_eq_some_iff
abbrev q9:=@List.getD_eq_getElem?_getD
abbrev qp:=@Option.some.injEq
abbrev qq:=@List.mem_of_getElem?
abbrev qr:=@Option.bind_eq_some_iff
abbrev qt:=@List.getElem?_eq_getElem
abbrev qu:=@List.getElem?_map
abbrev qv:=@List.length_map
abbrev qw:=@Nat.le_refl
abbrev qx:=@Option.bind_eq_bind
abbrev qy:=@decide_eq_false
abbrev qz:=@PySem.Heap.get?_push_of_some
abbrev r8:=@Bool.false_eq_true
abbrev rg:=@List.mem_cons_of_mem
abbrev rh:=@List.size_toArray
abbrev rj:=@Bool.and_eq_true
abbrev rn:=@Option.some.inj
abbrev rq:=@Option.map_eq_some_iff
abbrev se:=@List.append_assoc
abbrev sf:=@Nat.lt_of_lt_of_le
abbrev sg:=@Bool.false_ne_true
abbrev sh:=@decide_eq_true_eq
abbrev sj:=@List.length_range
abbrev sk:=@List.getElem?_set_self
abbrev so:=@List.getElem?_set_ne
abbrev sq:=@PySem.Heap.lt_size
abbrev sr:=@Nat.le_trans
abbrev su:=@List.mem_singleton
abbrev sv:=@List.mem_cons
abbrev t7:=@PyProof.Rows.callWith_type1
abbrev t8:=@Nat.zero_add
abbrev t9:=@List.length_append
abbrev tf:=@Bool.not_true
abbrev tj:=@List.append_nil
abbrev tm:=@List.length_eq_zero_iff
abbrev tu:=@List.map_cons
abbrev tw:=@decide_eq_true
abbrev u0:=@beq_iff_eq
abbrev u7:=@List.mem_map
abbrev ua:=@PySem.mem_of_lookup
abbrev ub:=@beq_eq_false_iff_ne
abbrev uc:=@Nat.ne_of_lt
abbrev ud:=@List.length_take
abbrev ue:=@List.mem_append_right
abbrev uf:=@List.mem_append_left
abbrev ug:=@Nat.lt_irrefl
abbrev uh:=@PySem.wpAny_bind
abbrev ui:=@PySem.wpAny_pure
abbrev uj:=@PySem.wpAny_mono
abbrev uk:=@PySem.Heap.get?_push_size
abbrev um:=@Option.map_some
abbrev uo:=@Option.bind_some
abbrev uq:=@Nat.le_succ
abbrev ur:=@List.mem_cons_self
abbrev uu:=@Nat.lt_succ_self
abbrev uv:=@List.getElem?_range
abbrev uw:=@List.length_cons
abbrev ux:=@List.map_append
abbrev uy:=@List.take_add_one
abbrev uz:=@List.not_mem_nil
abbrev v3:=@List.map_map
abbrev v5:=@List.getElem?_append_left
abbrev v7:=@List.getElem?_append_right
abbrev v8:=@List.mem_range
abbrev v9:=@Nat.zero_le
abbrev va:=@List.length_reverse
abbrev vb:=@List.take_length
abbrev vc:=@List.drop_length
abbrev vd:=@List.length_drop
abbrev ve:=@List.getElem_mem
abbrev vf:=@List.pairwise_cons
abbrev vg:=@List.pairwise_append
abbrev vh:=@List.mem_append
abbrev vi:=PySem.W.Frag
abbrev vj:=PySem.FuncData
abbrev vk:=PySem.Program
abbrev vm:=PySem.Value→PySem.Shared→Prop
abbrev vn:=List (PySem.Addr×PySem.Obj)
abbrev vo:=PySem.Str→Option PySem.Value
namespace L2
open PySem PySem.Spec PyProof.Rows
abbrev Key:=Sum Int Str
noncomputable def qG:Key→Value→Bool
 |.inl k,v=>Value.isInt k v
 |.inr x,v=>Value.isStrOf x v
noncomputable def aIf(w:World):Key→Int
 |.inl k=>hashInt k
 |.inr x=>hashStr w x
theorem bW:∀{k:Key} {v:Value},qG k v=true→(∃i t,k=Sum.inl i∧v=Value.int i t)∨(∃x t,k=Sum.inr x∧v=Value.str x t)
 |.inl i,v,h=>by
  obtain⟨t,e⟩:=Value.isInt_shape (k:=i) (v:=v) h;exact .inl ⟨i,t,rfl,e⟩
 |.inr x,v,h=>by
  obtain⟨t,e⟩:=Value.isStrOf_shape (x:=x) (v:=v) h;exact .inr ⟨x,t,rfl,e⟩
theorem FJ(i:Int)(t:Tok):qG (.inl i) (.int i t)=true:=by simp[qG,Value.isInt]
theorem FI(x:Str)(t:Tok):qG (.inr x) (.str x t)=true:=by simp[qG,Value.isStrOf]
theorem aAw(a b:Int):decide ((Sum.inl a:Key)=Sum.inl b)=(a == b):=by
 by_cases e:a=b
 ·subst e;simp
 ·have h:¬(Sum.inl a:Key)=Sum.inl b:=fun q=>e (Sum.inl.inj q)
  rw[qy h];exact(ub.mpr e).symm
theorem aAt(a b:Str):decide ((Sum.inr a:Key)=Sum.inr b)=decide (a=b):=by
 by_cases e:a=b
 ·subst e;simp
 ·have h:¬(Sum.inr a:Key)=Sum.inr b:=fun q=>e (Sum.inr.inj q)
  rw[qy h,qy e]
theorem aAv(a:Int)(b:Str):decide ((Sum.inl a:Key)=Sum.inr b)=false:=qy (fun q=>nomatch q)
theorem aAu(a:Str)(b:Int):decide ((Sum.inr a:Key)=Sum.inl b)=false:=qy (fun q=>nomatch q)
noncomputable def bP(prog:vk)(w:World):PySem.KeyKind prog w Key where
 is:=qG
 hash:=aIf w
 inj:=fun v a b ha hb=>by
  rcases bW ha with ⟨i,t,rfl,rfl⟩|⟨x,t,rfl,rfl⟩
  ·rcases bW hb with ⟨j,u,rfl,e⟩|⟨y,u,rfl,e⟩
   ·injection e with e1 _;rw[e1]
   ·exact nomatch e
  ·rcases bW hb with ⟨j,u,rfl,e⟩|⟨y,u,rfl,e⟩
   ·exact nomatch e
   ·injection e with e1 _;rw[e1]
 byValue:=fun k v h=>by
  rcases bW h with ⟨i,t,rfl,rfl⟩|⟨x,t,rfl,rfl⟩<;>rfl
 pyHash:=fun hv h=>by
  rcases bW hv with ⟨i,t,rfl,rfl⟩|⟨x,t,rfl,rfl⟩
  ·exact wpAny_pyHash_int h
  ·exact wpAny_pyHash_str h
 eqBool:=fun hu hv h=>by
  rcases bW hu with ⟨i,t,rfl,rfl⟩|⟨x,t,rfl,rfl⟩
  ·rcases bW hv with ⟨j,u,rfl,rfl⟩|⟨y,u,rfl,rfl⟩
   ·rw[aAw]at h;exact wpAny_eqBool_int h
   ·rw[aAv]at h;exact SeqAt.EqAt.int_str i t y u _ _ _ _ h
  ·rcases bW hv with ⟨j,u,rfl,rfl⟩|⟨y,u,rfl,rfl⟩
   ·rw[aAu]at h;exact SeqAt.EqAt.str_int x t j u _ _ _ _ h
   ·rw[aAt]at h;exact wpAny_eqBool_str h
 «strs»:=fun k x t v h=>by
  rcases bW h with ⟨i,u,rfl,e⟩|⟨y,u,rfl,e⟩
  ·exact nomatch e
  ·injection e with e1 _
   subst e1;cases v<;>rfl
theorem vS(prog:vk)(w:World)(i:Int)(t:Tok):(bP prog w).is (.inl i) (.int i t)=true:=FJ i t
theorem eU(prog:vk)(w:World)(x:Str)(t:Tok):(bP prog w).is (.inr x) (.str x t)=true:=FI x t
inductive V where
 |non|bl (b:Bool)|int (i:Int)|str (x:Str)|byt (b:Array UInt8)|flt (b:UInt64)|ref (a:Addr)|ty (n:String)
 deriving DecidableEq
noncomputable def RelV:V→Value→Prop
 |.non,u=>u=Value.none
 |.bl b,u=>u=Value.bool b
 |.int i,u=>∃t,u=Value.int i t
 |.str x,u=>∃t,u=Value.str x t
 |.byt b,u=>∃t,u=Value.bytes b t
 |.flt b,u=>∃t,u=Value.float b t
 |.ref a,u=>u=Value.ref a
 |.ty n,u=>u=Value.type n
abbrev aQ:List V→List Value→Prop:=Paired RelV
theorem aQ.length{xs:List V}{us:List Value}(r:aQ xs us):xs.length=us.length:=Paired.length r
theorem aQ.get:∀{xs:List V} {us:List Value} {i:Nat} {x:V},aQ xs us→xs[i]?=some x→∃u,us[i]?=some u∧RelV x u
 |_,_,_,_,.nil,e=>by simp at e
 |_,_,0,_,.cons r _,e=>by simp at e;subst e;exact⟨_,rfl,r⟩
 |_,_,i+1,x,.cons _ t,e=>by
  obtain⟨u,h1,h2⟩:=aQ.get (i:=i) (x:=x) t (by simpa using e)
  exact⟨u,by simpa using h1,h2⟩
theorem aQ.set{x:V}{u:Value}(r:RelV x u):∀{xs:List V} {us:List Value} (i:Nat),aQ xs us→aQ (xs.set i x) (us.set i u)
 |_,_,_,.nil=>.nil
 |_,_,0,.cons _ t=>.cons r t
 |_,_,i+1,.cons q t=>.cons q (aQ.set r i t)
theorem aQ.append:∀{xs ys:List V} {us ws:List Value},aQ xs us→aQ ys ws→aQ (xs++ys) (us++ws)
 |_,_,_,_,.nil,s=>s
 |_,_,_,_,.cons r t,s=>.cons r (aQ.append t s)
theorem aQ.take:∀{xs:List V} {us:List Value} (n:Nat),aQ xs us→aQ (xs.take n) (us.take n)
 |_,_,0,_=>.nil
 |_,_,_+1,.nil=>.nil
 |_,_,n+1,.cons r t=>.cons r (aQ.take n t)
theorem aQ.drop:∀{xs:List V} {us:List Value} (n:Nat),aQ xs us→aQ (xs.drop n) (us.drop n)
 |_,_,0,r=>r
 |_,_,_+1,.nil=>.nil
 |_,_,n+1,.cons _ t=>aQ.drop n t
noncomputable def jR:Option V→Option Value→Prop
 |some v,some u=>RelV v u
 |none,none=>True
 |_,_=>False
noncomputable def KV{κ:Type}:List (κ×V)→List (κ×Value)→Prop:=Paired fun (p:κ×V) (q:κ×Value)=>p.1=q.1∧RelV p.2 q.2
noncomputable def kV:Key→V
 |.inl i=>.int i
 |.inr x=>.str x
inductive HO where
 |lst (xs:List V)
 |tup (xs:List V)
 |dK (kvs:List (Key×V))|dT (kvs:List (List Key×V))
 |set (S:Int→Bool) (n:Nat)
 |ins (C dx:Addr) (fs:List (Str×V))
 |own (x:Addr)
 |xd (fs:List (Str×V))
 |met (f x:Addr)
 |rng (lo hi:Int)
 |frz (o:Obj) (u:HO)
 |tbl (ps:Array Value)
 |ext (φ:Heap→Prop)
abbrev Hp:=Addr→Option HO
noncomputable def upd(H:Hp)(a:Addr)(o:HO):Hp:=fun b=>if b=a then some o else H b
theorem aM{H:Hp}{a:Addr}{o:HO}:upd H a o a=some o:=by unfold upd;rw[if_pos rfl]
theorem aN{H:Hp}{a b:Addr}{o:HO}(h:b≠a):upd H a o b=H b:=by unfold upd;rw[if_neg h]
theorem aEB{H:Hp}{a b:Addr}{o u:HO}(h:H a=some o)(h':H b=some u)(d:o≠u):a≠b:=by
 intro e;subst e;rw[h]at h';exact d (rn h')
theorem bE{H:Hp}{a b:Addr}{o:HO}(h:H a=some o)(h':H b=none):a≠b:=by
 intro e;subst e;rw[h]at h';cases h'
section
variable (P:vk)(w:World)
noncomputable def bZ(H:Hp)(h:Heap)(a:Addr):HO→Prop
 |.lst xs=>xs.length≤sizeLine∧∃(its:List Value) (n:Nat),aQ xs its∧h.get? a=some { cls:=.type "list",data:=.seq its.toArray n }
 |.tup xs=>xs.length≤sizeLine∧∃its:List Value,aQ xs its∧IsTup h a its.toArray
 |.dK kvs=>kvs.length≤sizeLine∧(a == sysModules)=false∧∃vs,KV kvs vs∧h.DictOf (bP P w) a vs
 |.dT kvs=>kvs.length≤sizeLine∧(a == sysModules)=false∧∃xs:List (List Key×Addr×Value),
   Paired (fun (p:List Key×V) (q:List Key×Addr×Value)=>p.1=q.1∧H q.2.1=some (.tup (p.1.map kV))∧RelV p.2 q.2.2) kvs xs ∧
   ∃o es ep,h.get? a=some o∧o.ExactDict∧o.data=.dict es ep∧es.toList=xs.map (entryOfKey (tupleKind (bP P w)))∧(xs.map (·.1)).Nodup
 |.set S n=>h.SetOf (intKind P w) a S n
 |.ins C dx fs=>H dx=some (.own a)∧fs.length≤1000∧dx≠a∧h.get? a=some (instObj C dx) ∧
   ∃mA,h.Ns1 dx mA∧(∀f,jR (fs.lookup f) (mA f))∧PySem.Within mA (fs.map (·.1))
 |.own _=>∃o,h.get? a=some o
 |.xd fs=>∃mA,h.Ns1 a mA∧∀f,jR (fs.lookup f) (mA f)
 |.rng lo hi=>∃t u v,h.get? a=some { cls:=.type "range",data:=.fields #[.int lo t,.int hi u,.int 1 v] }
 |.frz o u=>h.get? a=some o∧bZ H h a u
 |.tbl ps=>h.get? a=some { cls:=.none,data:=.fields ps }
 |.met f x=>h.get? a=some (methodObj (.ref f) (.ref x))
 |.ext φ=>φ h∧(∃o,h.get? a=some o)∧∀h1 h2:Heap,φ h1→(∀o,h1.get? a=some o→h2.get? a=some o)→φ h2
def HOk(H:Hp)(h:Heap):Prop:=∀a o,H a=some o→bZ P w H h a o
end
section
variable {P:vk}{w:World}{H H':Hp}{h h':Heap}{a:Addr}{o:HO}
theorem bZ.lt(x:bZ P w H h a o):a<h.objs.size:=by
 cases o with
 |lst xs=>obtain⟨_,_,_,_,e⟩:=x;exact sq e
 |tup xs=>obtain⟨_,_,_,p⟩:=x;exact p.lt
 |dK kvs=>obtain⟨_,_,_,_,o,_,_,e,_⟩:=x;exact sq e
 |dT kvs=>obtain⟨_,_,_,_,o,_,_,e,_⟩:=x;exact sq e
 |set S n=>obtain⟨o,_,_,_,e,_⟩:=x;exact sq e
 |ins C dx fs=>obtain⟨_,_,_,e,_⟩:=x;exact sq e
 |own y=>obtain⟨_,e⟩:=x;exact sq e
 |xd fs=>obtain⟨_,⟨_,_,_,e,_⟩,_⟩:=x;exact sq e
 |rng lo hi=>obtain⟨_,_,_,e⟩:=x;exact sq e
 |frz ob u=>obtain⟨e,_⟩:=x;exact sq e
 |tbl ps=>exact sq (show h.get? a=some _ from x)
 |met f y=>exact sq (show h.get? a=some _ from x)
 |ext φ=>obtain⟨_,⟨_,e⟩,_⟩:=x;exact sq e
theorem Paired.mapP{α β:Type}{F G:α→β→Prop}:∀{l₁:List α} {l₂:List β},Paired F l₁ l₂→(∀a b,F a b→G a b)→Paired G l₁ l₂
 |_,_,.nil,_=>.nil
 |_,_,.cons r t,f=>.cons (f _ _ r) (Paired.mapP t f)
theorem bZ.stay(x:bZ P w H h a o)(k:∀b u,(b=a∨H b=some (.own a))→h.get? b=some u→h'.get? b=some u)
  (ho:∀b,H b=some (.own a)→H' b=some (.own a)) (ht:∀b xs,H b=some (.tup xs)→H' b=some (.tup xs)):bZ P w H' h' a o:=by
 induction o with
 |lst xs=>obtain⟨z,its,n,r,e⟩:=x;exact⟨z,its,n,r,k _ _ (.inl rfl) e⟩
 |tup xs=>obtain⟨z,its,r,ob,e,c⟩:=x;exact⟨z,its,r,ob,k _ _ (.inl rfl) e,c⟩
 |dK kvs=>obtain⟨z,y,vs,r,ob,es,ep,e,c⟩:=x;exact⟨z,y,vs,r,ob,es,ep,k _ _ (.inl rfl) e,c⟩
 |dT kvs =>
  obtain⟨z,y,xs,r,ob,es,ep,e,c⟩:=x;exact⟨z,y,xs,Paired.mapP r fun p q z=>⟨z.1,ht _ _ z.2.1,z.2.2⟩,ob,es,ep,k _ _ (.inl rfl) e,c⟩
 |set S n=>obtain⟨ob,es,ep,t,e,c⟩:=x;exact⟨ob,es,ep,t,k _ _ (.inl rfl) e,c⟩
 |ins C dx fs =>
  obtain⟨d,z,ne,e,mA,⟨od,es,ep,e2,c⟩,r⟩:=x;exact⟨ho _ d,z,ne,k _ _ (.inl rfl) e,mA,⟨od,es,ep,k _ _ (.inr d) e2,c⟩,r⟩
 |own y=>obtain⟨ob,e⟩:=x;exact⟨ob,k _ _ (.inl rfl) e⟩
 |xd fs=>obtain⟨mA,⟨od,es,ep,e,c⟩,r⟩:=x;exact⟨mA,⟨od,es,ep,k _ _ (.inl rfl) e,c⟩,r⟩
 |rng lo hi=>obtain⟨t,u,v,e⟩:=x;exact⟨t,u,v,k _ _ (.inl rfl) e⟩
 |frz ob u ih=>obtain⟨e,q⟩:=x;exact⟨k _ _ (.inl rfl) e,ih q⟩
 |tbl ps =>
  have e:h.get? a=some { cls:=.none,data:=.fields ps }:=x
  show h'.get? a=some { cls:=.none,data:=.fields ps }
  exact k a _ (.inl rfl) e
 |met f y =>
  have e:h.get? a=some (methodObj (.ref f) (.ref y)):=x
  show h'.get? a=some (methodObj (.ref f) (.ref y))
  exact k a _ (.inl rfl) e
 |ext φ=>obtain⟨p,⟨o,e⟩,st⟩:=x;exact⟨st _ _ p fun o q=>k _ _ (.inl rfl) q,⟨o,k _ _ (.inl rfl) e⟩,st⟩
theorem HOk.lt(x:HOk P w H h)(e:H a=some o):a<h.objs.size:=(x a o e).lt
theorem HOk.fresh(x:HOk P w H h)(e:h.objs.size≤a):H a=none:=by
 cases q:H a with
 |none=>rfl
 |some u=>exact absurd (sf (x.lt q) e) (ug _)
theorem HOk.kept(x:HOk P w H h)(k:∀b u,h.get? b=some u→h'.get? b=some u):HOk P w H h':=fun a o e =>
 (x a o e).stay (fun b u _ q=>k b u q) (fun _ q=>q) fun _ _ q=>q
theorem HOk.laid(x:HOk P w H h)(k:∀b u,h.get? b=some u→h'.get? b=some u)(hp:h.objs.size≤a)(new:bZ P w (upd H a o) h' a o):HOk P w (upd H a o) h':=fun b u e=>by
 have hn:=x.fresh hp
 by_cases hb:b=a
 ·subst hb;rw[aM]at e;cases e;exact new
 ·rw[aN hb]at e;exact(x b u e).stay (fun c v _ q=>k c v q) (fun c q=>by rw[aN (bE q hn)];exact q) fun c xs q=>by rw[aN (bE q hn)];exact q
end
def Rd(H:Hp)(a:Addr)(u:HO):Prop:=H a=some u∨∃o,H a=some (.frz o u)
theorem Rd.ok{P:vk}{w:World}{H:Hp}{h:Heap}{a:Addr}{u:HO}(r:Rd H a u)(x:HOk P w H h):bZ P w H h a u:=by
 rcases r with r|⟨o,r⟩
 ·exact x a u r
 ·obtain⟨_,q⟩:=x a _ r;exact q
noncomputable def qj:Option HO→Prop
 |some (.lst _)=>True
 |some (.dK _)=>True
 |some (.dT _)=>True
 |some (.set _ _)=>True
 |some (.ins _ _ _)=>True
 |some (.ext _)=>True
 |_=>False
section
variable {P:vk}{w:World}{H:Hp}{h h':Heap}{x e:Addr}{o':HO}
theorem HOk.write(ok:HOk P w H h)(mu:qj (H x))(he:e=x∨H e=some (.own x))(k:∀b u,b≠e→h.get? b=some u→h'.get? b=some u)(l8:∃u,h'.get? e=some u)
  (new:bZ P w (upd H x o') h' x o'):HOk P w (upd H x o') h':=fun b u q=>by
 have nown:∀c y,H c=some (.own y)→c≠x:=fun c y r z=>by subst z;rw[r]at mu;exact mu
 have ntup:∀c xs,H c=some (.tup xs)→c≠x:=fun c xs r z=>by subst z;rw[r]at mu;exact mu
 by_cases hb:b=x
 ·subst hb;rw[aM]at q;cases q;exact new
 ·rw[aN hb]at q
  by_cases kl:b=e
  ·have q':H b=some (.own x):=by
    rcases he with z|z
    ·exact absurd (kl.trans z) hb
    ·rw[kl];exact z
   rw[q]at q';cases q';obtain⟨v,hv⟩:=l8;exact⟨v,by rw[kl];exact hv⟩
  ·refine(ok b u q).stay (fun c v hc r=>k c v ?_ r) (fun c r=>by rw[aN (nown c b r)];exact r) fun c xs r=>by rw[aN (ntup c xs r)];exact r
   rcases hc with rfl|hc
   ·exact kl
   ·rintro rfl
    rcases he with z|z
    ·exact nown c b hc z
    ·rw[hc]at z;cases z;exact hb rfl
end
structure Un (fs ex:List Addr) (H H':Hp) (h h':Heap):Prop where
 keep:∀b o,h.get? b=some o→H b=none→b∉fs→b∉ex→h'.get? b=some o
 slot:∀b o,h.get? b=some o→H b=none→b∈fs→b∉ex→∃sl,h'.get? b=some { o with slots:=sl }
 free:∀b o,h.get? b=some o→H b=none→b∉ex→H' b=none
 there:∀b o,h.get? b=some o→b∉ex→∃o',h'.get? b=some o'
 tups:∀b xs,H b=some (.tup xs)→H' b=some (.tup xs)
 frzs:∀b o u,H b=some (.frz o u)→H' b=some (.frz o u)
 tbls:∀b ps,H b=some (.tbl ps)→∃more,H' b=some (.tbl (ps++more))
section
variable {fs fs' ex ex':List Addr}{H H1 H2:Hp}{h h1 h2 h':Heap}{a x e:Addr}{o:HO}
theorem Un.any(u:Un fs ex H H1 h h1){b:Addr}{ob:Obj}(q:h.get? b=some ob)(n:H b=none)(hx:b∉ex):∃sl,h1.get? b=some { ob with slots:=sl }:=by
 by_cases hb:b∈fs
 ·exact u.slot b ob q n hb hx
 ·exact⟨ob.slots,u.keep b ob q n hb hx⟩
theorem Un.kept(k:∀b u,h.get? b=some u→h'.get? b=some u):Un fs ex H H h h':=
 ⟨fun b ob q _ _ _=>k b ob q,fun b ob q _ _ _=>⟨ob.slots,k b ob q⟩,fun _ _ _ n _=>n,fun b ob q _=>⟨ob,k b ob q⟩,fun _ _ q=>q,fun _ _ _ q=>q,fun _ ps q=>⟨#[],by rw[q];simp⟩⟩
theorem Un.refl:Un fs ex H H h h:=Un.kept fun _ _ q=>q
theorem Un.laid(k:∀b u,h.get? b=some u→h'.get? b=some u)(hp:h.objs.size≤a)(hn:H a=none):Un fs ex H (upd H a o) h h' where
 keep:=fun b u q _ _ _=>k b u q
 slot:=fun b u q _ _ _=>⟨u.slots,k b u q⟩
 free:=fun b u q n _=>by rw[aN (uc (sf (sq q) hp))];exact n
 there:=fun b u q _=>⟨u,k b u q⟩
 tups:=fun b xs q=>by rw[aN (bE q hn)];exact q
 frzs:=fun b u xs q=>by rw[aN (bE q hn)];exact q
 tbls:=fun b ps q=>⟨#[],by rw[aN (bE q hn),q];simp⟩
theorem Un.write(mu:qj (H x))(he:e=x∨H e=some (.own x))(k:∀b u,b≠e→h.get? b=some u→h'.get? b=some u)(l8:∃u,h'.get? e=some u):Un fs ex H (upd H x o) h h':=by
 have hx:∀b,H b=none→b≠x:=fun b n z=>by subst z;rw[n]at mu;exact mu
 have hb:∀b,H b=none→b≠e:=fun b n z=>by
  subst z
  rcases he with r|r
  ·exact hx b n r
  ·rw[n]at r;cases r
 have hm:∀b u,H b=some u→¬qj (some u)→b≠x:=fun b u q nm z=>by subst z;rw[q]at mu;exact nm mu
 refine⟨fun b u q n _ _=>k b u (hb b n) q,fun b u q n _ _=>⟨u.slots,k b u (hb b n) q⟩,fun b u q n _=>by rw[aN (hx b n)];exact n,fun b u q _=>?_,
  fun b xs q=>by rw[aN (hm b _ q fun z=>z)];exact q,fun b u xs q=>by rw[aN (hm b _ q fun z=>z)];exact q,fun b ps q=>⟨#[],by rw[aN (hm b _ q fun z=>z),q];simp⟩⟩
 by_cases kl:b=e
 ·subst kl;exact l8
 ·exact⟨u,k b u kl q⟩
end
noncomputable def trk(h:Heap)(H:Hp):List Addr:=(List.range h.objs.size).filter fun a=>(H a).isSome
noncomputable def sN(h:Heap)(H:Hp):Heap:=hideAll h (trk h H)
theorem FO(h:Heap)(H:Hp):(sN h H).objs.size=h.objs.size:=PySem.W.hideAll_size _ _
theorem KQ{h:Heap}{H:Hp}{b:Addr}{o:Obj}(e:h.get? b=some o)(n:H b=none):(sN h H).get? b=some o:=
 PySem.W.hideAll_get _ e fun hm=>by
  have q:(H b).isSome=true:=(List.mem_filter.mp hm).2
  rw[n]at q;simp at q
theorem RS{h:Heap}{H:Hp}{b:Addr}{o:Obj}(e:(sN h H).get? b=some o):h.get? b=some o∧H b=none:=by
 have e':h.get? b=some o:=PySem.W.of_hideAll (trk h H) e
 refine⟨e',?_⟩;cases q:H b with
 |none=>rfl
 |some x =>
  have hm:b∈trk h H:=List.mem_filter.mpr ⟨v8.mpr (sq e'),by simp[q]⟩
  have z:(sN h H).get? b=none:=PySem.W.hideAll_none (trk h H) hm
  rw[z]at e;cases e
noncomputable def UK(g h:Heap)(L:Addr):List (Addr×Obj):=(List.range h.objs.size).filterMap fun a=>if a=L∨(g.get? a).isSome=true then none else(h.get? a).map fun o=>(a,o)
noncomputable def rest(g h:Heap)(L d:Addr):List (Addr×Obj):=(UK g h L).filter fun p=>decide (p.1≠d)
structure Mod (K:vi) (mg:vo) (base:Heap):Prop where
 kin:K.In base
 glob:base.Ns mainGlobals mg
 blt:∃mb,base.Ns builtinsNs mb∧∀x:Str,x≠"__name__"→mb x=bootBuiltins x
 nolimit:base.NoLimit
structure Cx where
 prog:vk
 w:World
 K:vi
 mg:Str→Option Value
 base:Heap
 A:Around
 N:List Str
 s₀:Shared
 H₀:Hp
 env:Env
 outer:List Env
 stack:List Env
 ex:List Addr
 fn:Str→Bool
 calm:Bool
 pn:List (Addr×Obj)
 xe:Value→Shared→Prop
noncomputable def frs(l:List Env):List Addr:=l.filterMap (·.frame)
abbrev Cx.fs(X:Cx):List Addr:=frs X.outer
def Vis(sc:Scope)(x:Str):Prop:=sc.names.lookup x=some .local∨sc.names.lookup x=some .cell∨sc.names.lookup x=some .free
def Loc(sc:Scope)(x:Str):Prop:=sc.names.lookup x=some .local∨sc.names.lookup x=some .cell
def Look(env:Env)(h:Heap)(m:vo)(x:Str)(u:Value):Prop:=
 (env.kindOf x=some .local∧m x=some u)∨((env.kindOf x=some .cell∨env.kindOf x=some .free)∧∃c,env.cells.lookup x=some c∧h.IsCell c (some u))
structure Cx.Ok (X:Cx):Prop where
 mod:Mod X.K X.mg X.base
 kind:X.env.scope.kind=.function
 glob:X.env.globals=mainGlobals
 blt:X.env.builtins=builtinsNs
 above:X.s₀.heap.objs.size≤X.env.locals
 inj:∀x y c,X.env.cells.lookup x=some c→X.env.cells.lookup y=some c→x=y
 has:∀x,(X.env.kindOf x=some .cell∨X.env.kindOf x=some .free)→∃c,X.env.cells.lookup x=some c
 cab:∀x c,X.fn x=true→X.env.cells.lookup x=some c→X.s₀.heap.objs.size≤c
 hd:X.calm=true→X.A.handled=none
 frames:X.A.frames=some X.stack
 stk:X.stack=X.outer∨(X.stack=X.env::X.outer∧X.env.frame=some X.env.locals)
 exf:∀b∈X.ex,b≠X.env.locals∧∀x c,X.env.cells.lookup x=some c→c≠b
 bs:∀b o,X.base.get? b=some o→X.s₀.heap.get? b=some o∧X.H₀ b=none
 bsz:X.base.objs.size≤X.s₀.heap.objs.size
 noex:∀b o,X.base.get? b=some o→b∉X.ex
 exfs:∀b∈X.ex,b∉X.fs
 funs:X.s₀.heap.FunFrames X.base X.outer
 frf:∀b∈X.fs,X.H₀ b=none
structure Inv (X:Cx) (pins:vn) (σ:List (Option V)) (H:Hp) (s:Shared):Prop where
 ok:X.Ok
 os:s.os=X.s₀.os
 bare:AllBare s.gens
 base:Un X.fs X.ex X.H₀ H X.s₀.heap s.heap
 loc:∃m,s.heap.Ns X.env.locals m∧∀(i:Nat) (x:Str) (v:V),X.N[i]?=some x→σ[i]?=some (some v)→Vis X.env.scope x→∃u,RelV v u∧Look X.env s.heap m x u
 cell:∀x c,X.env.cells.lookup x=some c→∃v,s.heap.IsCell c v
 free:H X.env.locals=none
 freeC:∀x c,X.env.cells.lookup x=some c→H c=none
 pin:∀p∈X.pn++pins,s.heap.get? p.1=some p.2∧H p.1=none∧p.1≠X.env.locals∧p.1∉X.fs∧∀v,p.2.data≠.cell v
 hok:HOk X.prog X.w H s.heap
 len:σ.length=X.N.length
section
variable {X:Cx}{pins:vn}{σ:List (Option V)}{H H':Hp}{s:Shared}{h':Heap}
theorem Cx.Ok.nofr(ok:X.Ok){b:Addr}{o:Obj}(e:X.base.get? b=some o):b∉X.fs:=fun hb=>by
 have:=(ok.funs.mem hb).1
 rw[e]at this;cases this
theorem Inv.bs(I:Inv X pins σ H s):∀b o,X.base.get? b=some o→s.heap.get? b=some o∧H b=none:=fun b o e =>
 ⟨I.base.keep b o (I.ok.bs b o e).1 (I.ok.bs b o e).2 (I.ok.nofr e) (I.ok.noex b o e),I.base.free b o (I.ok.bs b o e).1 (I.ok.bs b o e).2 (I.ok.noex b o e)⟩
theorem Inv.bk(I:Inv X pins σ H s):∀b o,X.base.get? b=some o→s.heap.get? b=some o:=fun b o e=>(I.bs b o e).1
theorem Inv.mod(I:Inv X pins σ H s):Mod X.K X.mg X.base:=I.ok.mod
theorem Inv.kIn(I:Inv X pins σ H s):X.K.In s.heap:=I.ok.mod.kin.keeps I.bk
theorem Inv.lt(I:Inv X pins σ H s):X.env.locals<s.heap.objs.size:=let ⟨_,hn,_⟩:=I.loc;hn.lt
theorem Inv.sz(I:Inv X pins σ H s):X.s₀.heap.objs.size≤s.heap.objs.size:=sr I.ok.above (Nat.le_of_lt I.lt)
theorem Inv.nofs(I:Inv X pins σ H s){a:Addr}(h:s.heap.objs.size≤a):a∉X.fs:=fun hb=>by
 obtain⟨_,o,ho,_⟩:=I.ok.funs.mem hb;exact absurd (sf (sq ho) (sr I.sz h)) (ug _)
theorem Inv.cne(I:Inv X pins σ H s):∀x c,X.env.cells.lookup x=some c→c≠X.env.locals:=fun x c e z=>by
 obtain⟨v,o,ho,hd⟩:=I.cell x c e;obtain⟨m,⟨o',es,ep,ip,hd',_⟩,_⟩:=I.loc;rw[z,ip]at ho;cases ho;rw[hd']at hd;cases hd
theorem Inv.funs(I:Inv X pins σ H s):s.heap.FunFrames X.base X.outer:=by
 have all:∀(l:List Env),(∀b∈frs l,b∈X.fs)→X.s₀.heap.FunFrames X.base l→s.heap.FunFrames X.base l:=by
  intro l
  induction l with
  |nil=>intro _ _;trivial
  |cons env r ih =>
   intro hs hl;obtain⟨hk,⟨L,o,hf,hn,ho,hd⟩,hr⟩:=hl;have hL:L∈X.fs:=hs L (by unfold frs;rw[List.filterMap_cons,hf];exact ur)
   obtain⟨sl,e⟩:=I.base.slot L o ho (I.ok.frf L hL) hL fun z=>I.ok.exfs L z hL
   exact⟨hk,⟨L,_,hf,hn,e,hd⟩,ih (fun b hb=>hs b (by unfold frs;rw[List.filterMap_cons,hf];exact rg _ hb)) hr⟩
 exact all X.outer (fun _ hb=>hb) I.ok.funs
theorem Inv.stack(I:Inv X pins σ H s):s.heap.FunFrames X.base X.stack:=by
 rcases I.ok.stk with e|⟨e,hf⟩
 ·rw[e];exact I.funs
 ·rw[e];obtain⟨m,hn,_⟩:=I.loc;refine .cons (by rw[I.ok.kind];decide) hf hn ?_ I.funs
  exact Heap.get?_none_of_le (sr I.ok.bsz I.ok.above)
theorem Inv.stkSub(I:Inv X pins σ H s):∀b∈frs X.stack,b∈X.env.locals::X.fs:=fun b hb=>by
 rcases I.ok.stk with e|⟨e,hf⟩
 ·rw[e]at hb;exact rg _ hb
 ·rw[e]at hb;unfold frs at hb;rw[List.filterMap_cons,hf]at hb;exact hb
theorem Inv.stkFree(I:Inv X pins σ H s):∀b∈frs X.stack,H b=none:=fun b hb=>by
 rcases sv.mp (I.stkSub b hb) with e|hb
 ·rw[e];exact I.free
 ·obtain⟨_,o,ho,_⟩:=I.ok.funs.mem hb;exact I.base.free b o ho (I.ok.frf b hb) fun z=>I.ok.exfs b z hb
theorem Inv.step{g':Array GenState}{t':Nat}{d':Drawn}{ch:List Addr}(I:Inv X pins σ H s)
  (iF:∀b∈ch,(b∈X.ex∨X.s₀.heap.objs.size≤b)∧b≠X.env.locals∧(∀x c,X.env.cells.lookup x=some c→c≠b)∧∀p∈X.pn++pins,p.1≠b)
  (keep:∀b o,b≠X.env.locals→b∉X.fs→b∉ch→s.heap.get? b=some o→H b=none→h'.get? b=some o)
  (slot:∀b o,b≠X.env.locals→b∈X.fs→b∉ch→s.heap.get? b=some o→H b=none→∃sl,h'.get? b=some { o with slots:=sl }) (free:∀b o,b∉ch→s.heap.get? b=some o→H b=none→H' b=none)
  (there:∀b o,b∉ch→s.heap.get? b=some o→∃o',h'.get? b=some o')
  (tups:∀b xs,H b=some (.tup xs)→H' b=some (.tup xs)) (frzs:∀b o u,H b=some (.frz o u)→H' b=some (.frz o u)) (tbls:∀b ps,H b=some (.tbl ps)→∃more,H' b=some (.tbl (ps++more)))
  (ns:∀m,s.heap.Ns X.env.locals m→h'.Ns X.env.locals m) (hok:HOk X.prog X.w H' h') (hg:AllBare g') :
  Inv X pins σ H' { s with heap:=h',gens:=g',drawn:=d',toks:=t' }:=by
 have neL:∀b o,X.s₀.heap.get? b=some o→b≠X.env.locals:=fun b o e=>uc (sf (sq e) I.ok.above)
 have neC:∀b o,X.s₀.heap.get? b=some o→b∉X.ex→b∉ch:=fun b o e hx hb=>by
  rcases (iF b hb).1 with z|z
  ·exact hx z
  ·exact absurd (sf (sq e) z) (ug _)
 have cellK:∀x c,X.env.cells.lookup x=some c→∀v,s.heap.IsCell c v→h'.IsCell c v:=fun x c e v ⟨o,ho,hd⟩=>by
  have om:c∉ch:=fun z=>(iF c z).2.2.1 x c e rfl
  by_cases hc:c∈X.fs
  ·obtain⟨sl,q⟩:=slot c o (I.cne x c e) hc om ho (I.freeC x c e);exact⟨_,q,hd⟩
  ·exact⟨o,keep c o (I.cne x c e) hc om ho (I.freeC x c e),hd⟩
 refine⟨I.ok,I.os,hg,⟨fun b o e n hb hx=>?_,fun b o e n hb hx=>?_,fun b o e n hx=>?_,fun b o e hx=>?_,fun b xs e=>tups b xs (I.base.tups b xs e),fun b o xs e=>frzs b o xs (I.base.frzs b o xs e),fun b ps e=>?_⟩,?_,fun x c e=>?_,?_,fun x c e=>?_,fun p hp=>?_,hok,I.len⟩
 ·exact keep b o (neL b o e) hb (neC b o e hx) (I.base.keep b o e n hb hx) (I.base.free b o e n hx)
 ·obtain⟨sl,e1⟩:=I.base.slot b o e n hb hx;obtain⟨sl',e2⟩:=slot b _ (neL b o e) hb (neC b o e hx) e1 (I.base.free b o e n hx);exact⟨sl',e2⟩
 ·obtain⟨o',e1⟩:=I.base.there b o e hx;exact free b o' (neC b o e hx) e1 (I.base.free b o e n hx)
 ·obtain⟨o',e1⟩:=I.base.there b o e hx;exact there b o' (neC b o e hx) e1
 ·obtain⟨m1,e1⟩:=I.base.tbls b ps e;obtain⟨m2,e2⟩:=tbls b _ e1;exact⟨m1++m2,by rw[e2,Array.append_assoc]⟩
 ·obtain⟨m,hn,hl⟩:=I.loc;refine⟨m,ns m hn,fun i x v e1 e2 e3=>?_⟩
  obtain⟨u,r,l⟩:=hl i x v e1 e2 e3;refine⟨u,r,?_⟩
  rcases l with l|⟨k,c,e,z⟩
  ·exact .inl l
  ·exact .inr ⟨k,c,e,cellK x c e _ z⟩
 ·obtain⟨v,z⟩:=I.cell x c e;exact⟨v,cellK x c e v z⟩
 ·obtain⟨m,⟨o,_,_,ho,_⟩,_⟩:=I.loc;exact free _ o (fun z=>(iF _ z).2.1 rfl) ho I.free
 ·obtain⟨v,o,ho,hd⟩:=I.cell x c e;exact free c o (fun z=>(iF c z).2.2.1 x c e rfl) ho (I.freeC x c e)
 ·obtain⟨e,n,ne,nf,d⟩:=I.pin p hp;have om:p.1∉ch:=fun z=>(iF p.1 z).2.2.2 p hp rfl
  exact⟨keep p.1 p.2 ne nf om e n,free p.1 p.2 om e n,ne,nf,d⟩
theorem Inv.un{t':Nat}(I:Inv X pins σ H s)(u:Un X.fs [] H H' s.heap h')(hok:HOk X.prog X.w H' h'):Inv X pins σ H' { s with heap:=h',toks:=t' }:=by
 obtain⟨m,⟨o,es,ep,ho,r⟩,_⟩:=id I.loc;obtain⟨sl,hL⟩:=u.any ho I.free (by simp)
 exact I.step (g':=s.gens) (d':=s.drawn) (ch:=[]) (fun _ z=>nomatch z) (fun b o _ hb _ e n=>u.keep b o e n hb (by simp)) (fun b o _ hb _ e n=>u.slot b o e n hb (by simp)) (fun b o _ e n=>u.free b o e n (by simp)) (fun b o _ e=>u.there b o e (by simp)) u.tups u.frzs u.tbls (fun m' hm=>by
  obtain⟨o',gb,ep',ip,r'⟩:=hm;rw[ho]at ip;cases ip;exact⟨_,gb,ep',hL,r'⟩) hok I.bare
theorem Inv.call{g':Array GenState}{t':Nat}{d':Drawn}{ch:List Addr}(I:Inv X pins σ H s)(u:Un (frs X.stack) ch H H' s.heap h')(hok:HOk X.prog X.w H' h')(hg:AllBare g')
  (iF:∀b∈ch,(b∈X.ex∨X.s₀.heap.objs.size≤b)∧b≠X.env.locals∧(∀x c,X.env.cells.lookup x=some c→c≠b)∧∀p∈X.pn++pins,p.1≠b) :
  Inv X pins σ H' { s with heap:=h',gens:=g',drawn:=d',toks:=t' }:=by
 obtain⟨m,⟨o,es,ep,ho,r⟩,_⟩:=id I.loc;obtain⟨sl,hL⟩:=u.any ho I.free fun z=>(iF _ z).2.1 rfl
 exact I.step (ch:=ch) iF (fun b o hL hb hc e n=>u.keep b o e n (fun z=>(sv.mp (I.stkSub b z)).elim hL hb) hc) (fun b o _ _ hc e n=>u.any e n hc) (fun b o hc e n=>u.free b o e n hc) (fun b o hc e=>u.there b o e hc) u.tups u.frzs u.tbls (fun m' hm=>by
  obtain⟨o',gb,ep',ip,r'⟩:=hm;rw[ho]at ip;cases ip;exact⟨_,gb,ep',hL,r'⟩) hok hg
theorem Inv.turned{t':Nat}{it:Addr}(I:Inv X pins σ H s)(k:∀b o,b≠it→s.heap.get? b=some o→h'.get? b=some o)(hn:H it=none)(hL:it≠X.env.locals)
  (h1:it∈X.ex∨X.s₀.heap.objs.size≤it) (h2:∀x c,X.env.cells.lookup x=some c→c≠it) (h3:∀p∈X.pn++pins,p.1≠it):Inv X pins σ H { s with heap:=h',toks:=t' }:=by
 have nit:∀b u,H b=some u→b≠it:=fun b u e z=>by rw[z,hn]at e;cases e
 refine I.step (g':=s.gens) (d':=s.drawn) (ch:=[it]) (fun b hb=>?_) (fun b o _ _ hc e _=>k b o (fun z=>hc (by simp[z])) e) (fun b o _ _ hc e _=>⟨o.slots,k b o (fun z=>hc (by simp[z])) e⟩) (fun _ _ _ _ n=>n)
  (fun b o hc e=>⟨o,k b o (fun z=>hc (by simp[z])) e⟩) (fun _ _ e=>e) (fun _ _ _ e=>e) (fun b ps e=>⟨#[],by rw[e];simp⟩) (fun m hm=>?_) (fun b u e=>?_) I.bare
 ·have e:b=it:=by simpa using hb
  subst e;exact⟨h1,hL,h2,h3⟩
 ·obtain⟨o,es,ep,ho,r⟩:=hm;exact⟨o,es,ep,k _ o (Ne.symm hL) ho,r⟩
 ·refine(I.hok b u e).stay (fun c v hc q=>k c v ?_ q) (fun _ q=>q) fun _ _ q=>q
  rcases hc with z|z
  ·rw[z];exact nit b u e
  ·exact nit c _ z
theorem Inv.tok(I:Inv X pins σ H s)(t:Nat):Inv X pins σ H { s with toks:=t }:=I.un (h':=s.heap) (t':=t) Un.refl I.hok
theorem Inv.kept{t':Nat}(I:Inv X pins σ H s)(k:∀b u,s.heap.get? b=some u→h'.get? b=some u):Inv X pins σ H { s with heap:=h',toks:=t' }:=I.un (Un.kept k) (I.hok.kept k)
theorem Inv.laid{a:Addr}{o:HO}{t':Nat}(I:Inv X pins σ H s)(k:∀b u,s.heap.get? b=some u→h'.get? b=some u)(hp:s.heap.objs.size≤a)(new:bZ X.prog X.w (upd H a o) h' a o) :
  Inv X pins σ (upd H a o) { s with heap:=h',toks:=t' }:=I.un (Un.laid k hp (I.hok.fresh hp)) (I.hok.laid k hp new)
theorem Inv.write{x e:Addr}{o:HO}{t':Nat}(I:Inv X pins σ H s)(mu:qj (H x))(he:e=x∨H e=some (.own x))(k:∀b u,b≠e→s.heap.get? b=some u→h'.get? b=some u)(l8:∃u,h'.get? e=some u)
  (new:bZ X.prog X.w (upd H x o) h' x o):Inv X pins σ (upd H x o) { s with heap:=h',toks:=t' }:=I.un (Un.write mu he k l8) (I.hok.write mu he k l8 new)
theorem Inv.pins_of{dn:vn}(I:Inv X pins σ H s)(h:∀p∈dn,s.heap.get? p.1=some p.2∧H p.1=none∧p.1≠X.env.locals∧p.1∉X.fs∧∀v,p.2.data≠.cell v):Inv X dn σ H s:=
 ⟨I.ok,I.os,I.bare,I.base,I.loc,I.cell,I.free,I.freeC,fun p hp=>(vh.mp hp).elim (fun z=>I.pin p (uf _ z)) (h p),I.hok,I.len⟩
theorem vO{N:List Str}(hN:N.Nodup){i j:Nat}{x:Str}(a:N[i]?=some x)(b:N[j]?=some x):i=j:=by
 obtain⟨h1,e1⟩:=q8.mp a;obtain⟨h2,e2⟩:=q8.mp b;exact(List.getElem_inj hN).mp (e1.trans e2.symm)
theorem pV{M:Model}{A:Around}{E:vm}{i:Nat}{x:Str}{v:V}{u:Value}{Q:Unit→Shared→Prop}(I:Inv X pins σ H s)(hN:X.N.Nodup)(hi:X.N[i]?=some x)(hx:Loc X.env.scope x)(r:RelV v u)
  (h:∀s',Inv X pins (σ.set i (some v)) H s'→(∃a,Heap.SameBut a s.heap s'.heap∧(a=X.env.locals∨X.env.cells.lookup x=some a))→Q () s') (hf:X.fn x=true∨X.env.scope.names.lookup x=some .local:=by first|exact .inl rfl|exact .inr rfl|assumption):wpAny M A (storeName X.env x u) Q E s:=by
 obtain⟨m,hn,hl⟩:=id I.loc;have iy:(X.env.scope.kind == .class || (X.env.scope.kind == .module&&X.env.locals != X.env.globals))=false:=by rw[I.ok.kind];rfl
 have hiσ:i<σ.length:=by rw[I.len];exact(q8.mp hi).1
 have cne:=I.cne
 have tracked:∀{a:Addr} {h':Heap},(∃o,s.heap.get? a=some o∧H a=none)→Heap.SameBut a s.heap h'→HOk X.prog X.w H h':=fun {a h'} ha hs b ob e=>by
  obtain⟨_,_,hfree⟩:=ha;refine(I.hok b ob e).stay (fun c w' hc q=>(hs.2 c ?_).trans q) (fun _ q=>q) fun _ _ q=>q
  rintro rfl
  rcases hc with rfl|hc
  ·rw[hfree]at e;cases e
  ·rw[hfree]at hc;cases hc
 rcases hx with hk|hk
 ·refine wpAny_storeName_local hk hn (fun h' jq hs=>?_) iy
  obtain⟨oL,_,_,hoL,_⟩:=id hn;refine h _ ⟨I.ok,I.os,I.bare,⟨fun b o e n hb hx=>?_,fun b o e n hb hx=>?_,I.base.free,fun b o e hx=>?_,I.base.tups,I.base.frzs,I.base.tbls⟩,⟨_,jq,fun j y v' e1 e2 e3=>?_⟩,fun y c e=>?_,I.free,I.freeC,fun p hp=>?_,tracked ⟨oL,hoL,I.free⟩ hs,by simpa using I.len⟩ ⟨_,hs,.inl rfl⟩
  ·exact(hs.2 b (uc (sf (sq e) I.ok.above))).trans (I.base.keep b o e n hb hx)
  ·obtain⟨sl,e1⟩:=I.base.slot b o e n hb hx;exact⟨sl,(hs.2 b (uc (sf (sq e) I.ok.above))).trans e1⟩
  ·obtain⟨o',e1⟩:=I.base.there b o e hx;exact⟨o',(hs.2 b (uc (sf (sq e) I.ok.above))).trans e1⟩
  ·by_cases hj:j=i
   ·subst hj;rw[hi]at e1;cases e1;rw[sk hiσ]at e2;cases e2;exact⟨u,r,.inl ⟨hk,by simp⟩⟩
   ·rw[so (Ne.symm hj)]at e2;obtain⟨u',r',q⟩:=hl j y v' e1 e2 e3;refine⟨u',r',?_⟩
    rcases q with ⟨k,e⟩|⟨k,c,e,z⟩
    ·refine .inl ⟨k,?_⟩;have:y≠x:=fun e=>hj (vO hN e1 (e ▸ hi))
     simp[this,e]
    ·exact .inr ⟨k,c,e,z.sameBut hs (cne y c e)⟩
  ·obtain⟨w',z⟩:=I.cell y c e;exact⟨w',z.sameBut hs (cne y c e)⟩
  ·obtain⟨e,n,ne,nf,d⟩:=I.pin p hp;exact⟨(hs.2 p.1 ne).trans e,n,ne,nf,d⟩
 ·have gg:X.fn x=true:=by
   rcases hf with z|z
   ·exact z
   ·rw[z]at hk;cases hk
  obtain⟨c,hc⟩:=I.ok.has x (.inl hk);obtain⟨w',z⟩:=I.cell x c hc;refine wpAny_storeName_cell I.ok.kind hk hc z (fun h' js hs=>?_)
  obtain⟨oc,l0,hocd⟩:=id z;refine h { s with heap:=h' } ⟨I.ok,I.os,I.bare,⟨fun b o e n hb hx=>?_,fun b o e n hb hx=>?_,I.base.free,fun b o e hx=>?_,I.base.tups,I.base.frzs,I.base.tbls⟩,⟨m,hn.sameBut hs (Ne.symm (cne x c hc)),fun j y v' e1 e2 e3=>?_⟩,fun y c' e=>?_,I.free,I.freeC,fun p hp=>?_,tracked ⟨oc,l0,I.freeC x c hc⟩ hs,by simpa using I.len⟩ ⟨c,hs,.inr hc⟩
  ·exact(hs.2 b (uc (sf (sq e) (I.ok.cab x c gg hc)))).trans (I.base.keep b o e n hb hx)
  ·obtain⟨sl,e1⟩:=I.base.slot b o e n hb hx;exact⟨sl,(hs.2 b (uc (sf (sq e) (I.ok.cab x c gg hc)))).trans e1⟩
  ·obtain⟨o',e1⟩:=I.base.there b o e hx;exact⟨o',(hs.2 b (uc (sf (sq e) (I.ok.cab x c gg hc)))).trans e1⟩
  ·by_cases hj:j=i
   ·subst hj;rw[hi]at e1;cases e1;rw[sk hiσ]at e2;cases e2;exact⟨u,r,.inr ⟨.inl hk,c,hc,js⟩⟩
   ·rw[so (Ne.symm hj)]at e2;obtain⟨u',r',q⟩:=hl j y v' e1 e2 e3;refine⟨u',r',?_⟩
    rcases q with q|⟨k,c',e,z'⟩
    ·exact .inl q
    ·refine .inr ⟨k,c',e,z'.sameBut hs ?_⟩;rintro rfl;exact hj (vO hN e1 (I.ok.inj _ _ _ e hc ▸ hi))
  ·by_cases hcc:c'=c
   ·subst hcc;exact⟨_,js⟩
   ·obtain⟨w2,z2⟩:=I.cell y c' e;exact⟨w2,z2.sameBut hs hcc⟩
  ·obtain⟨e,n,ne,nf,d⟩:=I.pin p hp;refine⟨(hs.2 p.1 ?_).trans e,n,ne,nf,d⟩;intro q;rw[q,l0]at e;have q':oc=p.2:=rn e
   exact d w' (by rw[←q'];exact hocd)
theorem nM{M:Model}{A:Around}{E:vm}{i:Nat}{x:Str}{v:V}{u:Value}{Q:Unit→Shared→Prop}(I:Inv X pins σ H s)(hN:X.N.Nodup)(hi:X.N[i]?=some x)(hx:Loc X.env.scope x)(r:RelV v u)
  (h:∀s',Inv X pins (σ.set i (some v)) H s'→Q () s') (hf:X.fn x=true∨X.env.scope.names.lookup x=some .local:=by first|exact .inl rfl|exact .inr rfl|assumption):wpAny M A (storeName X.env x u) Q E s:=
 pV I hN hi hx r (fun s' I' _=>h s' I') hf
theorem Inv.call'{s':Shared}{ch:List Addr}(I:Inv X pins σ H s)(ho:s'.os=s.os)(u:Un (frs X.stack) ch H H' s.heap s'.heap)(hok:HOk X.prog X.w H' s'.heap)(hg:AllBare s'.gens)
  (iF:∀b∈ch,(b∈X.ex∨X.s₀.heap.objs.size≤b)∧b≠X.env.locals∧(∀x c,X.env.cells.lookup x=some c→c≠b)∧∀p∈X.pn++pins,p.1≠b):Inv X pins σ H' s':=by
 obtain⟨h',g',d',t',o'⟩:=s';have e:o'=s.os:=ho
 subst e;exact I.call (g':=g') (t':=t') (d':=d') u hok hg iF
end
abbrev XK:=Value→Option Addr→Hp→Prop
abbrev St:=List (Option V)
abbrev VK:=V→Hp→Prop
abbrev TE:=St→Hp→VK→Prop
abbrev TT:=St→Hp→(Bool→Hp→Prop)→Prop
abbrev TA:=St→Hp→(List V→Hp→Prop)→Prop
structure Ends where
 nx:St→Hp→Prop
 rt:VK
 bk:St→Hp→Prop:=fun _ _=>False
 ct:St→Hp→Prop:=fun _ _=>False
abbrev TS:=Ends→St→Hp→Prop
def EP(X:Cx)(pins:vn)(σ:St)(Q:VK)(u:Value)(s':Shared):Prop:=∃v H',Inv X pins σ H' s'∧RelV v u∧Q v H'
def TP(X:Cx)(pins:vn)(σ:St)(Q:Bool→Hp→Prop)(b:Bool)(s':Shared):Prop:=∃H',Inv X pins σ H' s'∧Q b H'
def AP(X:Cx)(pins:vn)(σ:St)(Q:List V→Hp→Prop)(us:List Value)(s':Shared):Prop:=∃vs H',Inv X pins σ H' s'∧aQ vs us∧Q vs H'
def SP(X:Cx)(pins:vn)(D:Ends)(f:Flow)(s':Shared):Prop:=
 match f with
 |.next=>∃σ' H',Inv X pins σ' H' s'∧D.nx σ' H'
 |.brk=>∃σ' H',Inv X pins σ' H' s'∧D.bk σ' H'
 |.cont=>∃σ' H',Inv X pins σ' H' s'∧D.ct σ' H'
 |.ret u=>∃v σ' H',Inv X pins σ' H' s'∧RelV v u∧D.rt v H'
def PE(X:Cx)(e:Expr)(t:TE):Prop:=
 ∀(pins:vn) (s:Shared) (σ:St) (H:Hp) (Q:VK),Inv X pins σ H s→t σ H Q→wpAny (model X.prog X.w) X.A (eval e X.env) (EP X pins σ Q) X.xe s
def PT(X:Cx)(e:Expr)(t:TT):Prop:=
 ∀(pins:vn) (s:Shared) (σ:St) (H:Hp) (Q:Bool→Hp→Prop),Inv X pins σ H s→t σ H Q→wpAny (model X.prog X.w) X.A (isTrue e X.env (eval e X.env)) (TP X pins σ Q) X.xe s
def PW(X:Cx)(e:Expr)(t:TT):Prop:=
 ∀(whole:Sem Value) (pins:vn) (s:Shared) (σ:St) (H:Hp) (Q:Bool→Hp→Prop),Inv X pins σ H s→t σ H Q→wpAny (model X.prog X.w) X.A (isTrue e X.env whole) (TP X pins σ Q) X.xe s
theorem PW.pt{X:Cx}{e:Expr}{t:TT}(h:PW X e t):PT X e t:=h _
def PA(X:Cx)(es:List Expr)(t:TA):Prop:=
 ∀(pos:Pos) (pins:vn) (s:Shared) (σ:St) (H:Hp) (Q:List V→Hp→Prop),Inv X pins σ H s→t σ H Q→wpAny (model X.prog X.w) X.A (spliced (backTo pos (starEach es X.env))) (AP X pins σ Q) X.xe s
def PS(X:Cx)(st:Stmt)(t:TS):Prop:=
 ∀(pins:vn) (s:Shared) (σ:St) (H:Hp) (D:Ends),Inv X pins σ H s→t D σ H→wpAny (model X.prog X.w) X.A (exec st X.env) (SP X pins D) X.xe s
def PSs(X:Cx)(st:List Stmt)(t:TS):Prop:=
 ∀(pins:vn) (s:Shared) (σ:St) (H:Hp) (D:Ends),Inv X pins σ H s→t D σ H→wpAny (model X.prog X.w) X.A (execs st X.env) (SP X pins D) X.xe s
theorem af{α:Type}{t:Sem α}{Q Q':α→Shared→Prop}{M:Model}{A:Around}{E:vm}{s:Shared}(h:wpAny M A t Q E s)(hQ:∀a s,Q a s→Q' a s):wpAny M A t Q' E s:=uj h hQ fun _ _ x=>x
section
variable {X:Cx}
theorem bin{a b:Expr}{ta tb:TE}(ha:PE X a ta)(hb:PE X b tb){pins:vn}{s:Shared}{σ:St}{H:Hp}{R:V→V→Hp→Prop}(I:Inv X pins σ H s)(h:ta σ H fun x H1=>tb σ H1 fun y H2=>R x y H2)
  {α:Type} {Q:α→Shared→Prop} {f:Value→Value→Sem α}
  (hf:∀v u s2 x y H2,Inv X pins σ H2 s2→RelV x v→RelV y u→R x y H2→wpAny (model X.prog X.w) X.A (f v u) Q X.xe s2) :
  wpAny (model X.prog X.w) X.A (eval a X.env) (fun v s₁=>wpAny (model X.prog X.w) X.A (eval b X.env) (fun u s₂=>wpAny (model X.prog X.w) X.A (f v u) Q X.xe s₂) X.xe s₁) X.xe s:=by
 refine af (ha pins s σ H _ I h) fun v s1 ⟨x,H1,I1,r1,q1⟩=>?_
 refine af (hb pins s1 σ H1 _ I1 q1) fun u s2 ⟨y,H2,I2,r2,q2⟩=>?_
 exact hf v u s2 x y H2 I2 r1 r2 q2
def rP(i:Nat):TE:=fun σ H Q=>∃v,σ[i]?=some (some v)∧Q v H
def tC(v:V):TE:=fun _ H Q=>Q v H
theorem lJ{i:Nat}{x:Str}{pos:Pos}(hN:X.N[i]?=some x)(hv:Vis X.env.scope x)(hd:(x == ("__debug__":Str))=false:=by decide)(fm:(x == ("__classdict__":Str))=false:=by decide):PE X (.Name x pos) (rP i):=by
 intro pins s σ H Q I h;obtain⟨v,e,h⟩:=h;obtain⟨m,hn,hl⟩:=I.loc;obtain⟨u,r,l⟩:=hl i x v hN e hv;have fin:EP X pins σ Q u s:=⟨v,H,I,r,h⟩
 rcases l with ⟨hk,hm⟩|⟨hk,c,hc,hcell⟩
 ·exact wpAny_Name (wpAny_loadName_local I.ok.kind hk hn hm fin) hd
 ·rcases hk with hk|hk
  ·exact wpAny_Name (wpAny_loadName_cell I.ok.kind hk hc hcell fin) hd
  ·exact wpAny_Name (wpAny_loadName_free I.ok.kind hk hc hcell fin fm) hd
theorem IM{i j pos}:PE X (.Constant (.int i) j pos) (tC (.int i)):=fun _ _ _ H _ I h=>wpAny_Constant_int ⟨.int i,H,I.tok _,⟨_,rfl⟩,h⟩
theorem AO{b j pos}:PE X (.Constant (.bool b) j pos) (tC (.bl b)):=fun _ _ _ H _ I h=>Constant_bool ⟨.bl b,H,I,rfl,h⟩
theorem ZH{j pos}:PE X (.Constant .none j pos) (tC .non):=fun _ _ _ H _ I h=>Constant_none ⟨.non,H,I,rfl,h⟩
theorem fR{x j pos}:PE X (.Constant (.str x) j pos) (tC (.str x)):=fun _ _ _ H _ I h=>Calls.Constant_str ⟨.str x,H,I.tok _,⟨_,rfl⟩,h⟩
def Gl(X:Cx)(x:Str):Prop:=X.env.kindOf x=some .globalImplicit
theorem eA{E:vm}{pins:vn}{s:Shared}{σ:St}{H:Hp}{x:Str}{u:Value}{pos:Pos}{Q:vm}(I:Inv X pins σ H s)(hg:Gl X x)(hm:X.mg x=some u)(h:Q u s)
  (hd:(x == ("__debug__":Str))=false:=by decide):wpAny (model X.prog X.w) X.A (eval (.Name x pos) X.env) Q E s:=
 Calls.Name_function_global I.ok.kind hg (Calls.loadGlobal_global (by rw[I.ok.glob];exact I.mod.glob.keeps I.bk) hm h) hd
theorem fU{E:vm}{pins:vn}{s:Shared}{σ:St}{H:Hp}{x:Str}{u:Value}{pos:Pos}{Q:vm}(I:Inv X pins σ H s)(hg:Gl X x)(hm:X.mg x=none)(hv:bootBuiltins x=some u)(h:Q u s)
  (hn:x≠"__name__":=by decide) (hd:(x == ("__debug__":Str))=false:=by decide):wpAny (model X.prog X.w) X.A (eval (.Name x pos) X.env) Q E s:=by
 obtain⟨mb,h1,h2⟩:=I.mod.blt;exact Calls.Name_function_global I.ok.kind hg (Calls.loadGlobal_builtin (by rw[I.ok.glob];exact I.mod.glob.keeps I.bk) hm (by rw[I.ok.blt];exact h1.keeps I.bk) ((h2 x hn).trans hv) h) hd
theorem QX{x:Str}{v:V}{u:Value}{pos:Pos}(hg:Gl X x)(hm:X.mg x=some u)(r:RelV v u)(hd:(x == ("__debug__":Str))=false:=by decide):PE X (.Name x pos) (tC v):=
 fun _ _ _ H _ I h=>eA I hg hm ⟨v,H,I,r,h⟩ hd
theorem AN{x:Str}{v:V}{u:Value}{pos:Pos}(hg:Gl X x)(hm:X.mg x=none)(hv:bootBuiltins x=some u)(r:RelV v u)(hn:x≠"__name__":=by decide)(hd:(x == ("__debug__":Str))=false:=by decide):PE X (.Name x pos) (tC v):=
 fun _ _ _ H _ I h=>fU I hg hm hv ⟨v,H,I,r,h⟩ hn hd
variable {a b:Expr}{ta tb:TE}{pos:Pos}
def PC(X:Cx)(op:CmpOp)(a b:Expr)(t:TE):Prop:=
 ∀(pins:vn) (s:Shared) (σ:St) (H:Hp) (Q:VK),Inv X pins σ H s→t σ H Q →
  wpAny (model X.prog X.w) X.A (eval a X.env) (fun v s₁=>wpAny (model X.prog X.w) X.A (eval b X.env) (fun u s₂=>wpAny (model X.prog X.w) X.A (compareOp op v u) (EP X pins σ Q) X.xe s₂) X.xe s₁) X.xe s
theorem vP(b:Expr){op:CmpOp}(h:op≠.In)(h2:op≠.NotIn):behindInMarks op b=false:=by
 have e1:(op == CmpOp.In)=false:=by cases op<;>first|rfl|exact absurd rfl h
 have e2:(op == CmpOp.NotIn)=false:=by cases op<;>first|rfl|exact absurd rfl h2
 cases b<;>simp[behindInMarks,e1,e2]
noncomputable def tB(t:TE):TT:=fun σ H Q=>t σ H fun x H1=>∃c,x=.bl c∧Q c H1
theorem ZL{op:CmpOp}{t:TE}(h:PC X op a b t)(h1:behindInMarks op b=false:=by first|exact vP _ (by decide) (by decide)|rfl):PE X (.Compare a [op] [b] pos) t:=fun pins s σ H Q I hw=>wpAny_Compare1 (h pins s σ H Q I hw) h1
theorem YX{op:CmpOp}{t:TE}(h:PC X op a b t)(h1:behindInMarks op b=false:=by first|exact vP _ (by decide) (by decide)|rfl):PT X (.Compare a [op] [b] pos) (tB t):=by
 intro pins s σ H Q I hw;refine wpAny_isTrue_Compare1 (af (h pins s σ H _ I hw) fun v s1 h1=>af h1 fun u s2 h2=>af h2 fun c s3 ⟨x,H1,I1,r1,q1⟩=>?_) h1
 obtain⟨d,rfl,q⟩:=q1;cases r1;exact wpAny_truthy_bool ⟨H1,I1,q⟩
theorem YW{e:Expr}{t:TE}(h:PE X e t)(he:∀whole,isTrue e X.env whole=(do let v ←whole;standAt e.pos;holding [v] (truthy v)):=by intro _;rfl):PT X e (tB t):=by
 intro pins s σ H Q I hw;refine isTrue_plain (af (h pins s σ H _ I hw) fun v s1 ⟨x,H1,I1,r1,q1⟩=>?_) (he _)
 obtain⟨d,rfl,q⟩:=q1;cases r1;exact wpAny_truthy_bool ⟨H1,I1,q⟩
variable {tA tB':TT}{rest:List Expr}
noncomputable def aHk(t u:TT):TT:=fun σ H Q=>t σ H fun c H1=>if c=true then u σ H1 Q else Q false H1
noncomputable def tOr(t u:TT):TT:=fun σ H Q=>t σ H fun c H1=>if c=true then Q true H1 else u σ H1 Q
noncomputable def aCt(t:TT):TT:=fun σ H Q=>t σ H fun c H1=>Q (!c) H1
theorem QK(ha:PT X a tA):PW X (.BoolOp .And [a] pos) tA:=by
 intro wh pins s σ H Q I h;refine isTrue_and (af (ha pins s σ H Q I h) fun c s1 e=>?_)
 cases c with
 |true=>exact isTrue_and_nil e
 |false=>exact e
theorem HX(ha:PT X a tA):PW X (.BoolOp .Or [a] pos) tA:=by
 intro wh pins s σ H Q I h;refine isTrue_or (af (ha pins s σ H Q I h) fun c s1 e=>?_)
 cases c with
 |false=>exact isTrue_or_nil e
 |true=>exact e
theorem HZ(ha:PT X a tA)(hb:PW X (.BoolOp .And (b::rest) pos) tB'):PW X (.BoolOp .And (a::b::rest) pos) (aHk tA tB'):=by
 intro wh pins s σ H Q I h;refine isTrue_and (af (ha pins s σ H _ I h) fun c s1 ⟨H1,I1,q1⟩=>?_)
 cases c with
 |true=>exact hb wh pins s1 σ H1 Q I1 q1
 |false=>exact⟨H1,I1,q1⟩
theorem HY(ha:PT X a tA)(hb:PW X (.BoolOp .Or (b::rest) pos) tB'):PW X (.BoolOp .Or (a::b::rest) pos) (tOr tA tB'):=by
 intro wh pins s σ H Q I h;refine isTrue_or (af (ha pins s σ H _ I h) fun c s1 ⟨H1,I1,q1⟩=>?_)
 cases c with
 |true=>exact⟨H1,I1,q1⟩
 |false=>exact hb wh pins s1 σ H1 Q I1 q1
theorem IF(ha:PT X a tA):PT X (.UnaryOp .Not a pos) (aCt tA):=by
 intro pins s σ H Q I h;exact isTrue_not (ha pins s σ H (fun c H1=>Q (!c) H1) I h)
def aCw(ta tb:TE):TE:=fun σ H Q=>ta σ H fun x H1=>∃c,x=.bl c∧if c=true then tb σ H1 Q else Q (.bl false) H1
def aHf(ta tb:TE):TE:=fun σ H Q=>ta σ H fun x H1=>∃c,x=.bl c∧if c=true then Q (.bl true) H1 else tb σ H1 Q
theorem ZG{op}{t:TE}(h:PE X a t):PE X (.BoolOp op [a] pos) t:=fun pins s σ H Q I hw=>BoolOp_one (h pins s σ H Q I hw)
theorem IT(ha:PE X a ta)(hb:PE X (.BoolOp .And (b::rest) pos) tb):PE X (.BoolOp .And (a::b::rest) pos) (aCw ta tb):=by
 intro pins s σ H Q I h;refine BoolOp_and (af (ha pins s σ H _ I h) fun v s1 ⟨x,H1,I1,r1,q1⟩=>?_)
 obtain⟨c,rfl,q1⟩:=q1;cases r1;refine wpAny_truthy_bool ?_;cases c with
 |true=>exact hb pins s1 σ H1 Q I1 q1
 |false=>exact⟨.bl false,H1,I1,rfl,q1⟩
theorem VC(ha:PE X a ta)(hb:PE X (.BoolOp .Or (b::rest) pos) tb):PE X (.BoolOp .Or (a::b::rest) pos) (aHf ta tb):=by
 intro pins s σ H Q I h;refine BoolOp_or (af (ha pins s σ H _ I h) fun v s1 ⟨x,H1,I1,r1,q1⟩=>?_)
 obtain⟨c,rfl,q1⟩:=q1;cases r1;refine wpAny_truthy_bool ?_;cases c with
 |false=>exact hb pins s1 σ H1 Q I1 q1
 |true=>exact⟨.bl true,H1,I1,rfl,q1⟩
def tIf(t:TT)(ta tb:TE):TE:=fun σ H Q=>t σ H fun c H1=>if c=true then ta σ H1 Q else tb σ H1 Q
theorem vL{c:Expr}(hc:PT X c tA)(ha:PE X a ta)(hb:PE X b tb):PE X (.IfExp c a b pos) (tIf tA ta tb):=by
 intro pins s σ H Q I h;refine wpAny_IfExp (af (hc pins s σ H _ I h) fun d s1 ⟨H1,I1,q1⟩=>?_)
 cases d with
 |true=>exact ha pins s1 σ H1 Q I1 q1
 |false=>exact hb pins s1 σ H1 Q I1 q1
end
def SqL(K:vi)(H:Hp)(a:Addr)(xs:List V):Prop:=
 Rd H a (.lst xs) ∨
  ∃(o:Obj) (its:Array Value) (n:Nat),K.lookup a=some o∧o.cls=.type "list"∧o.dict=none∧o.data=.seq its n∧its.size≤sizeLine∧aQ xs its.toList
def SqT(K:vi)(H:Hp)(a:Addr)(xs:List V):Prop:=
 Rd H a (.tup xs) ∨
  ∃(o:Obj) (its:Array Value) (n:Nat),K.lookup a=some o∧o.cls=.type "tuple"∧o.data=.seq its n∧its.size≤sizeLine∧aQ xs its.toList
noncomputable def aIx:Value→Option V
 |.none=>some .non
 |.bool b=>some (.bl b)
 |.int i _=>some (.int i)
 |.str x _=>some (.str x)
 |.bytes b _=>some (.byt b)
 |.float b _=>some (.flt b)
 |.ref a=>some (.ref a)
 |.type n=>some (.ty n)
 |_=>none
theorem RelV.abs{x:V}{u:Value}(r:RelV x u):aIx u=some x:=by
 cases x with
 |non=>cases r;rfl
 |bl _=>cases r;rfl
 |int _=>obtain⟨t,rfl⟩:=r;rfl
 |str _=>obtain⟨t,rfl⟩:=r;rfl
 |byt _=>obtain⟨t,rfl⟩:=r;rfl
 |flt _=>obtain⟨t,rfl⟩:=r;rfl
 |ref _=>cases r;rfl
 |ty _=>cases r;rfl
theorem RelV.inj{x y:V}{u:Value}(r:RelV x u)(q:RelV y u):x=y:=rn (r.abs.symm.trans q.abs)
theorem aQ.inj:∀{xs ys:List V} {us:List Value},aQ xs us→aQ ys us→xs=ys
 |_,_,_,.nil,.nil=>rfl
 |_,_,_,.cons r t,.cons r' t'=>by rw[r.inj r',aQ.inj t t']
section
variable {X:Cx}{pins:vn}{σ:St}{H:Hp}{s:Shared}{a:Addr}{xs ys:List V}
theorem SqL.of{K:vi}(h:H a=some (.lst xs)):SqL K H a xs:=.inl (.inl h)
theorem SqT.of{K:vi}(h:H a=some (.tup xs)):SqT K H a xs:=.inl (.inl h)
theorem Inv.list(I:Inv X pins σ H s)(h:SqL X.K H a xs):∃its:List Value,aQ xs its∧PlainL s.heap a its.toArray∧xs.length≤sizeLine:=by
 rcases h with h|⟨o,its,n,hk,hc,hd,hs,hz,r⟩
 ·obtain⟨z,its,n,r,e⟩:=h.ok I.hok;exact⟨its,r,⟨_,n,e,rfl,rfl,rfl⟩,z⟩
 ·refine⟨its.toList,r,⟨o,n,I.kIn a o hk,hc,hd,by simpa using hs⟩,?_⟩
  have e:=r.length
  simp only[length_toList]at e;lia
theorem Inv.tuple(I:Inv X pins σ H s)(h:SqT X.K H a xs):∃its:List Value,aQ xs its∧IsTup s.heap a its.toArray∧xs.length≤sizeLine:=by
 rcases h with h|⟨o,its,n,hk,hc,hs,hz,r⟩
 ·obtain⟨z,its,r,p⟩:=h.ok I.hok;exact⟨its,r,p,z⟩
 ·refine⟨its.toList,r,⟨o,I.kIn a o hk,hc,n,by simpa using hs⟩,?_⟩
  have e:=r.length
  simp only[length_toList]at e;lia
theorem Inv.list_inj(I:Inv X pins σ H s)(h:SqL X.K H a xs)(h':SqL X.K H a ys):xs=ys:=by
 obtain⟨its,r,⟨o,n,e,_,_,d⟩,_⟩:=I.list h;obtain⟨its',r',⟨o',n',e',_,_,d'⟩,_⟩:=I.list h';rw[e]at e';cases e';rw[d]at d';injection d' with d1 _
 have:its=its':=by simpa using congrArg Array.toList d1
 subst this;exact r.inj r'
theorem Inv.tuple_inj(I:Inv X pins σ H s)(h:SqT X.K H a xs)(h':SqT X.K H a ys):xs=ys:=by
 obtain⟨its,r,⟨o,e,_,n,d⟩,_⟩:=I.tuple h;obtain⟨its',r',⟨o',e',_,n',d'⟩,_⟩:=I.tuple h';rw[e]at e';cases e';rw[d]at d';injection d' with d1 _
 have:its=its':=by simpa using congrArg Array.toList d1
 subst this;exact r.inj r'
end
abbrev Cx.wish(X:Cx)(E:vm):Cx:={ X with xe:=E }
abbrev Cx.nox(X:Cx):Cx:=X.wish fun _ _=>False
theorem Cx.Ok.wish{X:Cx}(ok:X.Ok)(E:vm):(X.wish E).Ok:=
 ⟨ok.mod,ok.kind,ok.glob,ok.blt,ok.above,ok.inj,ok.has,ok.cab,ok.hd,ok.frames,ok.stk,ok.exf,ok.bs,ok.bsz,ok.noex,ok.exfs,ok.funs,ok.frf⟩
theorem Cx.Ok.unwish{X:Cx}{E:vm}(ok:(X.wish E).Ok):X.Ok:=
 ⟨ok.mod,ok.kind,ok.glob,ok.blt,ok.above,ok.inj,ok.has,ok.cab,ok.hd,ok.frames,ok.stk,ok.exf,ok.bs,ok.bsz,ok.noex,ok.exfs,ok.funs,ok.frf⟩
section
variable {X:Cx}{pins:vn}{σ:St}{H:Hp}{s:Shared}{E:vm}
theorem Inv.wish(I:Inv X pins σ H s)(E:vm):Inv (X.wish E) pins σ H s:=⟨I.ok.wish E,I.os,I.bare,I.base,I.loc,I.cell,I.free,I.freeC,I.pin,I.hok,I.len⟩
theorem Inv.unwish(I:Inv (X.wish E) pins σ H s):Inv X pins σ H s:=⟨I.ok.unwish,I.os,I.bare,I.base,I.loc,I.cell,I.free,I.freeC,I.pin,I.hok,I.len⟩
theorem SP.unwish{D:Ends}{f:Flow}{s':Shared}(h:SP (X.wish E) pins D f s'):SP X pins D f s':=by
 cases f with
 |next=>obtain⟨σ',H',I,q⟩:=h;exact⟨σ',H',I.unwish,q⟩
 |brk=>obtain⟨σ',H',I,q⟩:=h;exact⟨σ',H',I.unwish,q⟩
 |cont=>obtain⟨σ',H',I,q⟩:=h;exact⟨σ',H',I.unwish,q⟩
 |ret u=>obtain⟨v,σ',H',I,r,q⟩:=h;exact⟨v,σ',H',I.unwish,r,q⟩
theorem PSs.nox{st:List Stmt}{t:TS}(h:PSs X.nox st t):PSs X st t:=fun pins s σ H D I hw =>
 uj (h pins s σ H D (I.wish _) hw) (fun _ _ q=>q.unwish) fun _ _ z=>False.elim z
end
section
variable {X:Cx}{st:Stmt}{rest:List Stmt}{t u:TS}{e:Expr}{te:TE}{pos:Pos}
def UU:TS:=fun D σ H=>D.nx σ H
def aHe(t u:TS):TS:=fun D σ H=>t { D with nx:=u D } σ H
theorem rV:PSs X [] UU:=fun _ _ σ H _ I h=>wpAny_execs_nil ⟨σ,H,I,h⟩
theorem iP(h1:PS X st t)(h2:PSs X rest u):PSs X (st::rest) (aHe t u):=by
 intro pins s σ H D I h;refine wpAny_execs_cons (af (h1 pins s σ H { D with nx:=u D } I h) fun f s1 q=>?_)
 cases f with
 |next =>
  obtain⟨σ',H',I',q⟩:=q;exact h2 pins s1 σ' H' D I' q
 |ret v=>exact q
 |brk=>exact q
 |cont=>exact q
theorem jH(h1:PS X st t):PSs X [st] t:=by
 intro pins s σ H D I h;refine wpAny_execs_cons (af (h1 pins s σ H D I h) fun f s1 q=>?_)
 cases f with
 |next=>exact wpAny_execs_nil q
 |ret v=>exact q
 |brk=>exact q
 |cont=>exact q
theorem QM:PS X (.Pass pos) UU:=fun _ _ σ H _ I h=>wpAny_Pass ⟨σ,H,I,h⟩
theorem Inv.quiet{pins:vn}{σ:St}{H:Hp}{s:Shared}(I:Inv X pins σ H s):interactive X.env=false:=by simp[interactive,I.ok.kind]
def UV(te:TE):TS:=fun D σ H=>te σ H fun _ H1=>D.nx σ H1
theorem jI(he:PE X e te)(hs:swapsWith e none pos.line X.env=pure false:=by rfl):PS X (.Expr e pos) (UV te):=by
 intro pins s σ H D I h;exact wpAny_Expr_any (af (he pins s σ H _ I h) fun v s1 ⟨x,H1,I1,r1,q1⟩=>⟨σ,H1,I1,q1⟩) I.quiet hs
def aCr(te:TE):TS:=fun D σ H=>te σ H D.rt
theorem iQ(he:PE X e te):PS X (.Return (some e) pos) (aCr te):=by
 intro pins s σ H D I h;exact wpAny_Return_some (af (he pins s σ H _ I h) fun v s1 ⟨x,H1,I1,r1,q1⟩=>⟨x,σ,H1,I1,r1,q1⟩)
def aCq:TS:=fun D _ H=>D.rt .non H
theorem QL:PS X (.Return none pos) aCq:=fun _ _ σ H _ I h=>wpAny_Return_none ⟨.non,σ,H,I,rfl,h⟩
def aHg(c:TT)(t u:TS):TS:=fun D σ H=>c σ H fun b H1=>if b=true then t D σ H1 else u D σ H1
theorem VB{c:Expr}{a b:List Stmt}{tc:TT}(hc:PT X c tc)(ha:PSs X a t)(hb:PSs X b u):PS X (.If c a b pos) (aHg tc t u):=by
 intro pins s σ H D I h;refine wpAny_If (af (hc pins s σ H _ I h) fun d s1 ⟨H1,I1,q1⟩=>?_)
 cases d with
 |true=>exact ha pins s1 σ H1 D I1 q1
 |false=>exact hb pins s1 σ H1 D I1 q1
end
abbrev TG:=V→St→Hp→(St→Hp→Prop)→Prop
abbrev jw:=List V→St→Hp→(St→Hp→Prop)→Prop
def PG(X:Cx)(target:Expr)(t:TG):Prop:=
 ∀(pins:vn) (s:Shared) (σ:St) (H:Hp) (v:V) (u:Value) (Q:St→Hp→Prop),Inv X pins σ H s→RelV v u→t v σ H Q →
  wpAny (model X.prog X.w) X.A (assign target X.env u) (fun _ s'=>∃σ' H',Inv X pins σ' H' s'∧Q σ' H') X.xe s
def qh(X:Cx)(ts:List Expr)(t:jw):Prop:=
 ∀(pins:vn) (s:Shared) (σ:St) (H:Hp) (vs:List V) (us:List Value) (Q:St→Hp→Prop),Inv X pins σ H s→aQ vs us→t vs σ H Q →
  wpAny (model X.prog X.w) X.A (assignInOrder ((assignEach ts X.env).map (·.2)) us) (fun _ s'=>∃σ' H',Inv X pins σ' H' s'∧Q σ' H') X.xe s
abbrev aBl:=V→V→V→Hp→(Hp→Prop)→Prop
def aGg(X:Cx)(t:aBl):Prop:=
 ∀(pins:vn) (s:Shared) (σ:St) (H:Hp) (o i v:V) (ov iv u:Value) (Q:Hp→Prop),Inv X pins σ H s→RelV o ov→RelV i iv→RelV v u→t o i v H Q →
  wpAny (model X.prog X.w) X.A (setItem ov iv u) (fun _ s'=>∃H',Inv X pins σ H' s'∧Q H') X.xe s
section
variable {X:Cx}{pos:Pos}
def qO(i:Nat):TG:=fun v σ H Q=>Q (σ.set i (some v)) H
theorem AI{i:Nat}{x:Str}(hN:X.N.Nodup)(hi:X.N[i]?=some x)(hx:Loc X.env.scope x)(hf:X.fn x=true∨X.env.scope.names.lookup x=some .local:=by first|exact .inl rfl|exact .inr rfl|assumption):PG X (.Name x pos) (qO i):=by
 intro pins s σ H v u Q I r h;exact wpAny_assign_Name (nM I hN hi hx r (fun s' I'=>⟨_,H,I',h⟩) hf)
noncomputable def aIk:jw:=fun vs σ H Q=>vs=[]∧Q σ H
noncomputable def aFp(t:TG)(u:jw):jw:=fun vs σ H Q=>∃v r,vs=v::r∧t v σ H fun σ' H'=>u r σ' H' Q
theorem QW:qh X [] aIk:=by
 intro pins s σ H vs us Q I r h;obtain⟨e,h⟩:=h;subst e;cases r;exact assignInOrder_nil ⟨σ,H,I,h⟩
theorem IL{e:Expr}{es:List Expr}{t:TG}{u:jw}(h1:PG X e t)(h2:qh X es u)
  (hs:(assignEach (e::es) X.env).map (·.2)=assign e X.env::(assignEach es X.env).map (·.2):=by rfl):qh X (e::es) (aFp t u):=by
 intro pins s σ H vs us Q I r h;obtain⟨v,vr,e1,h⟩:=h;subst e1;cases r with
 |cons r rr =>
  rw[hs];refine assignInOrder_cons (af (h1 pins s σ H _ _ _ I r h) fun _ s1 ⟨σ1,H1,I1,q1⟩=>?_)
  exact h2 pins s1 σ1 H1 _ _ Q I1 rr q1
def aIi(K:vi)(n:Nat)(t:jw):TG:=fun v σ H Q=>∃a xs,v=.ref a∧SqT K H a xs∧xs.length=n∧t xs σ H Q
theorem ZC{es:List Expr}{k:Nat}{t:jw}{n:Nat}(hc:X.calm=true)(h:qh X es t)
  (hn:(assignEach es X.env).length=n:=by rfl) (eg:(assignEach es X.env).findIdx? (·.1)=none:=by rfl):PG X (.Tuple es k pos) (aIi X.K n t):=by
 intro pins s σ H v u Q I r hw;obtain⟨a,xs,e1,hq,hl,hw⟩:=hw;subst e1;cases r;obtain⟨its,rv,ht,hz⟩:=I.tuple hq;refine assign_Tuple_tuple (I.ok.hd hc) ht (by simp[hn,←hl,rv.length]) eg fun h' hx=>?_
 have I1:Inv X pins σ H { s with heap:=h' }:=I.kept (t':=s.toks) fun b o e=>hx b o (uc (sq e)) e
 exact h pins _ σ H xs _ Q I1 (by simpa using rv) hw
def aIj(to ti:TE)(t:aBl):TG:=fun v σ H Q=>to σ H fun o H1=>ti σ H1 fun i H2=>t o i v H2 fun H3=>Q σ H3
theorem ZD{o i:Expr}{to ti:TE}{t:aBl}(ho:PE X o to)(hi:PE X i ti)(hs:aGg X t)
  (ha:∀v,assign (.Subscript o i pos) X.env v=(do
   let ov ←holding [v] (eval o X.env)
   let iv ←holding [v,ov] (eval i X.env)
   standAt pos
   holding [v,ov,iv] (setItem ov iv v)
   release [v,ov,iv] []):=by intro _;rfl):PG X (.Subscript o i pos) (aIj to ti t):=by
 intro pins s σ H v u Q I r h;rw[ha];refine uh (wpAny_holding (af (ho pins s σ H _ I h) fun ov s1 ⟨x,H1,I1,r1,q1⟩=>?_))
 refine uh (wpAny_holding (af (hi pins s1 σ H1 _ I1 q1) fun iv s2 ⟨y,H2,I2,r2,q2⟩=>?_))
 refine uh (wpAny_standAt (uh (wpAny_holding (af (hs pins s2 σ H2 x y v ov iv u _ I2 r1 r2 r q2) fun _ s3 ⟨H3,I3,q3⟩=>?_))))
 exact wpAny_release ⟨σ,H3,I3,q3⟩
def OP(te:TE)(g:TG):TS:=fun D σ H=>te σ H fun x H1=>g x σ H1 D.nx
theorem IH{tg e:Expr}{te:TE}{g:TG}(he:PE X e te)(hg:PG X tg g)(hs:swapsWithSole [tg] e pos.line X.env=pure false:=by rfl)(hw:swappedStores [tg] e X.env=pure none:=by rfl)
  (h1:(assignEach [tg] X.env).map (·.2)=[assign tg X.env]:=by rfl):PS X (.Assign [tg] e pos) (OP te g):=by
 intro pins s σ H D I h;refine wpAny_Assign_stores (af (he pins s σ H _ I h) fun v s1 ⟨x,H1,I1,r1,q1⟩=>?_) hs hw
 rw[h1];exact af (hg pins s1 σ H1 x v _ I1 r1 q1) fun _ s2 q=>q
theorem nR{i:Nat}{x:Str}{e:Expr}{te:TE}{pos':Pos}(hN:X.N.Nodup)(hi:X.N[i]?=some x)(hx:Loc X.env.scope x)(he:PE X e te)(hs:swapsWith e (some (.Name x pos')) pos.line X.env=pure false:=by rfl)(hf:X.fn x=true∨X.env.scope.names.lookup x=some .local:=by first|exact .inl rfl|exact .inr rfl|assumption) :
  PS X (.Assign [.Name x pos'] e pos) (OP te (qO i)):=by
 intro pins s σ H D I h;refine wpAny_Assign_Name (af (he pins s σ H _ I h) fun v s1 ⟨y,H1,I1,r1,q1⟩=>?_) hs
 exact nM I1 hN hi hx r1 (fun s2 I2=>⟨_,H1,I2,q1⟩) hf
end
section
variable {X:Cx}{pos:Pos}
end
structure It where
 go:Nat→Hp→Prop
 yld:Nat→Hp→V→Hp→Prop
 stop:Nat→Hp→Prop
def lB(X:Cx)(pins:vn)(H:Hp)(b:Addr):Prop:=
 H b=none∧b≠X.env.locals∧b∉X.fs∧(b∈X.ex∨X.s₀.heap.objs.size≤b)∧(∀x c,X.env.cells.lookup x=some c→c≠b)∧∀p∈X.pn++pins,p.1≠b
theorem Inv.fpOk{X:Cx}{pins:vn}{σ:St}{H H':Hp}{s:Shared}{b:Addr}(I:Inv X pins σ H s)(hb:s.heap.objs.size≤b)(hn:H' b=none):lB X pins H' b:=by
 refine⟨hn,Nat.ne_of_gt (sf I.lt hb),I.nofs hb,.inr (sr I.sz hb),fun x c e z=>?_,fun p hp z=>?_⟩
 ·obtain⟨v,q⟩:=I.cell x c e;exact absurd (sf q.lt (by rw[z];exact hb)) (ug _)
 ·exact absurd (sf (sq (I.pin p hp).1) (by rw[z];exact hb)) (ug _)
structure Turn (P:vk) (w:World) (K:vi) (tg:Expr) (J:It) (fp:List Addr) (it:Addr) (tn:Nat→Heap→Prop):Prop where
 mem:it∈fp
 obj:∀i h,tn i h→∀b∈fp,∃o,h.get? b=some o∧∀v,o.data≠.cell v
 keep:∀i h h',tn i h→(∀b∈fp,∀o,h.get? b=some o→h'.get? b=some o)→tn i h'
 item:∀(X:Cx),X.prog=P→X.w=w→X.K=K→X.calm=true→∀(i:Nat) (pins:vn) (s:Shared) (σ:St) (H:Hp) (E:vm),Inv X pins σ H s→(∀b∈fp,lB X pins H b)→tn i s.heap→J.go i H →
  wpAny (model P w) X.A (pyNext (.ref it)) (fun r s1=>∃u,r=some u ∧
   wpAny (model P w) X.A (letOwnedTupleGo tg (.ref it) u) (fun _ s2=>∃x H',Inv X pins σ H' s2∧RelV x u∧J.yld i H x H'∧tn (i+1) s2.heap∧∀b∈fp,H' b=none) E s1) E s
 done:∀(X:Cx),X.prog=P→X.w=w→X.K=K→X.calm=true→∀(i:Nat) (pins:vn) (s:Shared) (σ:St) (H:Hp) (E:vm),Inv X pins σ H s→(∀b∈fp,lB X pins H b)→tn i s.heap→J.stop i H →
  wpAny (model P w) X.A (pyNext (.ref it)) (fun r s1=>r=none∧Inv X pins σ H s1) E s
 self:∀(A:Around) (i:Nat) (s:Shared) (Q:vm) (E:vm),tn i s.heap→Q (.ref it) s→wpAny (model P w) A (pyIter (.ref it)) Q E s
abbrev TI:=St→Hp→(It→Hp→Prop)→Prop
def PIE(X:Cx)(pins:vn)(σ:St)(tg:Expr)(R:It→Hp→Prop)(itv:Value)(s2:Shared):Prop:=
 ∃(it:Addr) (fp:List Addr) (tn:Nat→Heap→Prop) (J:It) (H':Hp),itv=.ref it∧Inv X pins σ H' s2∧Turn X.prog X.w X.K tg J fp it tn∧tn 0 s2.heap∧(∀b∈fp,lB X pins H' b)∧R J H'
def PI(X:Cx)(tg iter:Expr)(wi:TI):Prop:=
 ∀(pins:vn) (s:Shared) (σ:St) (H:Hp) (R:It→Hp→Prop),Inv X pins σ H s→wi σ H R →
  wpAny (model X.prog X.w) X.A (eval iter X.env) (fun v s1=>wpAny (model X.prog X.w) X.A (pyIter v) (PIE X pins σ tg R) X.xe s1) X.xe s
theorem BG{M:Model}{A:Around}{E:vm}{s:Shared}{tg:Expr}{it:Addr}{u:Value}{o:Obj}{n:String}{vs:Array Value}{Q:Unit→Shared→Prop}(ho:s.heap.get? it=some o)(hc:o.cls=.type n)(hd:o.data=.fields vs)
  (hn:["enumerate","zip","dict_itemiterator","dict_reverseitemiterator","odict_iterator","itertools.zip_longest","itertools.pairwise"].contains n=false) (hQ:Q () s):wpAny M A (letOwnedTupleGo tg (.ref it) u) Q E s:=by
 unfold letOwnedTupleGo;cases tg<;>first
  |exact ui hQ
  | (cases u<;>first
    |exact ui hQ
    | (refine uh (wpAny_load ho ?_)
       rw[hc,hd];show wpAny M A (if (["enumerate","zip","dict_itemiterator","dict_reverseitemiterator","odict_iterator","itertools.zip_longest","itertools.pairwise"].contains n&&vs[0]? == some (rawInt _))=true then _ else _) Q E s
       rw[if_neg (by intro h;rw[hn,Bool.false_and]at h;cases h)]
       exact ui hQ))
noncomputable def Itl(K:vi)(a:Addr):It:=
 ⟨fun i H=>∃xs x,SqL K H a xs∧xs[i]?=some x,fun i H x H'=>H'=H∧∀xs,SqL K H a xs→xs[i]?=some x,fun i H=>∃xs,SqL K H a xs∧xs.length≤i⟩
noncomputable def Itt(K:vi)(a:Addr):It:=
 ⟨fun i H=>∃xs x,SqT K H a xs∧xs[i]?=some x,fun i H x H'=>H'=H∧∀xs,SqT K H a xs→xs[i]?=some x,fun i H=>∃xs,SqT K H a xs∧xs.length≤i⟩
noncomputable def nq(lo:Int)(n:Nat):It:=⟨fun i _=>i<n,fun i H x H'=>H'=H∧x=.int (lo+i),fun i _=>n≤i⟩
theorem EB{P:vk}{w:World}{K:vi}{tg:Expr}(a it:Addr):Turn P w K tg (Itl K a) [it] it (fun i h=>h.IsListIter it a i) where
 mem:=by simp
 obj:=fun i h st b hb=>by
  have e:b=it:=by simpa using hb
  subst e;obtain⟨o,e,c,d⟩:=st;exact⟨o,e,fun v z=>by rw[d]at z;cases z⟩
 keep:=fun i h h' st k=>st.at fun o e=>k it (by simp) o e
 item:=by
  intro X hP hw hK hc i pins s σ H E I hf st hg;subst hP hw hK;obtain⟨xs,x,hq,hx⟩:=hg;obtain⟨its,rv,p,hz⟩:=I.list hq;obtain⟨u,hu,ru⟩:=rv.get hx;obtain⟨f0,f1,f2,f3,f4,f5⟩:=hf it (by simp)
  refine wpAny_pyNext_list_item st p.isList (x:=u) (by simpa using hu) fun h' ae sb=>?_
  have I1:Inv X pins σ H { s with heap:=h' }:=I.turned (t':=s.toks) (fun b o hb e=>(sb.2 b hb).trans e) f0 f1 f3 f4 f5
  obtain⟨o,e,c,d⟩:=id ae;exact⟨u,rfl,BG (s:={ s with heap:=h' }) e c d (by decide) ⟨x,H,I1,ru,⟨rfl,fun ys hy=>by rw[I.list_inj hy hq];exact hx⟩,ae,fun b hb=>(hf b hb).1⟩⟩
 done:=by
  intro X hP hw hK hc i pins s σ H E I hf st hg;subst hP hw hK;obtain⟨xs,hq,hx⟩:=hg;obtain⟨its,rv,p,hz⟩:=I.list hq;obtain⟨f0,f1,f2,f3,f4,f5⟩:=hf it (by simp)
  have hl:=rv.length
  exact wpAny_pyNext_list_end (I.ok.hd hc) st p.isList (by simp;lia) fun h' eb=>⟨rfl,I.turned (t':=s.toks) (fun b o hb e=>eb b o hb e) f0 f1 f3 f4 f5⟩
 self:=fun _ _ _ _ _ st h=>wpAny_pyIter_listiter st h
theorem xO{P:vk}{w:World}{K:vi}{tg:Expr}(a it:Addr):Turn P w K tg (Itt K a) [it] it (fun i h=>h.IsTupleIter it a i) where
 mem:=by simp
 obj:=fun i h st b hb=>by
  have e:b=it:=by simpa using hb
  subst e;obtain⟨o,e,c,d⟩:=st;exact⟨o,e,fun v z=>by rw[d]at z;cases z⟩
 keep:=fun i h h' st k=>st.at fun o e=>k it (by simp) o e
 item:=by
  intro X hP hw hK hc i pins s σ H E I hf st hg;subst hP hw hK;obtain⟨xs,x,hq,hx⟩:=hg;obtain⟨its,rv,p,hz⟩:=I.tuple hq;obtain⟨u,hu,ru⟩:=rv.get hx;obtain⟨f0,f1,f2,f3,f4,f5⟩:=hf it (by simp)
  refine wpAny_pyNext_tuple_item st (show s.heap.IsTuple a its.toArray from p) (x:=u) (by simpa using hu) fun h' ae sb=>?_
  have I1:Inv X pins σ H { s with heap:=h' }:=I.turned (t':=s.toks) (fun b o hb e=>(sb.2 b hb).trans e) f0 f1 f3 f4 f5
  obtain⟨o,e,c,d⟩:=id ae;exact⟨u,rfl,BG (s:={ s with heap:=h' }) e c d (by decide) ⟨x,H,I1,ru,⟨rfl,fun ys hy=>by rw[I.tuple_inj hy hq];exact hx⟩,ae,fun b hb=>(hf b hb).1⟩⟩
 done:=by
  intro X hP hw hK hc i pins s σ H E I hf st hg;subst hP hw hK;obtain⟨xs,hq,hx⟩:=hg;obtain⟨its,rv,p,hz⟩:=I.tuple hq;obtain⟨f0,f1,f2,f3,f4,f5⟩:=hf it (by simp)
  have hl:=rv.length
  exact wpAny_pyNext_tuple_end (I.ok.hd hc) st (show s.heap.IsTuple a its.toArray from p) (by simp;lia) fun h' eb=>⟨rfl,I.turned (t':=s.toks) (fun b o hb e=>eb b o hb e) f0 f1 f3 f4 f5⟩
 self:=fun _ _ _ _ _ st h=>wpAny_pyIter_tupleiter st h
theorem xP{P:vk}{w:World}{K:vi}{tg:Expr}(it:Addr)(lo:Int)(n:Nat):Turn P w K tg (nq lo n) [it] it (fun i h=>IsRangeIter h it (lo+(i:Nat)*1) ((n:Int)-(i:Nat)) 1) where
 mem:=by simp
 obj:=fun i h st b hb=>by
  have e:b=it:=by simpa using hb
  subst e;exact⟨_,st,fun v z=>by
   have z':Data.fields _=Data.cell v:=z
   cases z'⟩
 keep:=fun i h h' st k=>k it (by simp) _ st
 item:=by
  intro X hP hw hK hc i pins s σ H E I hf st hg;subst hP hw hK;obtain⟨f0,f1,f2,f3,f4,f5⟩:=hf it (by simp)
  have W:=Walks.range (prog:=X.prog) (w:=X.w) (I.ok.hd hc) it lo 1 n
  refine W.item i s _ _ hg st fun v h' tk hv ae kk=>?_
  obtain⟨t,rfl⟩:=hv;have I1:Inv X pins σ H { s with heap:=h',toks:=tk }:=I.turned (fun b o hb e=>kk b o (by simpa using hb) e) f0 f1 f3 f4 f5
  refine⟨_,rfl,BG (s:={ s with heap:=h',toks:=tk }) (n:="range_iterator") ae rfl rfl (by decide) ⟨.int (lo+i),H,I1,⟨t,?_⟩,⟨rfl,rfl⟩,ae,fun b hb=>(hf b hb).1⟩⟩
  rw[Int.mul_one]
 done:=by
  intro X hP hw hK hc i pins s σ H E I hf st hg;subst hP hw hK;obtain⟨f0,f1,f2,f3,f4,f5⟩:=hf it (by simp)
  exact wpAny_pyNext_range_end (I.ok.hd hc) st (by have:n≤i:=hg;lia) fun h' eb=>⟨rfl,I.turned (t':=s.toks) (fun b o hb e=>eb b o hb e) f0 f1 f3 f4 f5⟩
 self:=fun _ _ _ _ _ st h=>wpAny_pyIter_rangeiter st h
section
variable {X:Cx}{tg:Expr}
theorem vH{pins:vn}{σ:St}{H:Hp}{s:Shared}{R:It→Hp→Prop}{E:vm}{lo hi:Int}{t u v:Tok}{tk:Nat}(I:Inv X pins σ H s)(h1:-(2 ^ 62)≤lo)(h2:lo<2 ^ 62)(h3:-(2 ^ 62)≤hi)(h4:hi<2 ^ 62)
  (q:R (nq lo (hi-lo).toNat) H):wpAny (model X.prog X.w) X.A (pyIter (.ref s.heap.objs.size)) (PIE X pins σ tg R) E { s with heap:=s.heap.push { cls:=.type "range",data:=.fields #[.int lo t,.int hi u,.int 1 v] },toks:=tk }:=by
 refine wpAny_pyIter_range (IsRange.new ..) (small_one h1 h2 h3 h4) ?_;have I1:Inv X pins σ H { s with heap:=s.heap.push { cls:=.type "range",data:=.fields #[.int lo t,.int hi u,.int 1 v] },toks:=tk }:=I.kept fun b o e=>qz _ e
 refine⟨(s.heap.push { cls:=.type "range",data:=.fields #[.int lo t,.int hi u,.int 1 v] }).objs.size,[(s.heap.push { cls:=.type "range",data:=.fields #[.int lo t,.int hi u,.int 1 v] }).objs.size],_,_,H,rfl,
  I1.kept (t':=tk) fun b o e=>qz _ e,xP _ lo (hi-lo).toNat,?_,fun b hb=>?_,q⟩
 ·have e1:lo+((0:Nat):Int)*1=lo:=by simp
  have e2:(((hi-lo).toNat:Nat):Int)-((0:Nat):Int)=Builtin.Range.rangeSize lo hi 1:=by rw[rangeSize_one];split<;>lia
  show IsRangeIter _ _ (lo+((0:Nat):Int)*1) ((((hi-lo).toNat:Nat):Int)-((0:Nat):Int)) 1
  rw[e1,e2];exact uk _ rfl
 ·have e:b=(s.heap.push { cls:=.type "range",data:=.fields #[.int lo t,.int hi u,.int 1 v] }).objs.size:=by simpa using hb
  subst e;exact I1.fpOk (qw _) (I1.hok.fresh (qw _))
def aFi(ta:TA):TI:=fun σ H R=>ta σ H fun vs H1=>∃j:Int,vs=[.int j]∧-(2 ^ 62)≤j∧j<2 ^ 62∧R (nq 0 j.toNat) H1
def aFh(ta:TA):TI:=fun σ H R=>ta σ H fun vs H1=>∃i j:Int,vs=[.int i,.int j]∧(-(2 ^ 62)≤i∧i<2 ^ 62∧-(2 ^ 62)≤j∧j<2 ^ 62)∧R (nq i (j-i).toNat) H1
theorem ES{a:Expr}{ta:TA}{p pos:Pos}(hg:Gl X "range")(hm:X.mg "range" = none)(ha:PA X [a] ta)(hs:starEach [a] X.env=[(false,eval a X.env)]:=by rfl):PI X tg (.Call (.Name "range" p) [a] [] pos) (aFi ta):=by
 intro pins s σ H R I h;refine Call_ (fU I hg hm boot_range (t7 (af (ha pos pins s σ H _ I h) fun us s1 ⟨vs,H1,I1,r1,q1⟩=>?_) hs rfl))
 obtain⟨j,e,q1,q2,q⟩:=q1;subst e;cases r1 with
 |cons r rr =>
  cases rr;obtain⟨t,rfl⟩:=r;exact call_range_1 (vH I1 (by lia) (by lia) q1 q2 (by simpa using q))
theorem ER{a b:Expr}{ta:TA}{p pos:Pos}(hg:Gl X "range")(hm:X.mg "range" = none)(ha:PA X [a,b] ta)(hs:starEach [a,b] X.env=[(false,eval a X.env),(false,eval b X.env)]:=by rfl)(i7:starEach [b] X.env=[(false,eval b X.env)]:=by rfl) :
  PI X tg (.Call (.Name "range" p) [a,b] [] pos) (aFh ta):=by
 intro pins s σ H R I h;refine Call_ (fU I hg hm boot_range (t7 (af (ha pos pins s σ H _ I h) fun us s1 ⟨vs,H1,I1,r1,q1⟩=>?_) (by rw[hs,i7]) (by rw[i7];rfl)))
 obtain⟨i,j,e,⟨q1,q2,q3,q4⟩,q⟩:=q1;subst e;cases r1 with
 |cons r rr =>
  cases rr with
  |cons r' rr =>
   cases rr;obtain⟨t,rfl⟩:=r;obtain⟨t',rfl⟩:=r';exact call_range_2 (vH I1 q1 q2 q3 q4 q)
def aHh(wi:TI)(g:TG)(tb:TS):TS:=fun D σ H=>wi σ H fun J H1=>∃W:Nat→Nat→St→Hp→Prop,(∃m,W 0 m σ H1)∧∀i m σ H,W i m σ H →
 (J.stop i H∧D.nx σ H)∨(J.go i H∧∃N:St→Hp→Prop,(∀σ' H',N σ' H'→∃m',m'<m∧W (i+1) m' σ' H')∧∀x H',J.yld i H x H'→g x σ H' fun σ2 H2=>tb { D with nx:=N,ct:=N,bk:=D.nx } σ2 H2)
noncomputable def lI(fp:List Addr)(h:Heap):List (Addr×Obj):=fp.filterMap fun b=>(h.get? b).map fun o=>(b,o)
theorem hV{fp:List Addr}{h:Heap}{b:Addr}{o:Obj}(hb:b∈fp)(e:h.get? b=some o):(b,o)∈lI fp h:=mem_filterMap.mpr ⟨b,hb,by rw[e];rfl⟩
theorem EY{fp:List Addr}{h:Heap}{p:Addr×Obj}(hp:p∈lI fp h):p.1∈fp∧h.get? p.1=some p.2:=by
 obtain⟨b,hb,e⟩:=mem_filterMap.mp hp;cases q:h.get? b with
 |none=>rw[q]at e;cases e
 |some o =>
  rw[q]at e;have e':(b,o)=p:=rn e
  subst e';exact⟨hb,q⟩
theorem Inv.pinned{pins:vn}{σ:St}{H:Hp}{s:Shared}{fp:List Addr}(I:Inv X pins σ H s)(hf:∀b∈fp,lB X pins H b)(ho:∀b∈fp,∃o,s.heap.get? b=some o∧∀v,o.data≠.cell v):Inv X (pins++lI fp s.heap) σ H s:=
 I.pins_of fun p hp=>(vh.mp hp).elim (fun z=>I.pin p (ue _ z)) fun z=>by
  obtain⟨hb,e⟩:=EY z;obtain⟨f0,f1,f2,_⟩:=hf p.1 hb;obtain⟨o,e',d⟩:=ho p.1 hb;rw[e]at e';cases e';exact⟨e,f0,f1,f2,d⟩
theorem Inv.unpinned{pins pl:vn}{σ:St}{H:Hp}{s:Shared}(I:Inv X (pins++pl) σ H s):Inv X pins σ H s:=I.pins_of fun p hp=>I.pin p (ue _ (uf _ hp))
theorem YY{iter:Expr}{body:List Stmt}{wi:TI}{g:TG}{tb:TS}{pos:Pos}(hp:PassesOwn (model X.prog X.w) X.A X.env X.xe)(hc:X.calm=true)(hi:PI X tg iter wi)(hg:PG X tg g)(hb:PSs X body tb)
  (hs:∀x,foldedSetIterable iter X.env x=pure x:=by intro _;rfl):PS X (.For tg iter body [] pos) (aHh wi g tb):=by
 intro pins s σ H D I h;refine wpAny_For (af (hi pins s σ H _ I h) fun v s1 h1=>af h1 fun itv s2 h2=>?_) hs
 obtain⟨it,fp,tn,J,H2,e,I2,T,gy,f2,W,⟨m0,w0⟩,turn⟩:=h2;subst e;have fc:∀{H':Hp},(∀b∈fp,H' b=none)→∀b∈fp,lB X pins H' b:=fun hn b hb=>⟨hn b hb,(f2 b hb).2⟩
 refine codeAny_forLoop_any (fun n s'=>∃i σ' H',Inv X pins σ' H' s'∧tn i s'.heap∧(∀b∈fp,H' b=none)∧W i n σ' H') ?_ m0 ⟨0,σ,H2,I2,gy,fun b hb=>(f2 b hb).1,w0⟩
 rintro n s3 ⟨i,σ3,H3,I3,jk,fr3,w3⟩
 rcases turn i n σ3 H3 w3 with ⟨stop,qn⟩|⟨go,N,hN,step⟩
 ·refine wpAny_passesOwn hp (af (T.done X rfl rfl rfl hc i pins s3 σ3 H3 X.xe I3 (fc fr3) jk stop) fun r s4 ⟨hr,I4⟩=>?_)
  subst hr;exact wpAny_execs_nil ⟨σ3,H3,I4,qn⟩
 ·refine wpAny_passesOwn hp (af (T.item X rfl rfl rfl hc i pins s3 σ3 H3 X.xe I3 (fc fr3) jk go) fun r s4 ⟨u,hr,h4⟩=>?_)
  subst hr;refine wpAny_passesOwn hp (af h4 fun _ s5 ⟨x,H5,I5,r5,y5,st5,fr5⟩=>?_)
  have I5':=I5.pinned (fc fr5) (T.obj _ _ st5)
  refine wpAny_passesOwn hp (af (hg _ s5 σ3 H5 x u _ I5' r5 (step x H5 y5)) fun _ s6 ⟨σ6,H6,I6,q6⟩=>?_)
  refine wpAny_passesOwn hp (af (hb _ s6 σ6 H6 _ I6 q6) fun f s7 q7=>?_)
  have again:∀{σ7:St} {H7:Hp},Inv X (pins++lI fp s5.heap) σ7 H7 s7→N σ7 H7→∃m,m<n∧∃i σ' H',Inv X pins σ' H' s7∧tn i s7.heap∧(∀b∈fp,H' b=none)∧W i m σ' H':=fun {σ7 H7} I7 n7=>by
   obtain⟨m',hm,w7⟩:=hN σ7 H7 n7;refine⟨m',hm,i+1,σ7,H7,I7.unpinned,T.keep _ _ _ st5 fun b hb o e=>(I7.pin (b,o) (ue _ (ue _ (hV hb e)))).1,fun b hb=>?_,w7⟩
   obtain⟨o,e,d⟩:=T.obj _ _ st5 b hb;exact(I7.pin (b,o) (ue _ (ue _ (hV hb e)))).2.1
  cases f with
  |next=>obtain⟨σ7,H7,I7,n7⟩:=q7;exact again I7 n7
  |cont=>obtain⟨σ7,H7,I7,n7⟩:=q7;exact again I7 n7
  |brk=>obtain⟨σ7,H7,I7,q7⟩:=q7;exact⟨σ7,H7,I7.unpinned,q7⟩
  |ret v=>obtain⟨x7,σ7,H7,I7,r7,q7⟩:=q7;exact⟨x7,σ7,H7,I7.unpinned,r7,q7⟩
end
abbrev R2:=V→V→Hp→VK→Prop
def ay(X:Cx)(f:Value→Value→Sem Value)(r:R2):Prop:=
 ∀(pins:vn) (s:Shared) (σ:St) (H:Hp) (x y:V) (v u:Value) (Q:VK),Inv X pins σ H s→RelV x v→RelV y u→r x y H Q →
  wpAny (model X.prog X.w) X.A (f v u) (EP X pins σ Q) X.xe s
def fY(X:Cx)(f:Value)(r:List V→Hp→VK→Prop):Prop:=
 ∀(pins:vn) (s:Shared) (σ:St) (H:Hp) (xs:List V) (us:List Value) (Q:VK),Inv X pins σ H s→aQ xs us→r xs H Q →
  wpAny (model X.prog X.w) X.A (call f us) (EP X pins σ Q) X.xe s
def aIy(X:Cx)(r:V→Hp→(Bool→Hp→Prop)→Prop):Prop:=
 ∀(pins:vn) (s:Shared) (σ:St) (H:Hp) (x:V) (v:Value) (Q:Bool→Hp→Prop),Inv X pins σ H s→RelV x v→r x H Q →
  wpAny (model X.prog X.w) X.A (truthy v) (TP X pins σ Q) X.xe s
def jc(r:R2)(ta tb:TE):TE:=fun σ H Q=>ta σ H fun x H1=>tb σ H1 fun y H2=>r x y H2 Q
noncomputable def rI(C:Int→Int→Prop)(g:Int→Int→V):R2:=fun x y H Q=>∃i j,x=.int i∧y=.int j∧C i j∧Q (g i j) H
noncomputable def jl(g:Int→Int→V):R2:=fun x y H Q=>∃i j,x=.int i∧y=.int j∧Q (g i j) H
section
variable {X:Cx}{a b c:Expr}{ta tb tc:TE}{pos:Pos}
theorem aBh(ha:PE X a ta)(hb:PE X b tb){pins:vn}{s:Shared}{σ:St}{H:Hp}{R:V→V→Hp→Prop}(I:Inv X pins σ H s)
  (h:ta σ H fun x H1=>tb σ H1 fun y H2=>R x y H2) {Q:vm} {f:Value→Value→Sem Value}
  (hf:∀v u s2 x y H2,Inv X pins σ H2 s2→RelV x v→RelV y u→R x y H2→wpAny (model X.prog X.w) X.A (f v u) Q X.xe s2) :
  wpAny (model X.prog X.w) X.A (eval a X.env) (fun v s₁=>wpAny (model X.prog X.w) X.A (eval b X.env) (fun u s₂=>wpAny (model X.prog X.w) X.A (f v u) Q X.xe s₂) X.xe s₁) X.xe s:=by
 refine af (ha pins s σ H _ I h) fun v s1 ⟨x,H1,I1,r1,q1⟩=>?_
 refine af (hb pins s1 σ H1 _ I1 q1) fun u s2 ⟨y,H2,I2,r2,q2⟩=>?_
 exact hf v u s2 x y H2 I2 r1 r2 q2
theorem VD{op:Operator}{r:R2}(ho:ay X (binaryOp op) r)(ha:PE X a ta)(hb:PE X b tb):PE X (.BinOp a op b pos) (jc r ta tb):=by
 intro pins s σ H Q I h;exact wpAny_BinOp (aBh ha hb I h fun v u s2 x y H2 I2 rx ry q=>ho pins s2 σ H2 x y v u Q I2 rx ry q)
theorem opI{f:Value→Value→Sem Value}{C:Int→Int→Prop}{g:Int→Int→Int}
  (rule:∀(i j:Int) (t u:Tok) (s:Shared) (Q:vm) (E:vm),C i j→Q (.int (g i j) s.toks) { s with toks:=s.toks+1 }→wpAny (model X.prog X.w) X.A (f (.int i t) (.int j u)) Q E s) :
  ay X f (rI C fun i j=>.int (g i j)):=by
 intro pins s σ H x y v u Q I rx ry h;obtain⟨i,j,rfl,rfl,hc,q⟩:=h;obtain⟨t,rfl⟩:=rx;obtain⟨t',rfl⟩:=ry;exact rule i j t t' s _ _ hc ⟨.int (g i j),H,I.tok _,⟨_,rfl⟩,q⟩
theorem aDU{f:Value→Value→Sem Value}{g:Int→Int→Int}
  (rule:∀(i j:Int) (t u:Tok) (s:Shared) (Q:vm) (E:vm),Q (.int (g i j) s.toks) { s with toks:=s.toks+1 }→wpAny (model X.prog X.w) X.A (f (.int i t) (.int j u)) Q E s) :
  ay X f (jl fun i j=>.int (g i j)):=by
 intro pins s σ H x y v u Q I rx ry h;obtain⟨i,j,rfl,rfl,q⟩:=h;obtain⟨t,rfl⟩:=rx;obtain⟨t',rfl⟩:=ry;exact rule i j t t' s _ _ ⟨.int (g i j),H,I.tok _,⟨_,rfl⟩,q⟩
theorem RO{f:Value→Value→Sem Value}{g:Int→Int→Bool}
  (rule:∀(i j:Int) (t u:Tok) (s:Shared) (Q:vm) (E:vm),Q (.bool (g i j)) s→wpAny (model X.prog X.w) X.A (f (.int i t) (.int j u)) Q E s) :
  ay X f (jl fun i j=>.bl (g i j)):=by
 intro pins s σ H x y v u Q I rx ry h;obtain⟨i,j,rfl,rfl,q⟩:=h;obtain⟨t,rfl⟩:=rx;obtain⟨t',rfl⟩:=ry;exact rule i j t t' s _ _ ⟨.bl (g i j),H,I,rfl,q⟩
def aIK(i j:Int):Prop:=0<j∧j<1073741824
def aIJ(i j:Int):Prop:=0≤j∧j≤1000000∧i.natAbs<2 ^ 64
def aBD(i j:Int):Prop:=(-(2 ^ 64)<i∧i<2 ^ 64)∨(-(2 ^ 64)<j∧j<2 ^ 64)
theorem aBD.ok{i j:Int}(h:aBD i j):IntMulOk i j:=by
 rcases h with ⟨h1,h2⟩|⟨h1,h2⟩
 ·exact .of_left (intBits_le_64 h1 h2)
 ·exact .of_right (intBits_le_64 h1 h2)
theorem ZS:ay X (binaryOp .Add) (jl fun i j=>.int (i+j)):=aDU fun _ _ _ _ _ _ _ q=>add_int q
theorem ZN:ay X (binaryOp .Sub) (jl fun i j=>.int (i-j)):=aDU fun _ _ _ _ _ _ _ q=>sub_int q
theorem ZP:ay X (binaryOp .Mult) (rI aBD fun i j=>.int (i*j)):=opI fun _ _ _ _ _ _ _ hc q=>mul_int q hc.ok
theorem RF:ay X (binaryOp .FloorDiv) (rI aIK fun i j=>.int (i / j)):=opI fun i j _ _ _ _ _ hc q=>by
 have h1:(0:Int)<j:=hc.1
 have h2:j<1073741824:=hc.2
 exact floordiv_int (by lia) (by rw[Int.fdiv_eq_ediv_of_nonneg i (by lia)];exact q) (.inl (PyProof.noPylong_small (by lia)))
theorem ZQ:ay X (binaryOp .Mod) (rI (fun _ j=>0<j) fun i j=>.int (i % j)):=opI fun i j _ _ _ _ _ hc q=>by
 have h1:(0:Int)<j:=hc
 exact mod_int' (by lia) (by rw[Int.fmod_eq_emod_of_nonneg i (by lia)];exact q)
theorem ZO:ay X (binaryOp .Pow) (rI aIJ fun i j=>.int (i ^ j.toNat)):=opI fun _ _ _ _ _ _ _ hc q=>pow_int_small hc.1 hc.2.1 hc.2.2 q
end
noncomputable def xU:V→V→Bool
 |.non,.non=>true | .non,.int _=>true | .int _,.non=>true | .non,.bl _=>true | .bl _,.non=>true | .non,.str _=>true | .str _,.non=>true
 |.int _,.int _=>true | .bl _,.bl _=>true | .str _,.str _=>true | .byt _,.byt _=>true
 |.int _,.str _=>true | .str _,.int _=>true | .bl _,.str _=>true | .str _,.bl _=>true
 |_,_=>false
noncomputable def rEq:R2:=fun x y H Q=>xU x y=true∧Q (.bl (decide (x=y))) H
noncomputable def rNe:R2:=fun x y H Q=>xU x y=true∧Q (.bl (!decide (x=y))) H
theorem DC{i j:Int}:decide (V.int i=V.int j)=(i == j):=by
 rw[Bool.eq_iff_iff];simp
theorem LY{i j:Bool}:decide (V.bl i=V.bl j)=(i == j):=by
 rw[Bool.eq_iff_iff];simp
theorem tY{i j:Str}:decide (V.str i=V.str j)=(i == j):=by
 rw[Bool.eq_iff_iff];simp
theorem DE{i j:Array UInt8}:decide (V.byt i=V.byt j)=(i.toList == j.toList):=by
 rw[Bool.eq_iff_iff];cases i;cases j;simp
section
variable {X:Cx}{a b c:Expr}{ta tb tc:TE}{pos:Pos}
theorem bC{pins:vn}{σ:St}{H:Hp}{s:Shared}{Q:VK}{k k':Bool}(I:Inv X pins σ H s)(q:Q (.bl k) H)(e:k=k'):EP X pins σ Q (.bool k') s:=by
 subst e;exact⟨.bl k,H,I,rfl,q⟩
theorem aDT:ay X (compareOp .Eq) rEq:=by
 intro pins s σ H x y v u Q I rx ry h;obtain⟨hs,q⟩:=h;cases x with
 |non =>
  cases rx;cases y with
  |non=>cases ry;exact PySem.EqNone.eq_none_none (bC I q (by simp))
  |bl j=>cases ry;exact PySem.EqNone.eq_none_bool (bC I q (by simp))
  |int j=>obtain⟨t',rfl⟩:=ry;exact PySem.EqNone.eq_none_int (bC I q (by simp))
  |str j=>obtain⟨t',rfl⟩:=ry;exact PySem.EqNone.eq_none_str (bC I q (by simp))
  |_=>exact absurd (show false=true from hs) sg
 |bl i =>
  cases rx;cases y with
  |non=>cases ry;exact PySem.EqNone.eq_bool_none (bC I q (by simp))
  |bl j=>cases ry;exact eq_bool (bC I q LY)
  |str j=>obtain⟨t',rfl⟩:=ry;exact PySem.EqMixed.eq_bool_str (bC I q (by simp))
  |_=>exact absurd (show false=true from hs) sg
 |int i =>
  obtain⟨t,rfl⟩:=rx;cases y with
  |non=>cases ry;exact PySem.EqNone.eq_int_none (bC I q (by simp))
  |int j=>obtain⟨t',rfl⟩:=ry;exact eq_int (bC I q DC)
  |str j=>obtain⟨t',rfl⟩:=ry;exact PySem.EqMixed.eq_int_str (bC I q (by simp))
  |_=>exact absurd (show false=true from hs) sg
 |str i =>
  obtain⟨t,rfl⟩:=rx;cases y with
  |non=>cases ry;exact PySem.EqNone.eq_str_none (bC I q (by simp))
  |bl j=>cases ry;exact PySem.EqMixed.eq_str_bool (bC I q (by simp))
  |int j=>obtain⟨t',rfl⟩:=ry;exact PySem.EqMixed.eq_str_int (bC I q (by simp))
  |str j=>obtain⟨t',rfl⟩:=ry;exact eq_str (bC I q tY)
  |_=>exact absurd (show false=true from hs) sg
 |byt i =>
  obtain⟨t,rfl⟩:=rx;cases y with
  |byt j=>obtain⟨t',rfl⟩:=ry;exact PySem.W.eq_bytes (bC I q DE)
  |_=>exact absurd (show false=true from hs) sg
 |_=>cases y<;>exact absurd (show false=true from hs) sg
theorem aDO:ay X (compareOp .NotEq) rNe:=by
 intro pins s σ H x y v u Q I rx ry h;obtain⟨hs,q⟩:=h;cases x with
 |non =>
  cases rx;cases y with
  |non=>cases ry;exact PySem.EqNone.ne_none_none (bC I q (by simp))
  |bl j=>cases ry;exact PySem.EqNone.ne_none_bool (bC I q (by simp))
  |int j=>obtain⟨t',rfl⟩:=ry;exact PySem.EqNone.ne_none_int (bC I q (by simp))
  |str j=>obtain⟨t',rfl⟩:=ry;exact PySem.EqNone.ne_none_str (bC I q (by simp))
  |_=>exact absurd (show false=true from hs) sg
 |bl i =>
  cases rx;cases y with
  |non=>cases ry;exact PySem.EqNone.ne_bool_none (bC I q (by simp))
  |bl j=>cases ry;exact ne_bool (bC I q (congrArg not LY))
  |str j=>obtain⟨t',rfl⟩:=ry;exact PySem.EqMixed.ne_bool_str (bC I q (by simp))
  |_=>exact absurd (show false=true from hs) sg
 |int i =>
  obtain⟨t,rfl⟩:=rx;cases y with
  |non=>cases ry;exact PySem.EqNone.ne_int_none (bC I q (by simp))
  |int j=>obtain⟨t',rfl⟩:=ry;exact ne_int (bC I q (congrArg not DC))
  |str j=>obtain⟨t',rfl⟩:=ry;exact PySem.EqMixed.ne_int_str (bC I q (by simp))
  |_=>exact absurd (show false=true from hs) sg
 |str i =>
  obtain⟨t,rfl⟩:=rx;cases y with
  |non=>cases ry;exact PySem.EqNone.ne_str_none (bC I q (by simp))
  |bl j=>cases ry;exact PySem.EqMixed.ne_str_bool (bC I q (by simp))
  |int j=>obtain⟨t',rfl⟩:=ry;exact PySem.EqMixed.ne_str_int (bC I q (by simp))
  |str j=>obtain⟨t',rfl⟩:=ry;exact ne_str (bC I q (congrArg not tY))
  |_=>exact absurd (show false=true from hs) sg
 |byt i =>
  obtain⟨t,rfl⟩:=rx;cases y with
  |byt j=>obtain⟨t',rfl⟩:=ry;exact PySem.W.ne_bytes (bC I q (congrArg not DE))
  |_=>exact absurd (show false=true from hs) sg
 |_=>cases y<;>exact absurd (show false=true from hs) sg
theorem aDP:ay X (compareOp .Lt) (jl fun i j=>.bl (decide (i<j))):=RO fun _ _ _ _ _ _ _ q=>lt_int q
theorem aDQ:ay X (compareOp .LtE) (jl fun i j=>.bl (decide (i≤j))):=RO fun _ _ _ _ _ _ _ q=>le_int q
theorem aDR:ay X (compareOp .Gt) (jl fun i j=>.bl (decide (j<i))):=RO fun _ _ _ _ _ _ _ q=>gt_int q
theorem aDS:ay X (compareOp .GtE) (jl fun i j=>.bl (decide (j≤i))):=RO fun _ _ _ _ _ _ _ q=>ge_int q
theorem ZR:ay X (compareOp .Is) (fun x y H Q=>y=.non∧Q (.bl (decide (x=.non))) H):=by
 intro pins s σ H x y v u Q I rx ry h;obtain⟨rfl,q⟩:=h;cases ry;refine is_none_gen (bC I q ?_);cases x<;>first
  | (cases rx;rfl)
  | (obtain⟨t,rfl⟩:=rx;rfl)
theorem RD:ay X (compareOp .IsNot) (fun x y H Q=>y=.non∧Q (.bl (!decide (x=.non))) H):=by
 intro pins s σ H x y v u Q I rx ry h;obtain⟨rfl,q⟩:=h;cases ry;refine isnot_none_gen (bC I q ?_);cases x<;>first
  | (cases rx;rfl)
  | (obtain⟨t,rfl⟩:=rx;rfl)
theorem JL(b:Expr){op:CmpOp}(h:op≠.In:=by decide)(h2:op≠.NotIn:=by decide):behindInMarks op b=false:=by
 have e1:(op == CmpOp.In)=false:=by cases op<;>first|rfl|exact absurd rfl h
 have e2:(op == CmpOp.NotIn)=false:=by cases op<;>first|rfl|exact absurd rfl h2
 cases b<;>simp[behindInMarks,e1,e2]
theorem AL{op:CmpOp}{r:R2}(ho:ay X (compareOp op) r)(ha:PE X a ta)(hb:PE X b tb)(hm:behindInMarks op b=false):PE X (.Compare a [op] [b] pos) (jc r ta tb):=by
 intro pins s σ H Q I h;exact wpAny_Compare1 (aBh ha hb I h fun v u s2 x y H2 I2 rx ry q=>ho pins s2 σ H2 x y v u Q I2 rx ry q) hm
noncomputable def HB(t:TE):TT:=fun σ H Q=>t σ H fun x H'=>∃k,x=.bl k∧Q k H'
theorem AF{op:CmpOp}{r:R2}(ho:ay X (compareOp op) r)(ha:PE X a ta)(hb:PE X b tb)(hm:behindInMarks op b=false):PT X (.Compare a [op] [b] pos) (HB (jc r ta tb)):=by
 intro pins s σ H Q I h;refine wpAny_isTrue_Compare1 (af (ha pins s σ H _ I h) fun v s1 ⟨x,H1,I1,r1,q1⟩=>af (hb pins s1 σ H1 _ I1 q1) fun u s2 ⟨y,H2,I2,r2,q2⟩ =>
  af (ho pins s2 σ H2 x y v u _ I2 r1 r2 q2) fun c s3 ⟨z,H3,I3,r3,k,e,q3⟩=>?_) hm
 subst e;cases r3;exact wpAny_truthy_bool ⟨H3,I3,q3⟩
def xQ(r r':R2)(ta tb tc:TE):TE:=fun σ H Q=>ta σ H fun x H1=>tb σ H1 fun y H2=>r x y H2 fun z H3=>∃k,z=.bl k ∧
 (if k=true then tc σ H3 fun w' H4=>r' y w' H4 Q else Q (.bl false) H3)
theorem vM{op dq:CmpOp}{r r':R2}(ho:ay X (compareOp op) r)(ip:ay X (compareOp dq) r')(ha:PE X a ta)(hb:PE X b tb)(hc:PE X c tc)
  (hm:lastMarks [op,dq] [b,c]=false:=by with_unfolding_all rfl):PE X (.Compare a [op,dq] [b,c] pos) (xQ r r' ta tb tc):=by
 intro pins s σ H Q I h;refine Compare_chain (af (ha pins s σ H _ I h) fun v s1 ⟨x,H1,I1,r1,q1⟩=>chain_link (af (hb pins s1 σ H1 _ I1 q1) fun u s2 ⟨y,H2,I2,r2,q2⟩ =>
  af (ho pins s2 σ H2 x y v u _ I2 r1 r2 q2) fun d s3 ⟨z,H3,I3,r3,k,e,q3⟩=>?_)) hm
 subst e;cases r3;refine wpAny_truthy_bool ?_;cases k with
 |false=>exact ite_ff ⟨.bl false,H3,I3,rfl,q3⟩
 |true=>exact ite_tt (chain_last (af (hc pins s3 σ H3 _ I3 q3) fun w' s4 ⟨z',H4,I4,r4,q4⟩=>ip pins s4 σ H4 y z' u w' Q I4 r2 r4 q4))
theorem vJ{op dq:CmpOp}{r r':R2}(ho:ay X (compareOp op) r)(ip:ay X (compareOp dq) r')(ha:PE X a ta)(hb:PE X b tb)(hc:PE X c tc)
  (hm:lastMarks [op,dq] [b,c]=false:=by with_unfolding_all rfl):PT X (.Compare a [op,dq] [b,c] pos) (HB (xQ r r' ta tb tc)):=by
 intro pins s σ H Q I h;refine isTrue_chain (af (ha pins s σ H _ I h) fun v s1 ⟨x,H1,I1,r1,q1⟩=>test_link (af (hb pins s1 σ H1 _ I1 q1) fun u s2 ⟨y,H2,I2,r2,q2⟩ =>
  af (ho pins s2 σ H2 x y v u _ I2 r1 r2 q2) fun d s3 ⟨z,H3,I3,r3,k,e,q3⟩=>?_)) hm
 subst e;cases r3;refine wpAny_truthy_bool ?_;cases k with
 |false =>
  obtain⟨k',e',q'⟩:=q3;cases e';exact ite_ff ⟨H3,I3,q'⟩
 |true =>
  refine ite_tt (test_last (af (hc pins s3 σ H3 _ I3 q3) fun w' s4 ⟨z',H4,I4,r4,q4⟩=>af (ip pins s4 σ H4 y z' u w' _ I4 r2 r4 q4) fun d' s5 ⟨z2,H5,I5,r5,k2,e2,q5⟩=>?_))
  subst e2;cases r5;exact wpAny_truthy_bool ⟨H5,I5,q5⟩
def aBk(K:vi)(x:V)(H:Hp)(k:Bool):Prop:=
 match x with
 |.non=>k=false
 |.bl b=>k=b
 |.int i=>k=(i != 0)
 |.str y=>y.length≤sizeLine∧k=((y.length:Int) != 0)
 |.byt y=>y.size≤sizeLine∧k=((y.size:Int) != 0)
 |.ref p=>(∃xs,SqL K H p xs∧k=!xs.isEmpty)∨(∃xs,SqT K H p xs∧k=!xs.isEmpty)∨∃kvs,H p=some (.dK kvs)∧k=!kvs.isEmpty
 |_=>False
theorem yX{κ:Type}{kvs:List (κ×V)}{vs:List (κ×Value)}(r:KV kvs vs):(!vs.isEmpty)=!kvs.isEmpty:=by
 cases r<;>rfl
theorem nY{xs:List V}{its:List Value}(r:aQ xs its):(!its.toArray.isEmpty)=!xs.isEmpty:=by
 cases r<;>simp
theorem jX:(sizeLine:Nat)<2 ^ 63:=by rw[sizeLine_eq];decide
theorem GZ:aIy X (fun x H Q=>∃k,aBk X.K x H k∧Q k H):=by
 intro pins s σ H x v Q I rx h;obtain⟨k,e,q⟩:=h;have hl:=jX
 have hs:sizeLine=16777216:=sizeLine_eq
 cases x with
 |non =>
  cases rx;have e':k=false:=e
  subst e';exact truthy_none ⟨H,I,q⟩
 |bl b =>
  cases rx;have e':k=b:=e
  subst e';exact wpAny_truthy_bool ⟨H,I,q⟩
 |int i =>
  obtain⟨t,rfl⟩:=rx;have e':k=(i != 0):=e
  subst e';exact PySem.P.truthy_int ⟨H,I,q⟩
 |str y =>
  obtain⟨t,rfl⟩:=rx;obtain⟨hy,e'⟩:y.length≤sizeLine∧k=((y.length:Int) != 0):=e;subst e';exact PySem.P.truthy_str (by lia) ⟨H,I.tok _,q⟩
 |byt y =>
  obtain⟨t,rfl⟩:=rx;obtain⟨hy,e'⟩:y.size≤sizeLine∧k=((y.size:Int) != 0):=e;subst e';exact PySem.W.truthy_bytes (by lia) ⟨H,I.tok _,q⟩
 |ref p =>
  cases rx;have e':(∃xs,SqL X.K H p xs∧k=!xs.isEmpty)∨(∃xs,SqT X.K H p xs∧k=!xs.isEmpty)∨∃kvs,H p=some (.dK kvs)∧k=!kvs.isEmpty:=e
  rcases e' with ⟨xs,hx,e'⟩|⟨xs,hx,e'⟩|⟨kvs,hx,e'⟩
  ·subst e';obtain⟨its,r,pl,hz⟩:=I.list hx;have hlen:=r.length
   exact wpAny_truthy_list pl.isList (by simp only[rh];lia) ⟨H,I.tok _,by rw[nY r];exact q⟩
  ·subst e';obtain⟨its,r,pl,hz⟩:=I.tuple hx;have hlen:=r.length
   exact truthy_tuple pl (by simp only[rh];lia) ⟨H,I.tok _,by rw[nY r];exact q⟩
  ·subst e';obtain⟨hz,hS,vs,r,m⟩:kvs.length≤sizeLine∧(p == sysModules)=false∧∃vs,KV kvs vs∧s.heap.DictOf (bP X.prog X.w) p vs:=I.hok p _ hx;have hlen:kvs.length=vs.length:=Paired.length r
   exact wpAny_truthy_dict hS m (by lia) ⟨H,I.tok _,by rw[yX r];exact q⟩
 |_=>exact(show False from e).elim
theorem ID(ha:PE X a ta)(he:∀whole,isTrue a X.env whole=(do let v ←whole;standAt a.pos;holding [v] (truthy v))) :
  PT X a (fun σ H Q=>ta σ H fun x H'=>∃k,aBk X.K x H' k∧Q k H'):=by
 intro pins s σ H Q I h;exact isTrue_plain (af (ha pins s σ H _ I h) fun v s1 ⟨x,H1,I1,r1,q1⟩=>GZ pins s1 σ H1 x v Q I1 r1 q1) (he _)
theorem yH:ay X (binaryOp .Add) (fun x y H Q=>∃i j,x=.str i∧y=.str j∧i.length+j.length≤sizeLine∧Q (.str (i++j)) H):=by
 intro pins s σ H x y v u Q I rx ry h;obtain⟨i,j,rfl,rfl,hz,q⟩:=h;obtain⟨t,rfl⟩:=rx;obtain⟨t',rfl⟩:=ry;exact add_str (fun t' tk=>⟨.str (i++j),H,I.tok _,⟨_,rfl⟩,q⟩) hz
theorem vals1{x:V}{us:List Value}(r:aQ [x] us):∃u,us=[u]∧RelV x u:=by
 cases r with
 |cons r1 r2=>cases r2;exact⟨_,rfl,r1⟩
theorem vals2{x y:V}{us:List Value}(r:aQ [x,y] us):∃u w',us=[u,w']∧RelV x u∧RelV y w':=by
 cases r with
 |cons r1 r2 =>
  cases r2 with
  |cons r3 r4=>cases r4;exact⟨_,_,rfl,r1,r3⟩
theorem GK(hc:X.calm=true):fY X (.builtin "max") (fun xs H Q=>∃i j,xs=[.int i,.int j]∧Q (.int (if j > i then j else i)) H):=by
 intro pins s σ H xs us Q I r h;obtain⟨i,j,rfl,q⟩:=h;obtain⟨u,w',rfl,⟨t,rfl⟩,⟨t',rfl⟩⟩:=vals2 r;refine max_two_ints (I.ok.hd hc) fun h' tk k=>⟨_,H,I.kept k,?_,q⟩
 by_cases hj:j > i
 ·rw[if_pos hj,if_pos hj];exact⟨_,rfl⟩
 ·rw[if_neg hj,if_neg hj];exact⟨_,rfl⟩
end
structure ObjM (h:Heap) (x dx C:Addr) (mA:vo):Prop where
 obj:h.get? x=some (instObj C dx)
 ns:h.Ns1 dx mA
 ne:dx≠x
theorem FF{h:Heap}{dx:Addr}{mA:vo}(n:h.Ns1 dx mA):∃od,h.get? dx=some od∧∀name,lookIn name od=some (mA name):=by
 obtain⟨o,es,ep,ho,hd,hk,_,hm⟩:=n;refine⟨o,ho,fun name=>?_⟩
 have e:=hm name
 unfold nsFind findBy at e;rw[←Array.find?_toList]at e;unfold lookIn;rw[hd];dsimp only;split
 ·rename_i y q;rw[q]at e;exact congrArg some e
 ·rename_i q;rw[q]at e;have a:es.toList.any (·.refKey)=false:=by
   rw[List.any_eq_false];intro y hy;obtain⟨z,t,hkey⟩:=hk y (Array.mem_toList_iff.mp hy);simp[DictEntry.refKey,hkey]
  have a':¬es.toList.any (·.refKey)=true:=by rw[a];exact sg
  rw[if_neg a'];exact congrArg some e
theorem ObjM.look{h:Heap}{x dx C:Addr}{mA:vo}(I:ObjM h x dx C mA):∃od,PySem.W.InstAt h x (instObj C dx) C (some od)∧∀name,lookIn name od=some (mA name):=
 let ⟨od,ho,hl⟩:=FF I.ns
 ⟨od,⟨I.obj,rfl,rfl,ho⟩,hl⟩
section
variable {prog:vk}{w:World}{A:Around}{E:vm}{s:Shared}{K:vi}{x dx C f:Addr}{mA:vo}{name:Str}{v:Value}
theorem get_map{expr:Bool}{Q:vm}(X:K.In s.heap)(I:ObjM s.heap x dx C mA)(hg:plainGet K C name=true)(hh:hasDictIn K C=true)
  (ha:findIn K (.ref C) name=some none) (hv:mA name=some v) (hv':handedIn v=true) (h:Q v { s with toks:=s.toks+1 }) :
  wpAny (model prog w) A (getAttr (.ref x) name expr) Q E s:=by
 obtain⟨od,J,hl⟩:=I.look;exact PySem.W.get_value X J (plainGet_of hg).1 (PySem.W.findObj_own hh ha rfl (by rw[hl,hv])) hv' h
theorem KR{pl:Sem Bool}{Q:Value×List Value→Shared→Prop}(X:K.In s.heap)(I:ObjM s.heap x dx C mA)(hg:plainGet K C name=true)
  (hf:findIn K (.ref C) name=some (some (.ref f))) (ht:isFn K (.ref f)=true) (hv:mA name=none) (h:Q (.ref f,[.ref x]) s) :
  wpAny (model prog w) A (getMethod (.ref x) name pl) Q E s:=by
 obtain⟨od,J,hl⟩:=I.look;exact PySem.W.method_fn X J (plainGet_of hg).1 (plainGet_of hg).2 hf (u0.mp ht) (by show (lookIn name od).map (·.isSome)=some false;rw[hl,hv];rfl) h
theorem PK{ns:List Str}{Q:Unit→Shared→Prop}(X:K.In s.heap)(I:ObjM s.heap x dx C mA)
  (hs:findIn K (.ref C) "__setattr__" = some (some (.builtin "object.__setattr__"))) (hp:plainOver K C=true) (ht:takerIn K C name=some none) (hh:hasDictIn K C=true)
  (hw:PySem.Within mA ns) (hsz:ns.length≤sizeLine)
  (h:∀h',ObjM h' x dx C (fun y=>if y=name then some v else mA y)→Heap.SameBut dx s.heap h'→Q () { s with heap:=h',toks:=s.toks+2 }) :
  wpAny (model prog w) A (setAttr (.ref x) name v) Q E s:=by
 obtain⟨od,J,hl⟩:=I.look;refine PySem.W.set_plain X J hs (PySem.W.osa_open (s:={ s with toks:=s.toks+1 }) (r:=none) X J hp ht fun b=>?_)
 obtain⟨cd,hc,hd'⟩:=PySem.W.any_some hh;have hx:s.heap.get? x=some ⟨.ref C,some dx,.plain,#[]⟩:=I.obj
 refine uh (ui (uh (uh (wpAny_loadPart hx (uh (PySem.W.Looks.here (s:={ s with toks:=s.toks+1 }) (PySem.W.looks_clsIn X hc) ?_))))))
 rw[hd'];refine ui (a:=some dx) (uh (ui (uh ?_)));refine wpAny_nsSet1 (s:={ s with toks:=s.toks+1 }) I.ns fun h' i9 i7=>?_
 obtain⟨oD,esD,epD,hoD,hdD,hcD⟩:=i9.count (PySem.Within.cons name v hw);refine uh (wpAny_lookBehind hoD (by rw[hdD];exact pastItsLine_dict (sr hcD (by rw[uw];lia))) ?_)
 exact ui (h _ ⟨(i7.2 _ (Ne.symm I.ne)).trans I.obj,i9,I.ne⟩ i7)
theorem JP{R:Result→Shared→Prop}{vs:List Value}{kw:List (Str×Value)}(X:K.In s.heap)(hm:makesIn K C=true)
  (hi:findIn K (.ref C) "__init__" = some (some (.ref f))) (hf:PySem.W.typeIn K (.ref f)=some (.type "function"))
  (h:codeAny (model prog w) (A.under (.builtin "type.__call__" ⟨.ref C::vs,kw⟩)) (.call (.ref f) ⟨.ref (s.heap.objs.size+1)::vs,kw⟩) (PySem.W.InitBack (s.heap.objs.size+1) R)
   {s with heap:=(s.heap.push emptyDict).push (instObj C s.heap.objs.size) }) :
  codeAny (model prog w) A (.call (.ref C) ⟨vs,kw⟩) R s:=by
 obtain⟨hh,g,d,t,os⟩:=s;exact PySem.W.make_core (PySem.W.makes_of X hm) (PySem.W.looks_findIn X hi) (fun self=>PySem.W.bind_fn X self hf) (.inl rfl) h
end
noncomputable def iK(f:Str)(v:V):List (Str×V)→List (Str×V)
 |[]=>[(f,v)]
 | (g,x)::r=>if g=f then(g,v)::r else(g,x)::iK f v r
theorem mK(f g:Str)(v:V):∀fs:List (Str×V),(iK f v fs).lookup g=if g=f then some v else fs.lookup g
 |[]=>by
  show List.lookup g [(f,v)]=_
  by_cases h:g=f
  ·have hb:(g == f)=true:=u0.mpr h
   simp only[List.lookup,hb,if_pos h]
  ·have hb:(g == f)=false:=ub.mpr h
   simp only[List.lookup,hb,if_neg h]
 | (k,x)::r=>by
  have ih:=mK f g v r
  rw[show iK f v ((k,x)::r)=(if k=f then(k,v)::r else(k,x)::iK f v r) from rfl]
  by_cases hk:k=f
  ·rw[if_pos hk]
   by_cases h:g=k
   ·have hb:(g == k)=true:=u0.mpr h
    simp only[List.lookup,hb,if_pos (h.trans hk)]
   ·have hb:(g == k)=false:=ub.mpr h
    simp only[List.lookup,hb,if_neg (fun e:g=f=>h (e.trans hk.symm))]
  ·rw[if_neg hk]
   by_cases h:g=k
   ·have hb:(g == k)=true:=u0.mpr h
    simp only[List.lookup,hb,if_neg (fun e:g=f=>hk (h.symm.trans e))]
   ·have hb:(g == k)=false:=ub.mpr h
    simp only[List.lookup,hb];exact ih
theorem lP(f:Str)(v:V):∀fs:List (Str×V),f∈(iK f v fs).map (·.1)∧∀g,g∈fs.map (·.1)→g∈(iK f v fs).map (·.1)
 |[]=>⟨by simp[iK],fun g h=>by simp at h⟩
 | (k,x)::r=>by
  obtain⟨i1,i2⟩:=lP f v r;rw[show iK f v ((k,x)::r)=(if k=f then(k,v)::r else(k,x)::iK f v r) from rfl]
  by_cases hk:k=f
  ·rw[if_pos hk];subst hk;exact⟨by simp,fun g h=>by simpa using h⟩
  ·rw[if_neg hk];refine⟨?_,fun g h=>?_⟩
   ·rw[tu];exact rg _ i1
   ·rw[tu]at h ⊢
    rcases sv.mp h with e|e
    ·exact sv.mpr (.inl e)
    ·exact rg _ (i2 g e)
theorem mM(f:Str)(v:V):∀fs:List (Str×V),(iK f v fs).length≤fs.length+1
 |[]=>by simp[iK]
 | (k,x)::r=>by
  have ih:=mM f v r
  rw[show iK f v ((k,x)::r)=(if k=f then(k,v)::r else(k,x)::iK f v r) from rfl]
  by_cases hk:k=f
  ·rw[if_pos hk,uw,uw];lia
  ·rw[if_neg hk,uw,uw];lia
theorem jR.some_of{v:V}{o:Option Value}(r:jR (some v) o):∃u,o=some u∧RelV v u:=by
 cases o with
 |none=>exact(show False from r).elim
 |some u=>exact⟨u,rfl,r⟩
theorem jR.none_of{o:Option Value}(r:jR none o):o=none:=by
 cases o with
 |none=>rfl
 |some u=>exact(show False from r).elim
theorem FQ{v:V}{u:Value}(r:RelV v u):handedIn u=true:=by
 cases v with
 |non=>cases (show u=Value.none from r);rfl
 |bl b=>cases (show u=Value.bool b from r);rfl
 |int i=>obtain⟨t,e⟩:=(show ∃t,u=Value.int i t from r);cases e;rfl
 |str x=>obtain⟨t,e⟩:=(show ∃t,u=Value.str x t from r);cases e;rfl
 |byt b=>obtain⟨t,e⟩:=(show ∃t,u=Value.bytes b t from r);cases e;rfl
 |flt b=>obtain⟨t,e⟩:=(show ∃t,u=Value.float b t from r);cases e;rfl
 |ref a=>cases (show u=Value.ref a from r);rfl
 |ty n=>cases (show u=Value.type n from r);rfl
section
variable {P:vk}{w:World}{H H':Hp}{h h':Heap}{a C dx:Addr}{fs fs':List (Str×V)}
theorem nC(hok:HOk P w H h)(e:H a=some (.ins C dx fs)):∃mA,ObjM h a dx C mA∧(∀f,jR (fs.lookup f) (mA f))∧PySem.Within mA (fs.map (·.1))∧fs.length≤1000∧H dx=some (.own a):=by
 obtain⟨d,z,ne,ob,mA,n,r,q⟩:=(show bZ P w H h a (.ins C dx fs) from hok a _ e)
 exact⟨mA,⟨ob,n,ne⟩,r,q,z,d⟩
end
structure Cls (K:vi) (C:Addr):Prop where
 pg:plainGet K C Str.empty=true
 hd:hasDictIn K C=true
 po:plainOver K C=true
 sa:findIn K (.ref C) "__setattr__" = some (some (.builtin "object.__setattr__"))
theorem Cls.get{K:vi}{C:Addr}(c:Cls K C)(f:Str):plainGet K C f=true:=c.pg
def eD(K:vi)(C:Addr)(f:Str):Prop:=findIn K (.ref C) f=some none
theorem eD.taker{K:vi}{C:Addr}{f:Str}(n:eD K C f):takerIn K C f=some none:=by
 unfold takerIn;rw[show findIn K (.ref C) f=some none from n]
 rfl
structure Con (K:vi) (C:Addr) (f:Str) (v:V) (u:Value):Prop where
 at_:findIn K (.ref C) f=some (some u)
 rel:RelV v u
 get:specialIn K u "__get__" = some none
 cp:PySem.W.copiedNames.contains f=false
structure i3 (K:vi) (C:Addr) (m:Str) (f:Addr):Prop where
 at_:findIn K (.ref C) m=some (some (.ref f))
 fn:isFn K (.ref f)=true
 kp:keepIn K (.ref f)=true
section
variable {X:Cx}{pins:vn}{σ:St}{H:Hp}{s:Shared}{a C dx:Addr}{fs:List (Str×V)}{f:Str}{v:V}{A:Around}{E:vm}
theorem zB{b:Bool}{Q:vm}(I:Inv X pins σ H s)(e:H a=some (.ins C dx fs))(c:Cls X.K C)(n:eD X.K C f)(l:fs.lookup f=some v)
  (h:∀u s',Inv X pins σ H s'→RelV v u→Q u s'):wpAny (model X.prog X.w) A (getAttr (.ref a) f b) Q E s:=by
 obtain⟨mA,O,r,_,_,_⟩:=nC I.hok e;obtain⟨u,hu,ru⟩:=jR.some_of (v:=v) (o:=mA f) (by rw[←l];exact r f)
 exact get_map I.kIn O (c.get f) c.hd n hu (FQ ru) (h u _ (I.tok _) ru)
theorem oE{m:Str}{g:Addr}{pl:Sem Bool}{Q:Value×List Value→Shared→Prop}(I:Inv X pins σ H s)(e:H a=some (.ins C dx fs))(c:Cls X.K C)(k:i3 X.K C m g)(l:fs.lookup m=none)
  (h:Q (.ref g,[.ref a]) s):wpAny (model X.prog X.w) A (getMethod (.ref a) m pl) Q E s:=by
 obtain⟨mA,O,r,_,_,_⟩:=nC I.hok e;have hn:mA m=none:=jR.none_of (by rw[←l];exact r m)
 exact KR I.kIn O (c.get m) k.at_ k.fn hn h
theorem xT{y:V}{u:Value}{Q:Unit→Shared→Prop}(I:Inv X pins σ H s)(e:H a=some (.ins C dx fs))(c:Cls X.K C)(n:eD X.K C f)(hl:fs.length<1000)(ry:RelV y u)
  (h:∀s',Inv X pins σ (upd H a (.ins C dx (iK f y fs))) s'→Q () s'):wpAny (model X.prog X.w) A (setAttr (.ref a) f u) Q E s:=by
 obtain⟨mA,O,r,wi,_,ho⟩:=nC I.hok e;have hz:(fs.map (·.1)).length≤sizeLine:=by rw[qv,sizeLine_eq];lia
 refine PK I.kIn O c.sa c.po n.taker c.hd wi hz fun h' O' sb=>h _ ?_
 have hd:∃o,h'.get? dx=some o:=let ⟨o,_,_,e',_⟩:=O'.ns;⟨o,e'⟩
 refine I.write (x:=a) (e:=dx) (by rw[e];exact True.intro) (.inr ho) (fun b q hb z=>(sb.2 b hb).trans z) hd ?_
 refine⟨by rw[aN O.ne];exact ho,?_,O.ne,O'.obj,_,O'.ns,fun g=>?_,fun g hg=>?_⟩
 ·have:=mM f y fs;lia
 ·show jR ((iK f y fs).lookup g) (if g=f then some u else mA g)
  rw[mK]
  by_cases q:g=f
  ·rw[if_pos q,if_pos q];exact ry
  ·rw[if_neg q,if_neg q];exact r g
 ·by_cases q:g=f
  ·rw[q];exact(lP f y fs).1
  ·refine(lP f y fs).2 g (wi g fun z=>hg ?_)
   show (if g=f then some u else mA g)=none
   rw[if_neg q];exact z
theorem Inv.made(I:Inv X pins σ H s):Inv X pins σ (upd (upd H s.heap.objs.size (.own (s.heap.objs.size+1))) (s.heap.objs.size+1) (.ins C s.heap.objs.size []))
  {s with heap:=(s.heap.push emptyDict).push (instObj C s.heap.objs.size) }:=by
 have e1:(s.heap.push emptyDict).get? s.heap.objs.size=some emptyDict:=uk s.heap rfl
 have e2:((s.heap.push emptyDict).push (instObj C s.heap.objs.size)).get? (s.heap.objs.size+1)=some (instObj C s.heap.objs.size):=by
  have:=uk (s.heap.push emptyDict) (o:=instObj C s.heap.objs.size) rfl
  rwa [size_push]at this
 have e3:(s.heap.push emptyDict).Ns s.heap.objs.size (fun _=>none):=⟨emptyDict,#[],_,e1,rfl,(fun e he=>absurd he (by simp)),fun _=>rfl⟩
 have I1:=I.laid (a:=s.heap.objs.size) (o:=.own (s.heap.objs.size+1)) (h':=s.heap.push emptyDict) (t':=s.toks) (fun b u q=>qz _ q) (qw _) ⟨_,e1⟩
 refine I1.laid (a:=s.heap.objs.size+1) (o:=.ins C s.heap.objs.size []) (t':=s.toks) (fun b u q=>qz _ q) (Nat.le_of_eq (size_push _ _)) ?_
 have ne:s.heap.objs.size≠s.heap.objs.size+1:=uc (uu _)
 refine⟨by rw[aN ne,aM],v9 _,ne,e2,fun _=>none,(Heap.Ns1.of_empty e3).at fun o q=>qz _ q,fun _=>True.intro,fun y hy=>absurd rfl hy⟩
theorem UH{prog:vk}{w:World}{env:Env}{e:Expr}{f:Str}{pos:Pos}{s:Shared}{Q:vm}(hb:attributeBase e f env (eval e env)=eval e env)
  (h:wpAny (model prog w) A (eval e env) (fun o s₁=>wpAny (model prog w) A (getAttr o f true) Q E s₁) E s):wpAny (model prog w) A (eval (.Attribute e f pos) env) Q E s:=
 Attribute_any_ h (by rw[arm_eval_Attribute,hb])
end
def aHi(K:vi)(ta:TE)(f:Str):TE:=fun σ H Q=>ta σ H fun x H1=>∃a C dx fs v,x=.ref a∧H1 a=some (.ins C dx fs)∧Cls K C∧eD K C f∧fs.lookup f=some v∧Q v H1
def aHu(K:vi)(ta tv:TE)(f:Str):TS:=fun D σ H=>tv σ H fun y H1=>ta σ H1 fun x H2=>∃a C dx fs,x=.ref a∧H2 a=some (.ins C dx fs)∧Cls K C∧eD K C f∧fs.length<1000 ∧
 D.nx σ (upd H2 a (.ins C dx (iK f y fs)))
section
variable {X:Cx}{o e value:Expr}{f:Str}{pos pos' tpos:Pos}{ta tv:TE}
theorem ZK(he:PE X e ta)(hb:attributeBase e f X.env (eval e X.env)=eval e X.env):PE X (.Attribute e f pos) (aHi X.K ta f):=by
 intro pins s σ H Q I h;refine UH hb (af (he pins s σ H _ I h) fun u s1 ⟨x,H1,I1,rx,a,C,dx,fs,v,ex,ea,c,n,l,q⟩=>?_)
 subst ex;obtain rfl:u=Value.ref a:=rx;exact zB I1 ea c n l fun u' s2 I2 ru=>⟨v,H1,I2,ru,q⟩
theorem YZ(ha:PE X o ta)(hv:PE X value tv)(hs:swapsWith value (some (.Attribute o f pos')) pos.line X.env=pure false):PS X (.Assign [.Attribute o f pos'] value pos) (aHu X.K ta tv f):=by
 intro pins s σ H D I h;refine plainObj_wpAny_Assign_Attribute (af (hv pins s σ H _ I h) fun u s1 ⟨y,H1,I1,ry,q⟩=>af (ha pins s1 σ H1 _ I1 q) fun ov s2 ⟨x,H2,I2,rx,a,C,dx,fs,ex,ea,c,n,l,q2⟩=>?_) hs
 subst ex;obtain rfl:ov=Value.ref a:=rx;exact xT I2 ea c n l ry fun s3 I3=>⟨σ,_,I3,q2⟩
end
section
variable {X:Cx}{pins:vn}{σ:St}{H:Hp}{s:Shared}{A:Around}{E:vm}{Q:vm}{c:Value}{b:Bool}
inductive cg (K:vi) (H:Hp):V→Value→Prop where
 |non:cg K H .non (.type "NoneType")
 |bl (x:Bool):cg K H (.bl x) (.type "bool")
 |int (i:Int):cg K H (.int i) (.type "int")
 |str (x:Str):cg K H (.str x) (.type "str")
 |flt (x:UInt64):cg K H (.flt x) (.type "float")
 |lst {a:Addr} {xs:List V} (e:H a=some (.lst xs)):cg K H (.ref a) (.type "list")
 |frz {a:Addr} {o:Obj} {xs:List V} (e:H a=some (.frz o (.lst xs))):cg K H (.ref a) (.type "list")
 |tup {a:Addr} {xs:List V} (e:H a=some (.tup xs)):cg K H (.ref a) (.type "tuple")
 |dK {a:Addr} {kvs:List (Key×V)} (e:H a=some (.dK kvs)):cg K H (.ref a) (.type "dict")
 |dT {a:Addr} {kvs:List (List Key×V)} (e:H a=some (.dT kvs)):cg K H (.ref a) (.type "dict")
 |ins {a C dx:Addr} {fs:List (Str×V)} (e:H a=some (.ins C dx fs)) (cl:Cls K C) (ha:findIn K (.ref C) "__class__" = some (some (.builtin "object.__class__")))
   (hn:specialIn K (.builtin "object.__class__") "__get__" = some (some (.builtin "getset_descriptor.__get__"))) (lu:takesIn K (.builtin "object.__class__")=some true)
   (hm:mroIn K C (.type "object")=some true):cg K H (.ref a) (.ref C)
theorem gO{x:V}{u t:Value}(I:Inv X pins σ H s)(rx:RelV x u)(ty:cg X.K H x t)(e:kitOne X.K t c=some b)(h:∀tk,Q (.bool b) { s with toks:=tk }) :
  wpAny (model X.prog X.w) A (call (.builtin "isinstance") [u,c]) Q E s:=by
 cases ty with
 |non=>cases (show u=Value.none from rx);exact kia_one PySem.W.kitx_none I.kIn True.intro e (fun z=>nomatch z) h
 |bl y=>cases (show u=Value.bool y from rx);exact kia_one PySem.W.kitx_bool I.kIn True.intro e (fun z=>nomatch z) h
 |int i=>obtain⟨t,q⟩:=(show ∃t,u=Value.int i t from rx);cases q;exact kia_one PySem.W.kitx_int I.kIn True.intro e (fun z=>nomatch z) h
 |str y=>obtain⟨t,q⟩:=(show ∃t,u=Value.str y t from rx);cases q;exact kia_one PySem.W.kitx_str I.kIn True.intro e (fun z=>nomatch z) h
 |flt y=>obtain⟨t,q⟩:=(show ∃t,u=Value.float y t from rx);cases q;exact kia_one PySem.W.kitx_float I.kIn True.intro e (fun z=>nomatch z) h
 | @lst a xs ea =>
  cases (show u=Value.ref a from rx)
  obtain⟨_,_,n,_,h1⟩:=(show bZ X.prog X.w H s.heap a (.lst xs) from I.hok a _ ea)
  exact kia_one kitx_list I.kIn ⟨_,h1,rfl⟩ e (fun z=>nomatch z) h
 | @frz a ob xs ea =>
  cases (show u=Value.ref a from rx)
  obtain⟨_,_,_,n,_,h1⟩:=(show bZ X.prog X.w H s.heap a (.frz ob (.lst xs)) from I.hok a _ ea)
  exact kia_one kitx_list I.kIn ⟨_,h1,rfl⟩ e (fun z=>nomatch z) h
 | @tup a xs ea =>
  cases (show u=Value.ref a from rx)
  obtain⟨_,_,_,p⟩:=(show bZ X.prog X.w H s.heap a (.tup xs) from I.hok a _ ea)
  obtain⟨o,h1,h2,_⟩:=p;exact kia_one PySem.W.kitx_tuple I.kIn ⟨o,h1,h2⟩ e (fun z=>nomatch z) h
 | @dK a kvs ea =>
  cases (show u=Value.ref a from rx)
  obtain⟨_,_,vs,_,p⟩:=(show bZ X.prog X.w H s.heap a (.dK kvs) from I.hok a _ ea)
  obtain⟨o,es,ep,h1,h2,_⟩:=p;exact kia_one kitx_dict I.kIn ⟨o,h1,h2.1⟩ e (fun z=>nomatch z) h
 | @dT a kvs ea =>
  cases (show u=Value.ref a from rx)
  obtain⟨_,_,xs,_,o,es,ep,h1,h2,_⟩:=(show bZ X.prog X.w H s.heap a (.dT kvs) from I.hok a _ ea)
  exact kia_one kitx_dict I.kIn ⟨o,h1,h2.1⟩ e (fun z=>nomatch z) h
 | @ins a C dx fs ea cl ha hn lu hm =>
  cases (show u=Value.ref a from rx)
  obtain⟨mA,O,_⟩:=nC I.hok ea;obtain⟨od,J,_⟩:=O.look;exact kia_one (PySem.W.kitx_own (cl.get _) cl.hd ha hn lu hm) I.kIn J e (fun z=>nomatch z) h
end
structure Room (k:Nat) (A:Around):Prop where
 hd:A.handled=none
 dp:A.depth+3*k+5<recursionLimit
 un:A.units+16*k+200<cLine
theorem Room.mono{j k:Nat}{A:Around}(r:Room k A)(h:j≤k):Room j A:=⟨r.hd,by have:=r.dp;lia,by have:=r.un;lia⟩
theorem Room.deeper{k:Nat}{A:Around}(r:Room (k+1) A)(env:Env):Room k (A.deeper env):=
 ⟨r.hd,by have:=r.dp;show A.depth+1+3*k+5<_;lia,by have:=r.un;show A.units+3+16*k+200<_;lia⟩
theorem yQ{A:Around}{C:Addr}{us:List Value}{kw:List (Str×Value)}:(A.under (.builtin "type.__call__" ⟨.ref C::us,kw⟩)).depth=A.depth+1:=by
 first|rfl|simp[Around.under,Code.weight,Code.isCreation,Code.isGuard,Code.isCaller,Code.frames,Code.isFrame,guardIds]
theorem yP{A:Around}{C:Addr}{us:List Value}{kw:List (Str×Value)}:(A.under (.builtin "type.__call__" ⟨.ref C::us,kw⟩)).units=A.units+1:=by
 first|rfl|simp[Around.under,Code.cUnits,Code.frames,Code.isFrame]
theorem Room.make{k:Nat}{A:Around}(r:Room (k+1) A)(C:Addr)(us:List Value)(kw:List (Str×Value)):Room k (A.under (.builtin "type.__call__" ⟨.ref C::us,kw⟩)):=
 ⟨r.hd,by have:=r.dp;rw[yQ];lia,by have:=r.un;rw[yP];lia⟩
theorem Room.depth{k:Nat}{A:Around}(r:Room k A):A.depth<recursionLimit:=by have:=r.dp;lia
theorem Room.units{k:Nat}{A:Around}(r:Room k A):A.units+64<cLine:=by have:=r.un;lia
def HC:TA:=fun _ H Q=>Q [] H
def iM(ta:TE)(tr:TA):TA:=fun σ H Q=>ta σ H fun x H1=>tr σ H1 fun xs H2=>Q (x::xs) H2
section
variable {X:Cx}{e:Expr}{es:List Expr}{te:TE}{t:TA}{pos:Pos}
theorem fT:PA X [] HC:=fun _ _ _ _ H Q I h=>Calls.spliced_nil ⟨[],H,I,.nil,h⟩
theorem bG(ha:PE X e te)(hr:PA X es t)(hs:starEach (e::es) X.env=(false,eval e X.env)::starEach es X.env:=by rfl):PA X (e::es) (iM te t):=by
 intro pos pins s σ H Q I h;rw[hs];show wpAny _ _ (spliced ((false,eval e X.env)::backTo pos (starEach es X.env))) _ _ s
 refine Calls.spliced_cons (af (ha pins s σ H _ I h) fun u s1 ⟨x,H1,I1,r1,q1⟩=>?_)
 exact af (hr pos pins s1 σ H1 _ I1 q1) fun us s2 ⟨xs,H2,I2,r2,q2⟩=>⟨x::xs,H2,I2,.cons r1 r2,q2⟩
def aHd(t:TA):TE:=fun σ H Q=>t σ H fun xs H1=>xs.length≤sizeLine∧∀p,H1 p=none→Q (.ref p) (upd H1 p (.tup xs))
def aCu(t:TA):TE:=fun σ H Q=>t σ H fun xs H1=>xs.length≤sizeLine∧∀p,H1 p=none→Q (.ref p) (upd H1 p (.lst xs))
theorem ZF{x1}(h:PA X es t):PE X (.Tuple es x1 pos) (aHd t):=by
 intro pins s σ H Q I hq;refine wpAny_Tuple_spliced (af (h pos pins s σ H _ I hq) fun us s1 ⟨xs,H1,I1,r,z,q⟩=>⟨by rw[←r.length];exact z,?_⟩)
 have hf:H1 s1.heap.objs.size=none:=I1.hok.fresh (qw _)
 refine⟨.ref s1.heap.objs.size,upd H1 s1.heap.objs.size (.tup xs),I1.laid (t':=s1.toks) (fun b u e=>qz _ e) (qw _) ?_,rfl,q _ hf⟩
 exact⟨z,us,r,⟨_,uk _ rfl,rfl,_,rfl⟩⟩
theorem yC(h:PA X es t):PE X (.List es pos) (aCu t):=by
 intro pins s σ H Q I hq;refine wpAny_List_spliced (af (h pos pins s σ H _ I hq) fun us s1 ⟨xs,H1,I1,r,z,q⟩=>⟨by rw[←r.length];exact z,?_⟩)
 have hf:H1 s1.heap.objs.size=none:=I1.hok.fresh (qw _)
 refine⟨.ref s1.heap.objs.size,upd H1 s1.heap.objs.size (.lst xs),I1.laid (t':=s1.toks) (fun b u e=>qz _ e) (qw _) ?_,rfl,q _ hf⟩
 exact⟨z,us,0,r,uk _ rfl⟩
end
abbrev Sp:=List V→Hp→VK→XK→Prop
abbrev au:=List Env→Hp→Shared→XK→Value→Shared→Prop
structure Env0 (P:vk) (w:World) (K:vi) (mg:vo) (base:Heap) (A:Around) (outer:List Env) (s:Shared) (H:Hp):Prop where
 frames:A.frames=some outer
 mod:Mod K mg base
 bs:∀b o,base.get? b=some o→s.heap.get? b=some o∧H b=none
 bsz:base.objs.size≤s.heap.objs.size
 funs:s.heap.FunFrames base outer
 frf:∀b∈frs outer,H b=none
 hok:HOk P w H s.heap
 bare:AllBare s.gens
def CE(outer:List Env)(P:vk)(w:World)(H:Hp)(s:Shared)(Q:VK)(u:Value)(s':Shared):Prop:=
 ∃v H',s'.os=s.os∧AllBare s'.gens∧Un (frs outer) [] H H' s.heap s'.heap∧HOk P w H' s'.heap∧RelV v u∧Q v H'
def CR(CX:au)(outer:List Env)(P:vk)(w:World)(H:Hp)(s:Shared)(Q:VK)(E:XK)(r:Result)(s':Shared):Prop:=
 match r with
 |.ok (.ret u)=>CE outer P w H s Q u s'
 |.ok _=>False
 |.error e=>CX outer H s E e s'
structure FnOk (P:vk) (w:World) (K:vi) (mg:vo) (base:Heap) (CX:au) (k:Nat) (f:Addr) (fd:vj) (ps:List Str) (sp:Sp):Prop where
 len:∀vs H Q E,sp vs H Q E→vs.length=ps.length
 run:∀(A:Around) (outer:List Env) (s:Shared) (H:Hp) (args:Args) (us:List Value) (vs:List V) (Q:VK) (E:XK),Room k A→Env0 P w K mg base A outer s H→BindsTo s fd args (ps.zip us)→aQ vs us→sp vs H Q E →
  codeAny (model P w) A (.call (.ref f) args) (CR CX outer P w H s Q E) s
theorem FnOk.mono{P:vk}{w:World}{K:vi}{mg:vo}{base:Heap}{CX:au}{j k:Nat}{f:Addr}{fd:vj}{ps:List Str}{sp:Sp}(F:FnOk P w K mg base CX j f fd ps sp)(h:j≤k) :
  FnOk P w K mg base CX k f fd ps sp:=⟨F.len,fun A outer s H args us vs Q E hr=>F.run A outer s H args us vs Q E (hr.mono h)⟩
theorem FnOk.imp{P:vk}{w:World}{K:vi}{mg:vo}{base:Heap}{CX:au}{k:Nat}{f:Addr}{fd:vj}{ps:List Str}{sp lj:Sp}(F:FnOk P w K mg base CX k f fd ps sp)
  (h:∀vs H Q E,lj vs H Q E→sp vs H Q E):FnOk P w K mg base CX k f fd ps lj:=
 ⟨fun vs H Q E q=>F.len vs H Q E (h _ _ _ _ q),fun A outer s H args us vs Q E hr he hb hv hs=>F.run A outer s H args us vs Q E hr he hb hv (h _ _ _ _ hs)⟩
theorem Env0.make{P:vk}{w:World}{K:vi}{mg:vo}{base:Heap}{A:Around}{outer:List Env}{s:Shared}{H:Hp}(e:Env0 P w K mg base A outer s H)(C:Addr)(us:List Value)(kw:List (Str×Value)) :
  Env0 P w K mg base (A.under (.builtin "type.__call__" ⟨.ref C::us,kw⟩)) outer s H:=⟨by first|exact e.frames|(simpa [Around.under,Code.envs,Code.isFrame,pushEnvs] using e.frames),e.mod,e.bs,e.bsz,e.funs,e.frf,e.hok,e.bare⟩
section
variable {X:Cx}{pins:vn}{σ:St}{H:Hp}{s s':Shared}
theorem Inv.env0(I:Inv X pins σ H s):Env0 X.prog X.w X.K X.mg X.base X.A X.stack s H:=
 ⟨I.ok.frames,I.ok.mod,I.bs,sr I.ok.bsz I.sz,I.stack,I.stkFree,I.hok,I.bare⟩
theorem Inv.after{Q:VK}{u:Value}(I:Inv X pins σ H s)(h:CE X.stack X.prog X.w H s Q u s'):EP X pins σ Q u s':=by
 obtain⟨v,H',os,bare,un,hok,r,q⟩:=h;obtain⟨hh,g,d,t,os'⟩:=s';obtain rfl:os'=s.os:=os;exact⟨v,H',I.call (h':=hh) (g':=g) (d':=d) (t':=t) (ch:=[]) un hok bare (fun b z=>absurd z (by simp)),r,q⟩
end
def uV(sp:Sp)(dvs:List V)(E:XK)(t:TA):TE:=fun σ H Q=>t σ H fun vs H1=>sp (vs++dvs) H1 Q E
def Binds(K:vi)(fd:vj)(ps:List Str)(ds:List Value):Prop:=
 ∀(s:Shared) (us:List Value),K.In s.heap→(us++ds).length=ps.length→BindsTo s fd ⟨us,[]⟩ (ps.zip (us++ds))
theorem Binds.all{K:vi}{fd:vj}{ps:List Str}(h:∀us:List Value,us.length=ps.length→bindArgs fd ⟨us,[]⟩=pure (ps.zip us)):Binds K fd ps []:=fun s us _ hl=>by
 rw[tj]at hl ⊢;exact .of_eq (h us hl)
def fX(CX:au)(X:Cx)(E:XK):Prop:=∀(pins:vn) (σ:St) (H:Hp) (s:Shared) (e:Value) (s':Shared),Inv X pins σ H s→CX X.stack H s E e s'→X.xe e s'
section
variable {X:Cx}{CX:au}{k:Nat}{f C:Addr}{fd:vj}{ps:List Str}{sp:Sp}{dvs:List V}{ds:List Value}{E:XK}{x m:Str}{p pos apos:Pos}{e o:Expr}{es:List Expr}{ta:TE}{t:TA}
theorem rS{pins:vn}{σ:St}{H:Hp}{s:Shared}{Q:VK}{us:List Value}{vs:List V}(F:FnOk X.prog X.w X.K X.mg X.base CX k f fd ps sp)(hr:Room k X.A)(hb:Binds X.K fd ps ds)(hd:aQ dvs ds)(hx:fX CX X E)
  (I:Inv X pins σ H s) (r:aQ vs us) (h:sp (vs++dvs) H Q E):wpAny (model X.prog X.w) X.A (call (.ref f) us) (EP X pins σ Q) X.xe s:=by
 have r2:aQ (vs++dvs) (us++ds):=r.append hd
 have hl:(us++ds).length=ps.length:=by rw[←r2.length];exact F.len _ _ _ _ h
 refine wpAny_call (codeAny_mono (F.run X.A X.stack s H ⟨us,[]⟩ (us++ds) (vs++dvs) Q E hr I.env0 (hb s us I.kIn hl) r2 h) fun r s' hq=>?_)
 cases r with
 |error e=>exact hx pins σ H s e s' I hq
 |ok fl =>
  cases fl with
  |ret u=>exact I.after hq
  |next=>exact False.elim hq
  |brk=>exact False.elim hq
  |cont=>exact False.elim hq
theorem AM(F:FnOk X.prog X.w X.K X.mg X.base CX k f fd ps sp)(hr:Room k X.A)(hg:Gl X x)(hm:X.mg x=some (.ref f))(hk:keepIn X.K (.ref f)=true)(hb:Binds X.K fd ps ds)(hd:aQ dvs ds)(hx:fX CX X E)
  (ha:PA X (e::es) t) (fk:(x == ("__debug__":Str))=false:=by decide) (he:starEach (e::es) X.env=(false,eval e X.env)::starEach es X.env:=by rfl) (ik:(backTo pos (starEach es X.env)).any (·.1)=false:=by rfl) :
  PE X (.Call (.Name x p) (e::es) [] pos) (uV sp dvs E t):=by
 intro pins s σ H Q I h;refine wpAny_Call_Name_kw (eA I hg hm ?_ fk);refine callWith_K (h₀:=X.base) I.ok.mod.kin hk (af (ha pos pins s σ H _ I h) fun us s1 ⟨vs,H1,I1,r,q⟩=>⟨I1.kIn,?_⟩) he ik
 exact rS F hr hb hd hx I1 r q
theorem vN(F:FnOk X.prog X.w X.K X.mg X.base CX k f fd ps sp)(hr:Room k X.A)(hg:Gl X x)(hm:X.mg x=some (.ref f))(hk:keepIn X.K (.ref f)=true)(hb:Binds X.K fd ps ds)(hd:aQ dvs ds)(hx:fX CX X E)
  (fk:(x == ("__debug__":Str))=false:=by decide):PE X (.Call (.Name x p) [] [] pos) (uV sp dvs E HC):=by
 intro pins s σ H Q I h;refine wpAny_Call_Name_kw (eA I hg hm ?_ fk);exact callWith_K0 I.kIn hk (rS (us:=[]) F hr hb hd hx I .nil h)
structure Mk (K:vi) (C f:Addr):Prop where
 makes:makesIn K C=true
 init:findIn K (.ref C) "__init__" = some (some (.ref f))
 fn:isFn K (.ref f)=true
 kp:keepIn K (.ref C)=true
end
section
variable {X:Cx}{CX:au}{k:Nat}{f C:Addr}{fd:vj}{ps ks:List Str}{sp:Sp}{E:XK}{x m:Str}{p pos apos kpos:Pos}{e o:Expr}{es:List Expr}{kws:List Keyword}{te ta:TE}{t tk:TA}{nm:Option Str}
structure KBinds (K:vi) (fd:vj) (ps ks:List Str) (g:List Value→List Value→List Value) (gV:List V→List V→List V):Prop where
 to:∀(s:Shared) (us ws:List Value),K.In s.heap→(g us ws).length=ps.length→BindsTo s fd ⟨us,ks.zip ws⟩ (ps.zip (g us ws))
 rel:∀{vs:List V} {us:List Value} {zs:List V} {ws:List Value},aQ vs us→aQ zs ws→aQ (gV vs zs) (g us ws)
variable {g:List Value→List Value→List Value}{gV:List V→List V→List V}
end
structure aa (N P:List Str) (sc:Scope):Prop where
 kind:sc.kind=.function
 co:sc.isCoroutine=false
 gen:sc.isGenerator=false
 nd:N.Nodup
 pre:N.take P.length=P
 par:∀x∈P,sc.names.lookup x=some .local∨sc.names.lookup x=some .cell
 nofree:∀y∈sc.names,y.2≠.free
theorem qX{kindOf:Str→Option NameKind}{x:Str}:∀{binds:List (Str×Value)} {m:vo},(∀v,(x,v)∉binds)→bindL kindOf binds m x=m x
 |[],_,_=>rfl
 | (n,v)::r,m,h=>by
  unfold bindL;rw[qX fun w hw=>h w (rg _ hw)]
  split
  ·have:x≠n:=by rintro rfl;exact h v ur
   simp[this]
  ·rfl
theorem qZ{kindOf:Str→Option NameKind}{x:Str}:∀{binds:List (Str×Value)} {m:vo},(∀v,(x,v)∉binds)→bindC kindOf binds m x=m x
 |[],_,_=>rfl
 | (n,v)::r,m,h=>by
  unfold bindC;rw[qZ fun w hw=>h w (rg _ hw)]
  split
  ·rfl
  ·have:x≠n:=by rintro rfl;exact h v ur
   simp[this]
theorem qY{kindOf:Str→Option NameKind}{x:Str}{v:Value}:∀{P:List Str} {vs:List Value} {i:Nat} {m:vo},P.Nodup→P[i]?=some x→vs[i]?=some v→kindOf x=some .local →
  bindL kindOf (P.zip vs) m x=some v
 |[],_,_,_,_,h,_,_=>by simp at h
 |_::_,[],_,_,_,_,h,_=>by simp at h
 |p::P,w::vs,0,m,nd,h1,h2,hk=>by
  simp at h1 h2;subst h1;subst h2;show bindL kindOf ((p,w)::P.zip vs) m p=_
  unfold bindL;rw[qX fun v hv=>(nodup_cons.mp nd).1 (of_mem_zip hv).1,if_pos hk]
  simp
 |p::P,w::vs,i+1,m,nd,h1,h2,hk=>by
  show bindL kindOf ((p,w)::P.zip vs) m x=_
  unfold bindL;exact qY (i:=i) (nodup_cons.mp nd).2 (by simpa using h1) (by simpa using h2) hk
theorem rA{kindOf:Str→Option NameKind}{x:Str}{v:Value}:∀{P:List Str} {vs:List Value} {i:Nat} {m:vo},P.Nodup→P[i]?=some x→vs[i]?=some v→kindOf x≠some .local →
  bindC kindOf (P.zip vs) m x=some v
 |[],_,_,_,_,h,_,_=>by simp at h
 |_::_,[],_,_,_,_,h,_=>by simp at h
 |p::P,w::vs,0,m,nd,h1,h2,hk=>by
  simp at h1 h2;subst h1;subst h2;show bindC kindOf ((p,w)::P.zip vs) m p=_
  unfold bindC;rw[qZ fun v hv=>(nodup_cons.mp nd).1 (of_mem_zip hv).1,if_neg hk]
  simp
 |p::P,w::vs,i+1,m,nd,h1,h2,hk=>by
  show bindC kindOf ((p,w)::P.zip vs) m x=_
  unfold bindC;exact rA (i:=i) (nodup_cons.mp nd).2 (by simpa using h1) (by simpa using h2) hk
noncomputable def start(N:List Str)(vs:List V):St:=vs.map some++List.replicate (N.length-vs.length) none
noncomputable def kW(CX:au)(P:vk)(w:World)(K:vi)(mg:vo)(base:Heap)(N:List Str)(qual:Str)(scope:Scope)(f:Addr)(cd:Value)(A:Around)(outer:List Env)(s:Shared)(H:Hp)(E:XK):Cx where
 prog:=P
 w:=w
 K:=K
 mg:=mg
 base:=base
 A:=A.deeper (envOfC qual scope s.heap.objs.size f cd)
 N:=N
 s₀:=s
 H₀:=H
 env:=envOfC qual scope s.heap.objs.size f cd
 outer:=outer
 stack:=envOfC qual scope s.heap.objs.size f cd::outer
 ex:=[]
 calm:=true
 fn:=fun _=>true
 pn:=[]
 xe:=fun e s'=>wpAny (model P w) (A.deeper (envOfC qual scope s.heap.objs.size f cd)) (leaving (envOfC qual scope s.heap.objs.size f cd) e) (fun _ oa=>CX outer H s E e oa) (fun e' oa=>CX outer H s E e' oa) s'
theorem xG{sc:Scope}{n:Nat}{x:Str}(h:sc.names.lookup x=some .cell):∃c,(cellsFrom n sc.names []).lookup x=some c:=by
 have q:=cellsFrom_some sc.names n [] (.inl h)
 exact Option.isSome_iff_exists.mp q
theorem qJ{CX:au}{P:vk}{w:World}{K:vi}{mg:vo}{base:Heap}{N ps:List Str}{qual:Str}{scope:Scope}{f:Addr}{cd:Value}{A:Around}{outer:List Env}{s s1:Shared}{H:Hp}{E:XK}{us:List Value}{vs:List V}
  (S:aa N ps scope) (hd:A.handled=none) (e0:Env0 P w K mg base A outer s H) (hl:vs.length=ps.length) (r:aQ vs us)
  (x:InCallC s s.heap.objs.size (bindL (envOfC qual scope s.heap.objs.size f cd).kindOf (ps.zip us) fun _=>none) (cellsFrom (s.heap.objs.size+1) scope.names []) (bindC (envOfC qual scope s.heap.objs.size f cd).kindOf (ps.zip us) fun _=>none) s1) :
  Inv (kW CX P w K mg base N qual scope f cd A outer s H E) [] (start N vs) H s1:=by
 have ik:ps.length≤N.length:=by have:=congrArg List.length S.pre;rw[ud]at this;lia
 obtain⟨h1,tk,rfl,hk⟩:=x.done;have oj:∀b:Addr,b∉(kW CX P w K mg base N qual scope f cd A outer s H E).ex:=fun b z=>absurd (show b∈([]:List Addr) from z) (by simp)
 refine⟨⟨e0.mod,S.kind,rfl,rfl,qw _,fun y z c h1 h2=>?_,fun y hy=>?_,fun y c _ h=>?_,fun _=>hd,Around.frames_deeper e0.frames,.inr ⟨rfl,rfl⟩,fun b z=>absurd z (oj b),e0.bs,e0.bsz,fun b _ _=>oj b,fun b z=>absurd z (oj b),e0.funs,e0.frf⟩,
  rfl,e0.bare,Un.kept hk,⟨_,x.toInCall.ns,fun i y v h1 h2 h3=>?_⟩,fun y c h=>⟨_,x.cell y c h⟩,e0.hok.fresh (qw _),fun y c h=>?_,fun p hp=>absurd (show p∈([]:vn) from hp) (by simp),e0.hok.kept hk,?_⟩
 ·exact name_of_addr x.apart (ua h1) (ua h2)
 ·have hy:scope.names.lookup y=some .cell∨scope.names.lookup y=some .free:=hy
  rcases hy with hy|hy
  ·exact xG hy
  ·exact absurd rfl (S.nofree _ (ua hy))
 ·exact Nat.le_of_lt (x.above y c (ua h))
 ·have hi:i<vs.length:=by
   unfold start at h2
   by_cases hi:i<vs.length
   ·exact hi
   ·rw[v7 (by simpa using hi)]at h2
    rw[getElem?_replicate]at h2;split at h2<;>cases h2
  have ha:vs[i]?=some v:=by
   unfold start at h2;rw[v5 (by simpa using hi),qu]at h2
   cases e:vs[i]? with
   |none=>rw[e]at h2;cases h2
   |some a=>rw[e]at h2;cases h2;rfl
  obtain⟨u,hu,rv⟩:=r.get ha;have hp:ps[i]?=some y:=by
   rw[←S.pre,List.getElem?_take_of_lt (by lia)];exact h1
  have ndP:ps.Nodup:=by rw[←S.pre];exact S.nd.sublist (List.take_sublist _ _)
  refine⟨u,rv,?_⟩
  rcases S.par y (qq hp) with k|k
  ·exact .inl ⟨k,qY ndP hp hu k⟩
  ·obtain⟨c,e⟩:=xG (n:=s.heap.objs.size+1) k;refine .inr ⟨.inl k,c,e,?_⟩;have q:=x.cell y c e
   rw[rA ndP hp hu (by show scope.names.lookup y≠_;rw[k];decide)]at q
   exact q
 ·exact e0.hok.fresh (Nat.le_of_lt (x.above y c (ua h)))
 ·unfold start;show _=N.length
  rw[t9,qv,List.length_replicate];lia
theorem VO{CX:au}{P:vk}{w:World}{K:vi}{mg:vo}{base:Heap}{k:Nat}{f:Addr}{name qual:Str}{params:Arguments}{body:List Stmt}{scope:Scope}{dV kV doc pm bt ct oc:Value}{an od:Option Addr}
  {j4:Array (Option Value)} {N ps:List Str} {sp:Sp} (lk:K.lookup f=some ⟨oc,od,.func (PySem.W.fnOf name qual params body scope dV kV doc pm an bt ct),j4⟩) (fm:codeIn K bt qual=true) (S:aa N ps scope)
  (len:∀vs H Q E,sp vs H Q E→vs.length=ps.length)
  (hbody:∀(A:Around) (outer:List Env) (s:Shared) (H:Hp) (vs:List V) (Q:VK) (E:XK),Room k (A.deeper (envOfC qual scope s.heap.objs.size f bt))→sp vs H Q E →
   ∃t,PSs (kW CX P w K mg base N qual scope f bt A outer s H E) body t∧t { nx:=fun _ H'=>Q .non H',rt:=Q } (start N vs) H) :
  FnOk P w K mg base CX (k+1) f (PySem.W.fnOf name qual params body scope dV kV doc pm an bt ct) ps sp:=by
 refine⟨len,fun A outer s H args us vs Q E hr e0 hb r bq=>?_⟩
 have hl:=len _ _ _ _ bq
 have KX:K.In s.heap:=e0.mod.kin.keeps fun b o e=>(e0.bs b o e).1
 have lim:s.heap.NoLimit:=e0.mod.nolimit.keeps fun b o e=>(e0.bs b o e).1
 have hkind:∀y∈ps.zip us,scope.names.lookup y.1=some .local∨(scope.names.lookup y.1=some .cell∧((cellsFrom (s.heap.objs.size+1) scope.names []).lookup y.1).isSome=true):=fun⟨n,v⟩ hy=>by
  rcases S.par n (of_mem_zip hy).1 with q|q
  ·exact .inl q
  ·exact .inr ⟨q,cellsFrom_some _ _ _ (.inl q)⟩
 refine codeAny_call_function hr.depth (KX _ _ lk) rfl S.co S.gen rfl (PySem.W.codeRec_of KX fm) (hb _ _ _ _ ?_);refine wpAny_newFunctionEnv_cells S.kind hkind fun env he s1 x=>?_
 subst he;refine⟨lim.keeps x.toInCall.keep,codeAny_func ?_⟩;obtain⟨t,ht,hq⟩:=hbody A outer s H vs Q E (hr.deeper _) bq;have I:Inv (kW CX P w K mg base N qual scope f bt A outer s H E) [] (start N vs) H s1:=qJ S hr.hd e0 hl r x
 refine uj (ht [] s1 (start N vs) H _ I hq) (fun fl s' hs=>?_) fun e s' hs=>hs
 have fin:∀{σ':St} {H':Hp} {v:V} {u:Value},Inv (kW CX P w K mg base N qual scope f bt A outer s H E) [] σ' H' s'→RelV v u→Q v H'→CE outer P w H s Q u s':=
  fun {σ' H' v u} J rv q=>⟨v,H',J.os,J.bare,J.base,J.hok,rv,q⟩
 cases fl with
 |ret u =>
  obtain⟨v,σ',H',J,rv,q⟩:=hs;exact fin J rv q
 |next =>
  obtain⟨σ',H',J,q⟩:=hs;exact fin (v:=V.non) (u:=Value.none) J rfl q
 |brk =>
  obtain⟨_,_,_,q⟩:=hs;exact False.elim q
 |cont =>
  obtain⟨_,_,_,q⟩:=hs;exact False.elim q
section
variable {X:Cx}{x:Str}{p pos:Pos}{e:Expr}{es:List Expr}{t:TA}{id T:String}{r:List V→Hp→VK→Prop}
def tCB(r:List V→Hp→VK→Prop)(t:TA):TE:=fun σ H Q=>t σ H fun vs H1=>r vs H1 Q
theorem fS(hc:fY X (.builtin id) r)(hg:Gl X x)(hm:X.mg x=none)(hv:bootBuiltins x=some (.builtin id))(ha:PA X (e::es) t)(hn:x≠"__name__":=by decide)(fk:(x == ("__debug__":Str))=false:=by decide)
  (he:starEach (e::es) X.env=(false,eval e X.env)::starEach es X.env:=by rfl) (ik:(backTo pos (starEach es X.env)).any (·.1)=false:=by rfl):PE X (.Call (.Name x p) (e::es) [] pos) (tCB r t):=by
 intro pins s σ H Q I h;refine wpAny_Call_Name_kw (fU I hg hm hv ?_ hn fk);exact PyProof.Rows.callWith_builtin1 (af (ha pos pins s σ H _ I h) fun us s1 ⟨vs,H1,I1,r1,q1⟩=>hc pins s1 σ H1 vs us Q I1 r1 q1) he ik
theorem qD(hc:fY X (.type T) r)(hg:Gl X x)(hm:X.mg x=none)(hv:bootBuiltins x=some (.type T))(ha:PA X (e::es) t)(hn:x≠"__name__":=by decide)(fk:(x == ("__debug__":Str))=false:=by decide)
  (he:starEach (e::es) X.env=(false,eval e X.env)::starEach es X.env:=by rfl) (ik:(backTo pos (starEach es X.env)).any (·.1)=false:=by rfl):PE X (.Call (.Name x p) (e::es) [] pos) (tCB r t):=by
 intro pins s σ H Q I h;refine wpAny_Call_Name_kw (fU I hg hm hv ?_ hn fk);exact t7 (af (ha pos pins s σ H _ I h) fun us s1 ⟨vs,H1,I1,r1,q1⟩=>hc pins s1 σ H1 vs us Q I1 r1 q1) he ik
end
end L2
namespace HT
open PySem PyProof.Rows
section
open PySem.SeqAt
open PySem.AutoSeq1 (wpAny_loadPart')
open PySem.MeetsSeq PySem.MeetsSeq2 PySem.MeetsSeq3
end
section
variable {prog:vk}{w:World}{A:Around}{E:vm}{s:Shared}
theorem UE{t b:Addr}{vs ws:List Value}{Q:vm}(ht:IsTup s.heap t vs.toArray)(hb:IsTup s.heap b ws.toArray)(hv:vs≠[])
  (h1:ws=[]→Q (.ref t) s) (h2:ws≠[]→Q (.ref s.heap.objs.size) { s with heap:=s.heap.push { cls:=.type "tuple",data:=.seq (vs++ws).toArray } })
  (hsz:vs.length+ws.length≤sizeLine):wpAny (model prog w) A (binaryOp .Add (.ref t) (.ref b)) Q E s:=by
 obtain⟨⟨cls,dd,data,sl⟩,ho,hc,n,hd⟩:=id ht;obtain⟨⟨cls2,ng,data2,lq⟩,cy,fq,n2,hd2⟩:=id hb;simp only at hc hd fq hd2;subst hc hd fq hd2;have e:vs.toArray++ws.toArray=(vs++ws).toArray:=by simp
 by_cases hw:ws=[]
 ·exact concat_meets ⟨_,ho,rfl⟩ ⟨_,cy,rfl⟩ noFill_tuple_add seq_tuple_add slot_tuple_add entry_tuple_add (args_tuple_add_2 _ _)
   (tuple_addW1 t b vs.toArray ws.toArray n n2 dd ng sl lq (by simpa using hv) (by simp[hw])) ⟨ho,cy,h1 hw⟩
 ·refine concat_meets ⟨_,ho,rfl⟩ ⟨_,cy,rfl⟩ noFill_tuple_add seq_tuple_add slot_tuple_add entry_tuple_add (args_tuple_add_2 _ _)
   (tuple_addW2 t b vs.toArray ws.toArray n n2 dd ng sl lq (by simpa using hv) (by simpa using hw) (by rw[rh,rh];exact hsz)) ⟨ho,cy,?_⟩
  rw[e];exact h2 hw
noncomputable def sIx(n d:Nat):Option Int→Nat
 |none=>d
 |some v=>if v<0 then(v+(n:Int)).toNat else min v.toNat n
theorem YD(n d:Nat)(hd:d≤n)(o:Option Int):sIx n d o≤n:=by
 cases o with
 |none=>exact hd
 |some v =>
  show (if v<0 then(v+(n:Int)).toNat else min v.toNat n)≤n
  by_cases hv:v<0
  ·rw[if_pos hv];lia
  ·rw[if_neg hv];exact min_le_right _ _
theorem DI(v:Int)(n d:Nat):(if v<0 then max (v+(n:Int)) 0 else min v (n:Int))=((sIx n d (some v):Nat):Int):=by
 show (if v<0 then max (v+(n:Int)) 0 else min v (n:Int))=(((if v<0 then(v+(n:Int)).toNat else min v.toNat n):Nat):Int)
 by_cases hv:v<0
 ·simp only[if_pos hv];lia
 ·simp only[if_neg hv];lia
theorem zO(lo hi:Option Int)(n:Nat):Builtin.Slice.sliceAdjust lo hi 1 (n:Int)=(((sIx n 0 lo:Nat):Int),((sIx n n hi:Nat):Int)):=by
 have h1:¬((1:Int)<0):=by lia
 unfold Builtin.Slice.sliceAdjust;simp only[h1,if_false];refine Prod.ext ?_ ?_
 ·cases lo with
  |none=>rfl
  |some v=>exact DI v n 0
 ·cases hi with
  |none=>rfl
  |some v=>exact DI v n n
theorem yB(i j:Nat):Builtin.Slice.slicePlaces (i:Int) (j:Int) 1=j-i:=by
 unfold Builtin.Slice.slicePlaces;have h1:(1:Int) > 0:=by lia
 simp only[h1,if_true,Int.ediv_one];split<;>lia
theorem nQ{v:Value}{o:Option Int}{Q:Option Int→Shared→Prop}(p:IsPart v o)(h:Q o s):wpAny (model prog w) A (Builtin.Slice.slicePartIndex v) Q E s:=by
 cases p with
 |none=>exact slicePart_none h
 |int i t=>exact slicePart_int h
theorem lE{sl:Addr}{vl vu:Value}{lo hi:Option Int}{n:Nat}{Q:Int×Int×Nat→Shared→Prop}(hs:s.heap.IsSliceOf sl vl vu .none)(pl:IsPart vl lo)(pu:IsPart vu hi)
  (h:Q (((sIx n 0 lo:Nat):Int),1,sIx n n hi-sIx n 0 lo) s):wpAny (model prog w) A (Builtin.Slice.sliceApplied (.ref sl) (pure (n:Int))) Q E s:=by
 obtain⟨os,ka,hcs,bo⟩:=id hs;unfold Builtin.Slice.sliceApplied Builtin.Slice.sliceFields;refine uh (uh (wpAny_field ka bo (x:=vl) rfl (uh (wpAny_field ka bo (x:=vu) rfl (uh (wpAny_field ka bo (x:=.none) rfl (ui ?_)))))));refine uh (slicePart_none ?_);show wpAny _ _ (if ((1:Int) == 0)=true then _ else _) _ _ s
 rw[if_neg (by decide)]
 refine uh (nQ pl (uh (nQ pu (uh (ui ?_)))));show wpAny _ _ (match Builtin.Slice.sliceAdjust lo hi 1 (n:Int) with|(lo,hi)=>pure (lo,(1:Int),Builtin.Slice.slicePlaces lo hi 1)) _ _ s
 rw[zO lo hi n];show wpAny _ _ (pure (((sIx n 0 lo:Nat):Int),(1:Int),Builtin.Slice.slicePlaces ((sIx n 0 lo:Nat):Int) ((sIx n n hi:Nat):Int) 1)) _ _ s
 rw[yB];exact ui h
theorem IJ(xs:Array Value)(i k:Nat):((List.range k).filterMap fun (m:Nat)=>xs[((i:Int)+(m:Int)*1).toNat]?).toArray=((xs.toList.drop i).take k).toArray:=by
 have e:(fun (m:Nat)=>xs[((i:Int)+(m:Int)*1).toNat]?)=fun m=>xs[i+m]?:=by
  funext m
  have:((i:Int)+(m:Int)*1).toNat=i+m:=by lia
  rw[this]
 rw[e];have:=pick_run xs i k
 rw[List.filterMap_map]at this;have e2:((fun x=>xs[x]?) ∘ fun x=>i+x)=fun m=>xs[i+m]?:=rfl
 rw[e2]at this;rw[this]
theorem kO{t sl:Addr}{items:Array Value}{vl vu:Value}{lo hi:Option Int}{Q:vm}(ht:IsTup s.heap t items)(hs:s.heap.IsSliceOf sl vl vu .none)(pl:IsPart vl lo)(pu:IsPart vu hi)
  (hw:¬(sIx items.size 0 lo=0∧sIx items.size items.size hi=items.size))
  (h:Q (.ref s.heap.objs.size) { s with heap:=s.heap.push { cls:=.type "tuple",data:=.seq ((items.toList.drop (sIx items.size 0 lo)).take (sIx items.size items.size hi-sIx items.size 0 lo)).toArray } })
  (hsz:items.size≤sizeLine):wpAny (model prog w) A (getItem (.ref t) (.ref sl)) Q E s:=by
 have htake:sizeOk (.seq ((items.toList.drop (sIx items.size 0 lo)).take (sIx items.size items.size hi-sIx items.size 0 lo)).toArray):=by
  show ((items.toList.drop (sIx items.size 0 lo)).take (sIx items.size items.size hi-sIx items.size 0 lo)).toArray.size≤sizeLine
  rw[rh,ud,vd,length_toList];lia
 have hj:sIx items.size items.size hi≤items.size:=YD _ _ (qw _) hi
 obtain⟨os,ka,hcs,bo⟩:=id hs;have hTs:s.TypeIs (.ref sl) "slice":=⟨os,ka,hcs⟩
 unfold getItem
 try with_reducible refine wpAny_holding ?_
 first|refine uh (ui ?_)|skip
 refine uh (wpAny_sequenceKey ht.typeIs (by decide) ?_)
 refine uh (wpAny_callSpecial?_slot (name:=Str.ofString "__getitem__") ht.typeIs PyProof.Rows.slot_tuple_getitem
  (wpAny_call_entry PyProof.Rows.slot_tuple_getitem ht.typeIs entry_tuple_getitem ?_ (args_tuple_getitem _ _)))
 show wpAny _ _ (Builtin.Tuple.tupleItemsOf (.ref t) >>= _) _ _ s
 refine uh (tupleItemsOf_ ht ?_);refine uh (wpAny_typeOf hTs ?_);rw[if_pos (by decide)]
 refine uh (lE hs pl pu ?_);have hno:¬((((sIx items.size 0 lo:Nat):Int) == 0&&(1:Int) == 1&&(sIx items.size items.size hi-sIx items.size 0 lo) == items.size)=true):=by
  intro q;rw[rj,rj]at q;have q1:((sIx items.size 0 lo:Nat):Int)=0:=eq_of_beq q.1.1
  have q2:sIx items.size items.size hi-sIx items.size 0 lo=items.size:=eq_of_beq q.2
  exact hw ⟨by lia,by lia⟩
 show wpAny _ _ (if (((sIx items.size 0 lo:Nat):Int) == 0&&(1:Int) == 1&&(sIx items.size items.size hi-sIx items.size 0 lo) == items.size)=true then _ else _) _ _ s
 rw[if_neg hno,IJ]
 first
  |exact uh (m:=Builtin.Tuple.tupleExact _) (wpAny_newObj_type (ui ⟨_,rfl,ui h⟩) htake)
  |exact uh (m:=Builtin.Tuple.tupleExact _) (wpAny_newObj_type (uh (ui (ui ⟨_,rfl,ui h⟩))) htake)
  |exact uh (uh (m:=Builtin.Tuple.tupleExact _) (wpAny_newObj_type (ui (ui ⟨_,rfl,ui h⟩)) htake))
  |exact uh (uh (m:=Builtin.Tuple.tupleExact _) (wpAny_newObj_type (ui ⟨_,rfl,ui h⟩) htake))
end
end HT
namespace L2
open PySem PySem.Spec PyProof.Rows
abbrev TO:=St→Hp→(Option Int→Hp→Prop)→Prop
def PO(X:Cx)(e:Option Expr)(t:TO):Prop:=
 ∀(pins:vn) (s:Shared) (σ:St) (H:Hp) (Q:Option Int→Hp→Prop),Inv X pins σ H s→t σ H Q →
  wpAny (model X.prog X.w) X.A (evalPart e X.env) (fun u s'=>∃o H',Inv X pins σ H' s'∧IsPart u o∧Q o H') X.xe s
noncomputable def OO:TO:=fun _ H Q=>Q none H
noncomputable def aCs(t:TE):TO:=fun σ H Q=>t σ H fun x H1=>∃i,x=.int i∧Q (some i) H1
section
variable {X:Cx}{e:Expr}{te:TE}{lo hi:Option Expr}{tl th:TO}{pos p2:Pos}
theorem QQ:PO X none OO:=by
 intro pins s σ H Q I h;rw[evalPart_none];exact ui ⟨none,H,I,.none,h⟩
theorem QP(h:PE X e te):PO X (some e) (aCs te):=by
 intro pins s σ H Q I hw;rw[evalPart_some];refine af (h pins s σ H _ I hw) fun u s1 ⟨x,H1,I1,r1,q1⟩=>?_
 obtain⟨i,rfl,q⟩:=q1;obtain⟨t,rfl⟩:=r1;exact⟨some i,H1,I1,.int i t,q⟩
def SlR(X:Cx)(r:V→Option Int→Option Int→Hp→VK→Prop):Prop:=
 ∀(pins:vn) (s:Shared) (σ:St) (H:Hp) (x:V) (v vl vu:Value) (lo hi:Option Int) (sl:Addr) (Q:VK),Inv X pins σ H s→RelV x v→s.heap.IsSliceOf sl vl vu .none→IsPart vl lo→IsPart vu hi→r x lo hi H Q →
  ∃T id,typeLookup (.type T) "__getitem__" = pure (some (.builtin id))∧s.TypeIs v T∧wpAny (model X.prog X.w) X.A (getItem v (.ref sl)) (EP X pins σ Q) X.xe s
def tSl(r:V→Option Int→Option Int→Hp→VK→Prop)(te:TE)(tl th:TO):TE:=fun σ H Q=>te σ H fun x H1=>tl σ H1 fun l H2=>th σ H2 fun u H3=>r x l u H3 Q
theorem vK{r:V→Option Int→Option Int→Hp→VK→Prop}(hr:SlR X r)(he:PE X e te)(hl:PO X lo tl)(hu:PO X hi th):PE X (.Subscript e (.Slice lo hi none p2) pos) (tSl r te tl th):=by
 intro pins s σ H Q I h;refine Subscript_ (af (he pins s σ H _ I h) fun v s1 ⟨x,H1,I1,r1,q1⟩=>?_)
 refine wpAny_Slice (af (hl pins s1 σ H1 _ I1 q1) fun vl s2 ⟨l,H2,I2,pl,q2⟩=>af (hu pins s2 σ H2 _ I2 q2) fun vu s3 ⟨u,H3,I3,pu,q3⟩=>?_)
 rw[evalPart_none];refine ui ?_;have I4:Inv X pins σ H3 { s3 with heap:=s3.heap.push { cls:=.type "slice",data:=.fields #[vl,vu,.none] } }:=I3.kept (t':=s3.toks) fun b ob q=>qz _ q
 obtain⟨T,id,hT,ht,hg⟩:=hr pins { s3 with heap:=s3.heap.push { cls:=.type "slice",data:=.fields #[vl,vu,.none] } } σ H3 x v vl vu l u s3.heap.objs.size Q I4 r1 (Heap.IsSliceOf.new ..) pl pu q3
 show wpAny (model X.prog X.w) X.A (subscriptTail e (.Slice lo hi none p2) v (.ref s3.heap.objs.size)) (EP X pins σ Q) X.xe { s3 with heap:=s3.heap.push { cls:=.type "slice",data:=.fields #[vl,vu,.none] } }
 exact tail_any (ops:=[.ref s3.heap.objs.size,v]) ht hT hg (by with_unfolding_all rfl)
noncomputable def wZ(xs:List V)(lo hi:Option Int):List V:=(xs.drop (HT.sIx xs.length 0 lo)).take (HT.sIx xs.length xs.length hi-HT.sIx xs.length 0 lo)
theorem mQ(xs:List V)(lo hi:Option Int):(wZ xs lo hi).length≤xs.length:=by
 unfold wZ;rw[ud,vd];lia
noncomputable def aHG(K:vi):V→Option Int→Option Int→Hp→VK→Prop:=fun x lo hi H Q=>∃a xs,x=.ref a∧SqT K H a xs ∧
 ¬(HT.sIx xs.length 0 lo=0∧HT.sIx xs.length xs.length hi=xs.length)∧∀p,H p=none→Q (.ref p) (upd H p (.tup (wZ xs lo hi)))
theorem XZ:SlR X (aHG X.K):=by
 intro pins s σ H x v vl vu lo hi sl Q I rx hs pl pu h;obtain⟨a,xs,rfl,hx,hw,q⟩:=h;cases rx;obtain⟨its,r,ht,hz⟩:=I.tuple hx;have hlen:its.toArray.size=xs.length:=by rw[rh];exact r.length.symm
 refine⟨"tuple",_,PyProof.Rows.slot_tuple_getitem.lookup,ht.typeIs,?_⟩;refine HT.kO ht hs pl pu (by rw[hlen];exact hw) ?_ (by rw[hlen];exact hz)
 rw[hlen];refine⟨.ref s.heap.objs.size,_,I.laid (t':=s.toks) (o:=.tup (wZ xs lo hi)) (fun b ob q=>qz _ q) (qw _) ?_,rfl,q _ (I.hok.fresh (qw _))⟩
 exact⟨sr (mQ xs lo hi) hz,_,(r.drop (HT.sIx xs.length 0 lo)).take (HT.sIx xs.length xs.length hi-HT.sIx xs.length 0 lo),IsTup.new _ _⟩
noncomputable def aDJ(K:vi):R2:=fun x y H Q=>∃a b xs ys,x=.ref a∧y=.ref b∧SqT K H a xs∧SqT K H b ys∧xs≠[]∧xs.length+ys.length≤sizeLine ∧
 (ys=[]→Q (.ref a) H)∧(ys≠[]→∀p,H p=none→Q (.ref p) (upd H p (.tup (xs++ys))))
theorem aQ.nil_iff{xs:List V}{us:List Value}(r:aQ xs us):us=[]↔xs=[]:=by
 cases r with
 |nil=>simp
 |cons _ _=>simp
theorem RG:ay X (binaryOp .Add) (aDJ X.K):=by
 intro pins s σ H x y v u Q I rx ry h;obtain⟨a,b,xs,ys,rfl,rfl,ha,hb,hx,hz,q1,q2⟩:=h;cases rx;cases ry;obtain⟨its,r1,p1,_⟩:=I.tuple ha;obtain⟨da,r2,p2,_⟩:=I.tuple hb;refine HT.UE p1 p2 (fun z=>hx (r1.nil_iff.mp z)) (fun z=>⟨.ref a,H,I,rfl,q1 (r2.nil_iff.mp z)⟩) (fun z=>?_) (by rw[←r1.length,←r2.length];exact hz)
 refine⟨.ref s.heap.objs.size,_,I.laid (t':=s.toks) (o:=.tup (xs++ys)) (fun b ob q=>qz _ q) (qw _) ?_,rfl,q2 (fun w=>z (r2.nil_iff.mpr w)) _ (I.hok.fresh (qw _))⟩
 exact⟨by rw[t9];exact hz,_,r1.append r2,IsTup.new _ _⟩
end
noncomputable def ixN(n:Nat)(i:Int):Option Nat:=if 0≤i then(if i<n then some i.toNat else none) else if -(n:Int)≤i then some (i+n).toNat else none
noncomputable def atI{α:Type}(xs:List α)(i:Int):Option α:=(ixN xs.length i).bind fun j=>xs[j]?
theorem AW{n:Nat}{i:Int}{j:Nat}(h:ixN n i=some j):seqIndex? i n=some j∧j<n∧-(n:Int)≤i∧i<n:=by
 unfold ixN at h
 by_cases h0:0≤i
 ·rw[if_pos h0]at h
  by_cases h1:i<n
  ·rw[if_pos h1]at h;have e:i.toNat=j:=rn h
   exact⟨by rw[seqIndex_of h0 h1,e],by lia,by lia,h1⟩
  ·rw[if_neg h1]at h;cases h
 ·rw[if_neg h0]at h
  by_cases h1:-(n:Int)≤i
  ·rw[if_pos h1]at h;have e:(i+n).toNat=j:=rn h
   exact⟨by rw[seqIndex_neg (by lia) h1,e],by lia,h1,by lia⟩
  ·rw[if_neg h1]at h;cases h
theorem uJ{α:Type}{xs:List α}{i:Int}{v:α}(h:atI xs i=some v):∃j,seqIndex? i xs.length=some j∧xs[j]?=some v∧j<xs.length∧-(xs.length:Int)≤i∧i<xs.length:=by
 unfold atI at h;cases e:ixN xs.length i with
 |none=>rw[e]at h;cases h
 |some j =>
  rw[e]at h;obtain⟨h1,h2,h3,h4⟩:=AW e;exact⟨j,h1,h,h2,h3,h4⟩
theorem UI{α:Type}{xs:List α}{j:Nat}{v:α}(h:xs[j]?=some v):atI xs (j:Int)=some v:=by
 have hj:j<xs.length:=(q8.mp h).1
 have e:ixN xs.length (j:Int)=some j:=by
  unfold ixN;rw[if_pos (by lia),if_pos (by lia)];simp
 unfold atI;rw[e];exact h
def lA(b:Expr):Prop:=∀o i,subscripted b false o i=operate [o,i] (getItem o i)
def IxR(X:Cx)(r:R2):Prop:=
 ∀(value slice:Expr) (pins:vn) (s:Shared) (σ:St) (H:Hp) (x y:V) (v u:Value) (Q:VK),Inv X pins σ H s→RelV x v→RelV y u→r x y H Q →
  subscripted slice false v u=operate [v,u] (getItem v u)→wpAny (model X.prog X.w) X.A (subscriptTail value slice v u) (EP X pins σ Q) X.xe s
def MtR(X:Cx)(id:String)(r:V→List V→Hp→VK→Prop):Prop:=
 ∀(pins:vn) (s:Shared) (σ:St) (H:Hp) (x:V) (xs:List V) (v:Value) (us:List Value) (Q:VK),Inv X pins σ H s→RelV x v→aQ xs us→r x xs H Q →
  wpAny (model X.prog X.w) X.A (call (.builtin id) (v::us)) (EP X pins σ Q) X.xe s
section
variable {X:Cx}{a b:Expr}{ta tb:TE}{pos:Pos}
theorem IxR.or{r r':R2}(h:IxR X r)(h':IxR X r'):IxR X (fun x y H Q=>r x y H Q∨r' x y H Q):=by
 intro value slice pins s σ H x y v u Q I rx ry q hs
 rcases q with q|q
 ·exact h value slice pins s σ H x y v u Q I rx ry q hs
 ·exact h' value slice pins s σ H x y v u Q I rx ry q hs
theorem VE{r:R2}(hr:IxR X r)(ha:PE X a ta)(hb:PE X b tb)(hs:lA b):PE X (.Subscript a b pos) (jc r ta tb):=by
 intro pins s σ H Q I h;exact Subscript_ (aBh ha hb I h fun v u s2 x y H2 I2 rx ry q=>hr a b pins s2 σ H2 x y v u Q I2 rx ry q (hs _ _))
noncomputable def YI(K:vi):R2:=fun x y H Q=>∃p xs i v,x=.ref p∧y=.int i∧SqL K H p xs∧atI xs i=some v∧Q v H
noncomputable def aDE(K:vi):R2:=fun x y H Q=>∃p xs i v,x=.ref p∧y=.int i∧SqT K H p xs∧atI xs i=some v∧Q v H
noncomputable def aDF:R2:=fun x y H Q=>∃z i c,x=.str z∧y=.int i∧z.length≤sizeLine∧atI z.cps.toList i=some c∧Q (.str ⟨#[c]⟩) H
theorem AV:IxR X (YI X.K):=by
 intro value slice pins s σ H x y v u Q I rx ry h hs;obtain⟨p,xs,i,z,rfl,rfl,hq,he,q⟩:=h;cases rx;obtain⟨t,rfl⟩:=ry;obtain⟨its,r,pl,hz⟩:=I.list hq;obtain⟨j,h1,h2,h3,h4,h5⟩:=uJ he;obtain⟨w,ew,ie⟩:=r.get h2;have hl:=r.length
 have hn:=jX
 have fin:EP X pins σ Q w s:=⟨z,H,I,ie,q⟩
 by_cases h0:0≤i
 ·have hj:i.toNat=j:=by
   rw[seqIndex_of h0 h5]at h1;exact rn h1
  exact item_listR pl.isList h0 (by lia) (by rw[hj];simpa using ew) fin hs
 ·have hj:(i+(its.toArray.size:Int)).toNat=j:=by
   rw[seqIndex_neg (by lia) h4]at h1
   rw[rh,←hl];exact rn h1
  exact subscriptTail_builtinR (x:=w) pl.isList.typeIs slot_list_getitem.lookup
   (wpAny_getItem_list_neg (Q:=fun r s'=>r=w∧EP X pins σ Q r s') pl.isList (by lia) (by rw[rh]<;>lia) (by lia) (by rw[hj];simpa using ew) ⟨rfl,fin⟩) hs
theorem aAx:IxR X (aDE X.K):=by
 intro value slice pins s σ H x y v u Q I rx ry h hs;obtain⟨p,xs,i,z,rfl,rfl,hq,he,q⟩:=h;cases rx;obtain⟨t,rfl⟩:=ry;obtain⟨its,r,pl,hz⟩:=I.tuple hq;obtain⟨j,h1,h2,h3,h4,h5⟩:=uJ he;obtain⟨w,ew,ie⟩:=r.get h2;have hl:=r.length
 have hn:=jX
 have fin:EP X pins σ Q w s:=⟨z,H,I,ie,q⟩
 exact subscriptTail_builtinR (x:=w) pl.typeIs slot_tuple_getitem.lookup
  (getItem_tuple (j:=j) (Q:=fun r s'=>r=w∧EP X pins σ Q r s') pl (by lia) (by lia) (by rw[rh,←hl];exact h1) (by simpa using ew) ⟨rfl,fin⟩) hs
theorem aAy:IxR X aDF:=by
 intro value slice pins s σ H x y v u Q I rx ry h hs;obtain⟨z,i,c,rfl,rfl,hz,he,q⟩:=h;obtain⟨t,rfl⟩:=rx;obtain⟨t',rfl⟩:=ry;obtain⟨j,h1,h2,h3,h4,h5⟩:=uJ he;have hl:z.cps.toList.length=z.length:=by simp[Str.length]
 rw[hl]at h1 h4 h5;have hn:=jX
 exact tail_any (typeIs_str s z t) slot_str_getitem.lookup (getItem_str (c:=c) (by
  have e1:decide (i < -(2 ^ 63:Int))=false:=qy (by lia)
  have e2:decide (i ≥ 2 ^ 63)=false:=qy (by lia)
  rw[e1,e2,Bool.or_false]) (by rw[h1];simpa using h2) ⟨.str ⟨#[c]⟩,H,I.tok _,⟨_,rfl⟩,q⟩) hs
noncomputable def rIx(K:vi):R2:=fun x y H Q=>YI K x y H Q∨aDE K x y H Q∨aDF x y H Q
theorem aAz:IxR X (rIx X.K):=AV.or (aAx.or aAy)
theorem yO(its:List Value)(n j:Nat)(u:Value):Obj.mapSeq (·.setIfInBounds j u) { cls:=.type "list",data:=.seq its.toArray n }={ cls:=.type "list",data:=.seq (its.set j u).toArray n }:=by
 simp[Obj.mapSeq]
theorem Inv.lst{pins:vn}{σ:St}{H:Hp}{s:Shared}{p:Addr}{xs:List V}(I:Inv X pins σ H s)(h:H p=some (.lst xs)) :
  ∃(its:List Value) (n:Nat),aQ xs its∧s.heap.get? p=some { cls:=.type "list",data:=.seq its.toArray n }∧xs.length≤sizeLine:=by
 obtain⟨z,its,n,r,e⟩:=I.hok p _ h;exact⟨its,n,r,e,z⟩
theorem Inv.lstUpd{pins:vn}{σ:St}{H:Hp}{s:Shared}{p:Addr}{xs ys:List V}{its its':List Value}{n n':Nat}{f:Obj→Obj}(I:Inv X pins σ H s)(h:H p=some (.lst xs))
  (ho:s.heap.get? p=some { cls:=.type "list",data:=.seq its.toArray n }) (hf:f { cls:=.type "list",data:=.seq its.toArray n }={ cls:=.type "list",data:=.seq its'.toArray n' }) (r:aQ ys its') (hz:ys.length≤sizeLine) (t:Nat) :
  Inv X pins σ (upd H p (.lst ys)) { s with heap:=s.heap.update p f,toks:=t }:=by
 have e:(s.heap.update p f).get? p=some { cls:=.type "list",data:=.seq its'.toArray n' }:=by
  rw[Heap.get?_update_self f ho (by rw[hf]<;>rfl),hf]
 refine I.write (x:=p) (e:=p) (by rw[h];trivial) (.inl rfl) (fun b u hb q=>(Heap.get?_update_other _ _ (Ne.symm hb)).trans q) ⟨_,e⟩ ?_
 exact⟨hz,its',n',r,e⟩
noncomputable def aDD:V→V→V→Hp→(Hp→Prop)→Prop:=fun o i v H Q=>∃p xs k j,o=.ref p∧i=.int k∧H p=some (.lst xs)∧ixN xs.length k=some j∧Q (upd H p (.lst (xs.set j v)))
theorem set_list:aGg X aDD:=by
 intro pins s σ H o i v ov iv u Q I ro ri rv h;obtain⟨p,xs,k,j,rfl,rfl,hp,hj,q⟩:=h;cases ro;obtain⟨t,rfl⟩:=ri;obtain⟨its,n,r,ho,hz⟩:=I.lst hp;obtain⟨h1,h2,h3,h4⟩:=AW hj;have hl:=r.length
 have hn:=jX
 have I':Inv X pins σ (upd H p (.lst (xs.set j v))) { s with heap:=s.heap.update p (Obj.mapSeq (·.setIfInBounds j u)) }:=
  I.lstUpd hp ho (yO its n j u) (r.set rv j) (by rw[List.length_set];exact hz) s.toks
 by_cases h0:0≤k
 ·have hk:k.toNat=j:=by
   rw[seqIndex_of h0 h4]at h1;exact rn h1
  exact PySem.W.ki_setAt ho h0 (by lia) (by rw[rh,←hl];exact h4) (by rw[hk];exact⟨_,I',q⟩)
 ·have hk:(k+(its.toArray.size:Int)).toNat=j:=by
   rw[seqIndex_neg (by lia) h3]at h1
   rw[rh,←hl];exact rn h1
  exact PySem.W.ki_setBack ho (by lia) (by rw[rh,←hl];exact h3) (by lia) (by rw[hk];exact⟨_,I',q⟩)
theorem rR(lo hi:Option Int)(n:Nat):(sliceBounds lo hi none n).1=((HT.sIx n 0 lo:Nat):Int)∧(sliceBounds lo hi none n).2.1=((HT.sIx n n hi:Nat):Int)∧(sliceBounds lo hi none n).2.2=1:=by
 refine⟨?_,?_,rfl⟩
 ·cases lo with
  |none=>simp[sliceBounds,HT.sIx]
  |some i =>
   simp only[sliceBounds,HT.sIx,Option.getD_none,show (1:Int) > 0 by decide,if_true]
   by_cases h:i<0
   ·simp only[h,if_true]<;>lia
   ·simp only[h,if_false]<;>lia
 ·cases hi with
  |none=>simp[sliceBounds,HT.sIx]
  |some i =>
   simp only[sliceBounds,HT.sIx,Option.getD_none,show (1:Int) > 0 by decide,if_true]
   by_cases h:i<0
   ·simp only[h,if_true]<;>lia
   ·simp only[h,if_false]<;>lia
theorem pE(its:List Value)(lo hi:Option Int):slicePick its.toArray lo hi none=((its.drop (HT.sIx its.length 0 lo)).take (HT.sIx its.length its.length hi-HT.sIx its.length 0 lo)).toArray:=by
 obtain⟨h1,h2,h3⟩:=rR lo hi its.toArray.size;unfold slicePick;rw[h1,h2,h3];simp only[sliceRange_one,pick_run,rh]<;>rfl
noncomputable def aHH(K:vi):V→Option Int→Option Int→Hp→VK→Prop:=fun x lo hi H Q=>∃a xs,x=.ref a∧SqL K H a xs∧∀p,H p=none→Q (.ref p) (upd H p (.lst (wZ xs lo hi)))
theorem PB:SlR X (aHH X.K):=by
 intro pins s σ H x v vl vu lo hi sl Q I rx hs pl pu h;obtain⟨a,xs,rfl,hx,q⟩:=h;cases rx;obtain⟨its,r,ht,hz⟩:=I.list hx;have hlen:=r.length
 refine⟨"list",_,slot_list_getitem.lookup,ht.isList.typeIs,?_⟩;refine wpAny_getItem_list_slice ht.isList hs pl pu .none (by simp) ?_ (by rw[rh]<;>lia)
 rw[pE,←hlen];refine⟨.ref s.heap.objs.size,_,I.laid (t':=s.toks) (o:=.lst (wZ xs lo hi)) (fun b ob q=>qz _ q) (qw _) ?_,rfl,q _ (I.hok.fresh (qw _))⟩
 exact⟨sr (mQ xs lo hi) hz,_,0,(r.drop (HT.sIx xs.length 0 lo)).take (HT.sIx xs.length xs.length hi-HT.sIx xs.length 0 lo),uk _ rfl⟩
theorem iH:fY X (.builtin "len") (fun xs H Q=>∃p ys,xs=[.ref p]∧(SqL X.K H p ys∨SqT X.K H p ys)∧Q (.int ys.length) H):=by
 intro pins s σ H xs us Q I r h;obtain⟨p,ys,rfl,hq,q⟩:=h;obtain⟨u,rfl,rx⟩:=vals1 r;cases rx;have hn:=jX
 rcases hq with hq|hq
 ·obtain⟨its,r',pl,hz⟩:=I.list hq;have hlen:=r'.length
  exact Calls.call_len_list pl.isList (by simp only[rh]<;>lia) ⟨.int ys.length,H,I.tok _,⟨s.toks+1,by rw[rh,hlen]⟩,q⟩
 ·obtain⟨its,r',pl,hz⟩:=I.tuple hq;have hlen:=r'.length
  exact len_tuple pl (by simp only[rh]<;>lia) ⟨.int ys.length,H,I.tok _,⟨s.toks+1,by rw[rh,hlen]⟩,q⟩
theorem uF:fY X (.builtin "len") (fun xs H Q=>∃z,xs=[.str z]∧z.length≤sizeLine∧Q (.int z.length) H):=by
 intro pins s σ H xs us Q I r h;obtain⟨z,rfl,hz,q⟩:=h;obtain⟨u,rfl,t,rfl⟩:=vals1 r;have hn:=jX
 exact len_str (by lia) ⟨.int z.length,H,I.tok _,⟨_,rfl⟩,q⟩
theorem iG:fY X (.type "list") (fun xs H Q=>∃p ys,xs=[.ref p]∧(SqL X.K H p ys∨SqT X.K H p ys)∧∀l,H l=none→Q (.ref l) (upd H l (.lst ys))):=by
 intro pins s σ H xs us Q I r h;obtain⟨p,ys,rfl,hq,q⟩:=h;obtain⟨u,rfl,rx⟩:=vals1 r;cases rx;have fin:∀(its:List Value),aQ ys its→ys.length≤sizeLine→∀(h':Heap) (c':Nat),(∀b o',s.heap.get? b=some o'→h'.get? b=some o') →
   h'.get? s.heap.objs.size=some { cls:=.type "list",dict:=none,data:=.seq its.toArray c',slots:=#[] }→EP X pins σ Q (.ref s.heap.objs.size) { s with heap:=h' }:=fun its r' hz h' c' kp e =>
  ⟨.ref s.heap.objs.size,_,I.laid (t':=s.toks) kp (qw _) (show bZ X.prog X.w _ h' _ (.lst ys) from⟨hz,its,c',r',e⟩),rfl,q _ (I.hok.fresh (qw _))⟩
 rcases hq with hq|hq
 ·obtain⟨its,r',pl,hz⟩:=I.list hq;have hlen:=r'.length
  obtain⟨o,ho,hc,n,hd⟩:=pl.isList;exact call_list_seq p (.inl rfl) ho hc hd (fun h' c' kp e=>fin its r' hz h' c' kp e) (by simp only[rh]<;>lia)
 ·obtain⟨its,r',pl,hz⟩:=I.tuple hq;have hlen:=r'.length
  obtain⟨o,ho,hc,n,hd⟩:=pl;exact call_list_seq p (.inr rfl) ho hc hd (fun h' c' kp e=>fin its r' hz h' c' kp e) (by simp only[rh]<;>lia)
theorem jT:fY X (.type "tuple") (fun xs H Q=>∃p ys,xs=[.ref p]∧((SqL X.K H p ys∧∀l,H l=none→Q (.ref l) (upd H l (.tup ys)))∨(SqT X.K H p ys∧Q (.ref p) H))):=by
 intro pins s σ H xs us Q I r h;obtain⟨p,ys,rfl,h⟩:=h;obtain⟨u,rfl,rx⟩:=vals1 r;cases rx
 rcases h with ⟨hq,q⟩|⟨hq,q⟩
 ·obtain⟨its,r',pl,hz⟩:=I.list hq;have hlen:=r'.length
  refine call_tuple_list pl.isList (fun h' kp=>?_) (by simp only[rh]<;>lia)
  have I1:Inv X pins σ H { s with heap:=h' }:=I.kept (t':=s.toks) kp
  have I2:Inv X pins σ (upd H h'.objs.size (.tup ys)) { s with heap:=h'.push { cls:=.type "tuple",data:=.seq its.toArray } }:=
   I1.laid (t':=s.toks) (fun b o e=>qz _ e) (qw _) (show bZ X.prog X.w _ _ _ (.tup ys) from⟨hz,its,r',IsTup.new _ _⟩)
  exact⟨.ref h'.objs.size,_,I2,rfl,q _ (I1.hok.fresh (qw _))⟩
 ·obtain⟨its,r',pl,hz⟩:=I.tuple hq;exact call_tuple_same pl ⟨.ref p,H,I,rfl,q⟩
def tyV(K:vi)(T:String)(x:V)(H:Hp):Prop:=match x with
 |.str _=>T = "str"
 |.int _=>T = "int"
 |.ref p=>(T = "list"∧∃xs,SqL K H p xs)∨(T = "tuple"∧∃o,K.lookup p=some o∧o.cls=.type "tuple"∧o.dict=none) ∨
   (T = "dict"∧((∃kvs,H p=some (.dK kvs))∨∃kvs,H p=some (.dT kvs)))∨(T = "set"∧∃S n,H p=some (.set S n))
 |_=>False
theorem GX{pins:vn}{σ:St}{H:Hp}{s:Shared}{T:String}{x:V}{v:Value}(I:Inv X pins σ H s)(r:RelV x v)(ty:tyV X.K T x H) :
  s.TypeIs v T∧∀a,v=.ref a→∃ob,s.heap.get? a=some ob∧ob.dict=none:=by
 cases x with
 |str z =>
  obtain⟨t,rfl⟩:=r;cases (show T = "str" from ty)
  exact⟨typeIs_str s z t,fun _ e=>nomatch e⟩
 |int i =>
  obtain⟨t,rfl⟩:=r;cases (show T = "int" from ty)
  exact⟨typeIs_int s i t,fun _ e=>nomatch e⟩
 |ref p =>
  cases r
  rcases ty with ⟨rfl,xs,hq⟩|⟨rfl,o,hk,hc,hd⟩|⟨rfl,hk⟩|⟨rfl,S,n,hk⟩
  ·obtain⟨its,_,pl,_⟩:=I.list hq;refine⟨pl.isList.typeIs,fun a e=>?_⟩
   cases e;obtain⟨o,n,e,c,hd,_⟩:=pl;exact⟨o,e,hd⟩
  ·refine⟨⟨o,I.kIn p o hk,hc⟩,fun a e=>?_⟩
   cases e;exact⟨o,I.kIn _ o hk,hd⟩
  ·have z:∃o,s.heap.get? p=some o∧o.ExactDict:=by
    rcases hk with ⟨kvs,hk⟩|⟨kvs,hk⟩
    ·obtain⟨_,_,_,_,o,_,_,e,ex,_⟩:=I.hok p _ hk;exact⟨o,e,ex⟩
    ·obtain⟨_,_,_,_,o,_,_,e,ex,_⟩:=I.hok p _ hk;exact⟨o,e,ex⟩
   obtain⟨o,e,ex⟩:=z;refine⟨⟨o,e,ex.1⟩,fun a e2=>?_⟩
   cases e2;exact⟨o,e,ex.2.1⟩
  ·obtain⟨o,_,_,_,e,ex,_⟩:=I.hok p _ hk;refine⟨⟨o,e,ex.1⟩,fun a e2=>?_⟩
   cases e2;exact⟨o,e,ex.2.1⟩
 |_=>exact False.elim ty
def aHj(K:vi)(T:String)(r:V→List V→Hp→VK→Prop)(to:TE):TE:=fun σ H Q=>to σ H fun x H1=>tyV K T x H1∧r x [] H1 Q
def tBM(K:vi)(T:String)(r:V→List V→Hp→VK→Prop)(to:TE)(t:TA):TE:=fun σ H Q=>to σ H fun x H1=>tyV K T x H1∧t σ H1 fun xs H2=>r x xs H2 Q
variable {o e:Expr}{es:List Expr}{to:TE}{t:TA}{name:Str}{apos a9:Pos}{T id:String}{r:V→List V→Hp→VK→Prop}
theorem ZM(pa:PlainAttrs T)(slot:Slot T name id)(hty:typeOf (.builtin id)=pure (.type "method_descriptor"))(hm:MtR X id r)(ho:PE X o to)
  (d9:attributeBase o name X.env (eval o X.env)=eval o X.env:=by rfl) (hline:(apos.endLine == a9.line)=true:=by rfl):PE X (.Call (.Attribute o name apos) [] [] a9) (aHj X.K T r to):=by
 intro pins s σ H Q I h;refine wpAny_Call_method0_late d9 hline (af (ho pins s σ H _ I h) fun v s1 ⟨x,H1,I1,r1,ty,q1⟩=>?_)
 obtain⟨h1,h2⟩:=GX I1 r1 ty;exact⟨T,id,pa,slot,hty,h1,h2,Calls.callWith_builtin rfl (PySem.evalArgs_none (hm pins s1 σ H1 x [] v [] Q I1 r1 .nil q1))⟩
theorem IR(pa:PlainAttrs T)(slot:Slot T name id)(hty:typeOf (.builtin id)=pure (.type "method_descriptor"))(hm:MtR X id r)(ho:PE X o to)(ha:PA X (e::es) t)
  (d9:attributeBase o name X.env (eval o X.env)=eval o X.env:=by rfl)
  (hfew:((backTo a9 (starEach (e::es) X.env)).all (fun x=>!x.1)&&(backToKw a9 (keywordEach [] X.env)).all (fun x=>x.1.isSome)
   && decide ((e::es).length+([]:List Keyword).length+(if ([]:List Keyword).isEmpty then 0 else 1)<30))=true:=by rfl)
  (hline:(apos.endLine == a9.line)=true:=by rfl) (hs:starEach (e::es) X.env=(false,eval e X.env)::starEach es X.env:=by rfl) (hplain:(backTo a9 (starEach es X.env)).any (·.1)=false:=by rfl) :
  PE X (.Call (.Attribute o name apos) (e::es) [] a9) (tBM X.K T r to t):=by
 intro pins s σ H Q I h;refine wpAny_Call_method_late d9 hfew hline rfl (af (ho pins s σ H _ I h) fun v s1 ⟨x,H1,I1,r1,ty,q1⟩=>?_)
 obtain⟨h1,h2⟩:=GX I1 r1 ty;refine⟨T,id,pa,slot,hty,h1,h2,?_⟩;have hA:=ha a9 pins s1 σ H1 _ I1 q1
 rw[hs]at hA ⊢;refine Calls.callWith_builtin (by show (false || (backTo a9 (starEach es X.env)).any (·.1))=false;rw[hplain]<;>rfl) (Calls.evalArgs_plain ?_)
 exact af hA fun us s2 ⟨vs,H2,I2,r2,q2⟩=>hm pins s2 σ H2 x vs v us Q I2 r1 r2 q2
end
def qk(X:Cx)(id:String)(r:V→List V→Hp→VK→Prop):Prop:=
 ∀(pins:vn) (s:Shared) (σ:St) (H:Hp) (x:V) (xs:List V) (v:Value) (us:List Value) (Q:VK),Inv X pins σ H s→RelV x v→aQ xs us→r x xs H Q →
  wpAny (model X.prog X.w) X.A (call (.builtin id) (v::us)) (EP X pins σ Q) X.xe s
theorem aQ.one:∀{x:V} {us:List Value},aQ [x] us→∃u,us=[u]∧RelV x u
 |_,_,.cons r .nil=>⟨_,rfl,r⟩
theorem aQ.two:∀{x y:V} {us:List Value},aQ [x,y] us→∃u v,us=[u,v]∧RelV x u∧RelV y v
 |_,_,_,.cons r (.cons q .nil)=>⟨_,_,rfl,r,q⟩
theorem aQ.zero:∀{us:List Value},aQ [] us→us=[]
 |_,.nil=>rfl
theorem aQ.dropLast{xs:List V}{us:List Value}(h:aQ xs us):aQ xs.dropLast us.dropLast:=by
 induction h with
 |nil=>exact .nil
 |cons r t ih =>
  cases t with
  |nil=>exact .nil
  |cons q t'=>exact .cons r ih
theorem aQ.reverse{xs:List V}{us:List Value}(h:aQ xs us):aQ xs.reverse us.reverse:=by
 induction h with
 |nil=>exact .nil
 |cons r t ih=>rw[reverse_cons,reverse_cons];exact aQ.append ih (.cons r .nil)
theorem zH{α:Type}(l:List α):l.eraseIdx (l.length-1)=l.dropLast:=by
 induction l with
 |nil=>rfl
 |cons a r ih =>
  cases r with
  |nil=>rfl
  |cons b r =>
   have e:(a::b::r).length-1=((b::r).length-1)+1:=by
    have h1:(a::b::r).length=r.length+2:=rfl
    have h2:(b::r).length=r.length+1:=rfl
    lia
   rw[e,List.eraseIdx_cons_succ,ih]
   all_goals rfl
section
variable {X:Cx}{pins:vn}{σ:St}{H:Hp}{s:Shared}{l b:Addr}{xs ys zs:List V}
theorem Inv.lset{its its':List Value}{n:Nat}{f:Array Value→Array Value}{t':Nat}(I:Inv X pins σ H s)(hH:H l=some (.lst xs))
  (e:s.heap.get? l=some { cls:=.type "list",data:=.seq its.toArray n }) (hf:f its.toArray=its'.toArray) (hv:aQ ys its') (hz:ys.length≤sizeLine) :
  Inv X pins σ (upd H l (.lst ys)) { s with heap:=s.heap.update l (Obj.mapSeq f),toks:=t' }:=by
 have q:=PySem.IsL.update e f
 rw[hf]at q;refine I.write (x:=l) (e:=l) (by rw[hH];exact trivial) (.inl rfl) (fun b' u hb hu=>(Heap.get?_update_other s.heap (Obj.mapSeq f) (Ne.symm hb)).trans hu) ⟨_,q⟩ ?_
 exact⟨hz,its',_,hv,q⟩
theorem Inv.lnew{its:List Value}{t':Nat}(I:Inv X pins σ H s)(hv:aQ ys its)(hz:ys.length≤sizeLine) :
  Inv X pins σ (upd H s.heap.objs.size (.lst ys)) { s with heap:=s.heap.push { cls:=.type "list",data:=.seq its.toArray },toks:=t' }:=
 I.laid (fun _ _ q=>qz _ q) (qw _) ⟨hz,its,0,hv,uk _ rfl⟩
theorem Inv.fresh(I:Inv X pins σ H s):H s.heap.objs.size=none:=I.hok.fresh (qw _)
theorem Inv.lstM(I:Inv X pins σ H s)(hH:H l=some (.lst xs)):xs.length≤sizeLine∧∃(its:List Value) (n:Nat),aQ xs its∧xs.length=its.length∧s.heap.get? l=some { cls:=.type "list",data:=.seq its.toArray n }:=by
 obtain⟨z,its,n,r,e⟩:=I.hok l _ hH;exact⟨z,its,n,r,r.length,e⟩
theorem JK{n:Nat}(h:n≤sizeLine):Builtin.List.listTooLong n=false:=by
 unfold Builtin.List.listTooLong;exact qy (by lia)
end
section
variable {X:Cx}
noncomputable def PN:V→List V→Hp→VK→Prop:=fun x vs H Q=>∃l xs y,x=.ref l∧vs=[y]∧H l=some (.lst xs)∧xs.length<sizeLine∧Q .non (upd H l (.lst (xs++[y])))
theorem qE:qk X "list.append" PN:=by
 intro pins s σ H x vs v us Q I rx rv h;obtain⟨l,xs,y,rfl,rfl,hH,hz,q⟩:=h;cases rx;obtain⟨u,rfl,ru⟩:=rv.one;obtain⟨z,its,n,r,hl,e⟩:=I.lstM hH;refine call_meets F.slot_list_append ⟨_,e,rfl⟩ F.entry_list_append (F.args_list_append_2 _ _) (PySem.list_append l its.toArray n u (by rw[rh];lia)) ⟨e,?_⟩
 refine⟨.non,_,I.lset (its':=its++[u]) hH e (by simp) (r.append (.cons ru .nil)) ?_,rfl,q⟩
 rw[t9,List.length_singleton];lia
noncomputable def PM:V→List V→Hp→VK→Prop:=fun x vs H Q=>∃l b xs zs,x=.ref l∧vs=[.ref b]∧H l=some (.lst xs)∧H b=some (.lst zs)∧xs.length+zs.length≤sizeLine∧Q .non (upd H l (.lst (xs++zs)))
theorem aBE:qk X "list.extend" PM:=by
 intro pins s σ H x vs v us Q I rx rv h;obtain⟨l,b,xs,zs,rfl,rfl,hH,hB,hz,q⟩:=h;cases rx;obtain⟨u,rfl,ru⟩:=rv.one;cases ru;obtain⟨z,its,n,r,hl,e⟩:=I.lstM hH;obtain⟨z2,da,n2,r2,gq,e2⟩:=I.lstM hB;have hsz:its.toArray.size+da.toArray.size≤sizeLine:=by rw[rh,rh];lia
 have hlong:¬(!its.toArray.isEmpty&&Builtin.List.listTooLong (its.toArray.size+da.toArray.size))=true:=by
  rw[JK hsz,Bool.and_false];exact sg
 refine call_meets F.slot_list_extend ⟨_,e,rfl⟩ F.entry_list_extend (F.args_list_extend_2 _ _)
  (AutoSeq1.list_extend_list_list_0 l its.toArray n b da.toArray n2 hlong (by rw[rh];lia) (by lia)) ⟨e,e2,?_⟩
 refine⟨.non,_,I.lset (its':=its++da) hH e (by simp) (r.append r2) ?_,rfl,q⟩
 rw[t9];lia
noncomputable def aHI:V→List V→Hp→VK→Prop:=fun x vs H Q=>∃l xs y,x=.ref l∧vs=[]∧H l=some (.lst xs)∧xs[xs.length-1]?=some y∧Q y (upd H l (.lst xs.dropLast))
theorem aAn:qk X "list.pop" aHI:=by
 intro pins s σ H x vs v us Q I rx rv h;obtain⟨l,xs,y,rfl,rfl,hH,hy,q⟩:=h;cases rx;have hus:=rv.zero
 subst hus;obtain⟨z,its,n,r,hl,e⟩:=I.lstM hH;obtain⟨u,hu,ru⟩:=r.get hy;have bY:its.toArray[its.toArray.size-1]?=some u:=by
  show its.toArray[its.length-1]?=some u
  rw[←Array.getElem?_toList,←hl];exact hu
 refine call_meets F.slot_list_pop ⟨_,e,rfl⟩ F.entry_list_pop (F.args_list_pop_1 _) (MeetsSeq.list_pop_last l its.toArray n u bY (by rw[rh];lia)) ⟨e,?_⟩
 refine⟨y,_,I.lset (its':=its.dropLast) hH e ?_ r.dropLast ?_,ru,q⟩
 ·show its.toArray.eraseIdxIfInBounds (its.toArray.size-1)=its.dropLast.toArray
  rw[rh,List.eraseIdxIfInBounds_toArray,zH]
 ·rw[List.length_dropLast];lia
noncomputable def aDK:R2:=fun x y H Q=>∃l b xs zs,x=.ref l∧y=.ref b∧H l=some (.lst xs)∧H b=some (.lst zs)∧xs.length+zs.length≤sizeLine∧∀p,H p=none→Q (.ref p) (upd H p (.lst (xs++zs)))
theorem IX:ay X (binaryOp .Add) aDK:=by
 intro pins s σ H x y v u Q I rx ry h;obtain⟨l,b,xs,zs,rfl,rfl,hH,hB,hz,q⟩:=h;cases rx;cases ry;obtain⟨z,its,n,r,hl,e⟩:=I.lstM hH;obtain⟨z2,da,n2,r2,gq,e2⟩:=I.lstM hB;refine PySem.P.add_list e e2 ?_ (by rw[rh,rh];lia)
 have ea:its.toArray++da.toArray=(its++da).toArray:=by simp
 rw[ea];exact⟨.ref _,_,I.lnew (t':=s.toks) (r.append r2) (by rw[t9];lia),rfl,q _ I.fresh⟩
end
section
variable {prog:vk}{w:World}{A:Around}{E:vm}{s:Shared}
end
section
variable {X:Cx}
end
end L2
namespace Att
open PySem PySem.W PySem.Calls PyProof.Rows
theorem mS{P:Params}{h:Heap}:∀(ns:List Int) (vs:List Value),WellAll P h vs (ns.map WData.int)→IntsAre vs ns:=by
 intro ns
 induction ns with
 |nil =>
  intro vs w;rw[map_nil]at w;cases w;exact .nil
 |cons n ns ih =>
  intro vs w;rw[tu]at w;cases w with
  |cons a b =>
   cases a;exact .cons _ _ (ih _ b)
theorem EG{l:OpenLaw}{n:Nat}(hn:l.most=some n){P:Params}{h:Heap}{args:List WData}{vals:List Value}
  (hpre:l.row.toRowW.claim.pre args=true) (hwl:WellAll P h vals args) :
  ∃a vs ns,vals=[Value.ref a]∧args=[WData.list (ns.map WData.int)]∧h.get? a=some { cls:=.type "list",data:=.seq vs.toArray }∧IntsAre vs ns∧ns.length≤n:=by
 have hsh:WShape.hasAll [] args [.list .int]=true:=(pre_splitW hpre).1
 have hc:l.pre.holds [] { args:=args }=true:=(pre_splitW hpre).2
 obtain⟨d,r,rfl,h1,h2⟩:=hasAllW_cons hsh;obtain rfl:=hasAllW_nil h2;obtain⟨xs,rfl,h3⟩:=hasW_list h1;obtain⟨ns,rfl⟩:=items_int h3;have hlen:ns.length≤n:=by
  unfold OpenLaw.pre at hc;have h4:(WTm.not (.lt (.lit (.int (n:Int))) (.len (.arg 0)))).holds [] { args:=[.list (ns.map .int)] }=true:=by
   have h4:=(holds_andW hc).1
   rw[hn]at h4;exact h4
  have h5:=condW_of h4 (w_not (w_lt w_lit (w_len_list (w_arg rfl))))
  rw[qv]at h5;refine Nat.le_of_not_lt fun q=>?_
  have q':(n:Int)<((ns.length:Nat):Int):=by lia
  first
   | (rw[tw q']at h5;exact absurd h5 (by decide))
   | (simp at h5;lia)
 cases hwl with
 |cons w1 w2 =>
  cases w2;cases w1 with
  |list ho hall=>exact⟨_,_,ns,rfl,rfl,ho,mS ns _ hall,hlen⟩
theorem EL(l:OpenLaw)(args:List WData):l.row.toRowW.claim.post args (.bool true) args=true:=
 postW_of (r:=l.row.toRowW) (X:=(true == true))
  (show WShape.has [] (.bool true) .bool=true by first|rfl|decide|simp[WShape.has,WShape.arms,WShape.armsAll])
  (show (WTm.eq .res (.lit (.bool true))).value [] { args:=args,res:=some (.bool true),after:=args }=some (.bool (true == true)) from w_eq_bool (w_res rfl) w_lit) rfl
theorem xK{l:OpenLaw}{n:Nat}{q:vk}{loose:List Str}{XP:(vo)→Heap→Prop}{YP:World→Heap→Prop}{d:DefRec}
  (hn:l.most=some n) (ph:d.params.defaults=[])
  (call:∀(w:World) (s₀ s₁:Shared) (mg mb:vo) (fa:Addr) (o:Obj) (pm cd doc:Value) (a:Addr) (vs:List Value) (ns:List Int),
   Ground q loose [] XP w s₀ mg mb s₁.heap→YP w s₁.heap →
   s₁.heap.get? fa=some o→o.data=.func (docDef d.name d.params d.body d.scope pm cd doc)→s₁.heap.CodeRec cd d.name→mg d.name=some (.ref fa) →
   s₁.heap.get? a=some { cls:=.type "list",data:=.seq vs.toArray }→IntsAre vs ns→ns.length≤n→s₁.gens=#[] →
   codeAny (model l.prog w) callerA (.call (.ref fa) ⟨[.ref a],[]⟩) (fun r s'=>r=.ok (.ret (.bool true))∧OldK s₁.heap s'.heap∧s'.os=s₁.os∧AllBare s'.gens) s₁) :
  WalkO q loose XP YP l.row.toRowW d [] (fun f vs=>PySem.call f vs):=by
 intro w s₀ s₁ mg mb G Y fa o pm cd doc dV kV ho hd fm hD iq hg args vals as hpre hlay hrd hwl hlo;obtain rfl:dV=.none:=Dflts.none hD ph;obtain rfl:kV=.none:=Dflts.noKw hD;obtain⟨a,vs,ns,rfl,rfl,hobj,hints,hlen⟩:=EG hn hpre hwl;refine enter_call (codeAny_mono (call w s₀ s₁ mg mb fa o pm cd doc a vs ns G Y ho (fd_plain hd) fm iq hobj hints hlen hg) fun r s' hq=>?_)
 obtain⟨rfl,h2,h3,h4⟩:=hq;exact⟨.inl ⟨.bool true,.bool true,[],rfl,fun _=>rfl,.bool true,EL l _,fun _=>⟨List.Pairwise.nil,fun _ hm=>(nomatch hm)⟩⟩,h2,h3,h4⟩
section
variable {prog:vk}{w:World}{A:Around}{E:vm}{s:Shared}{K:Frag}
end
end Att
namespace L2
open PySem PySem.Spec PyProof.Rows
theorem pO:∀{vs:List Value} {ns:List Int},IntsAre vs ns→aQ (ns.map V.int) vs
 |_,_,.nil=>.nil
 |_,_,.cons n t h=>.cons ⟨t,rfl⟩ (pO h)
def aBv(H:Hp):Prop:=∀b,H b=none∨∃o xs,H b=some (.frz o (.lst xs))
theorem JU{P:vk}{w:World}{K:vi}{mg mb:vo}{CX:au}{k:Nat}{fa a:Addr}{fd:vj}{x:Str}{sp:Sp}{s₁:Shared}{vs:List Value}{ns:List Int}
  (KX:K.In s₁.heap) (jo:s₁.heap.Ns mainGlobals mg) (hb:s₁.heap.Ns builtinsNs mb) (hbb:∀x:Str,x≠"__name__"→mb x=bootBuiltins x) (hlim:s₁.heap.NoLimit) (hg:s₁.gens=#[])
  (ha:s₁.heap.get? a=some { cls:=.type "list",data:=.seq vs.toArray }) (hi:IntsAre vs ns) (hl:ns.length≤sizeLine) (hr:Room k callerA)
  (F:∀base:Heap,K.In base→base.Ns mainGlobals mg→FnOk P w K mg base CX k fa fd [x] sp) (hbind:∀(s:Shared) (u:Value),BindsTo s fd ⟨[u],[]⟩ [(x,u)])
  (bq:∀H:Hp,aBv H→SqL K H a (ns.map V.int)→sp [.ref a] H (fun v _=>v=.bl true) fun _ _ _=>False)
  (hCX:∀H e s',CX [] H s₁ (fun _ _ _=>False) e s'→False) :
  codeAny (model P w) callerA (.call (.ref fa) ⟨[.ref a],[]⟩) (fun r s'=>r=.ok (.ret (.bool true))∧OldK s₁.heap s'.heap∧s'.os=s₁.os∧AllBare s'.gens) s₁:=by
 have rv:=pO hi
 have lenV:=hi.length
 have core:∀H:Hp,aBv H→SqL K H a (ns.map V.int)→HOk P w H s₁.heap→(∀b,H b≠none→b=a)→(H a≠none→K.lookup a=none) →
   codeAny (model P w) callerA (.call (.ref fa) ⟨[.ref a],[]⟩) (fun r s'=>r=.ok (.ret (.bool true))∧OldK s₁.heap s'.heap∧s'.os=s₁.os∧AllBare s'.gens) s₁:=by
  intro H hO hS hok hA hK;have kZ:∀{b:Addr} {o:Obj},s₁.heap.get? b=some o→H b=none→(sN s₁.heap H).get? b=some o:=fun e n=>KQ e n
  have oj:∀{b:Addr} {o:Obj} {es:Array DictEntry} {ep:Nat},s₁.heap.get? b=some o→o.data=.dict es ep→H b=none:=fun {b o es ep} e d=>by
   cases q:H b with
   |none=>rfl
   |some u =>
    have e':b=a:=hA b (by rw[q];simp)
    subst e';rw[ha]at e;cases e;have d':Data.seq vs.toArray _=Data.dict es ep:=d
    cases d'
  have nsK:∀{b:Addr} {m:vo},s₁.heap.Ns b m→(sN s₁.heap H).Ns b m:=fun {b m} ⟨o,es,ep,e,d,r⟩=>⟨o,es,ep,kZ e (oj e d),d,r⟩
  have hKb:K.In (sN s₁.heap H):=fun b o e=>kZ (KX b o e) (by
   cases q:H b with
   |none=>rfl
   |some u =>
    have e':b=a:=hA b (by rw[q];simp)
    subst e';rw[hK (by rw[q];simp)]at e;cases e)
  have hM:Mod K mg (sN s₁.heap H):=⟨hKb,nsK jo,⟨mb,nsK hb,hbb⟩,let ⟨mc,h1,h2⟩:=hlim;⟨mc,nsK h1,h2⟩⟩
  have e0:Env0 P w K mg (sN s₁.heap H) callerA [] s₁ H:=⟨rfl,hM,fun b o e=>RS e,Nat.le_of_eq (FO _ _),trivial,fun b hb=>absurd (show b∈([]:List Addr) from hb) (by simp),hok,.of_eq hg⟩
  refine codeAny_mono ((F _ hKb (nsK jo)).run callerA [] s₁ H ⟨[.ref a],[]⟩ [.ref a] [.ref a] _ _ hr e0 (hbind s₁ (.ref a)) (.cons rfl .nil) (bq H hO hS)) fun r s' h=>?_
  cases r with
  |error e=>exact(hCX H e s' h).elim
  |ok fl =>
   cases fl with
   |next=>exact False.elim h
   |brk=>exact False.elim h
   |cont=>exact False.elim h
   |ret u =>
    obtain⟨v,H',os,bare,un,hok',r',q⟩:=h;have q':v=.bl true:=q
    subst q';obtain rfl:u=Value.bool true:=r';refine⟨rfl,OldK.of_keep fun b o e=>?_,os,bare⟩
    cases q:H b with
    |none=>exact un.keep b o e q (by intro z;exact absurd (show b∈([]:List Addr) from z) (by simp)) (by simp)
    |some u =>
     rcases hO b with z|⟨ob,xs,z⟩
     ·rw[q]at z;cases z
     ·have z2:=un.frzs b ob _ z
      obtain⟨e1,_⟩:=hok b _ z;obtain⟨e2,_⟩:=hok' b _ z2;rw[e]at e1;cases e1;exact e2
 cases hk:K.lookup a with
 |some o =>
  have e:=KX a o hk
  rw[ha]at e;cases e;refine core (fun _=>none) (fun _=>.inl rfl) (.inr ⟨_,vs.toArray,_,hk,rfl,rfl,rfl,by rw[rh,lenV];exact hl,by simpa using rv⟩) (fun b u z=>by have z':(none:Option HO)=some u:=z;cases z') (fun b z=>absurd rfl z) fun z=>absurd rfl z
 |none =>
  refine core (fun b=>if b=a then some (.frz { cls:=.type "list",data:=.seq vs.toArray } (.lst (ns.map V.int))) else none) (fun b=>?_) (.inl (.inr ⟨{ cls:=.type "list",data:=.seq vs.toArray },if_pos rfl⟩)) (fun b u z=>?_) (fun b z=>?_) fun _=>hk
  ·by_cases hb:b=a
   ·exact .inr ⟨_,_,if_pos hb⟩
   ·exact .inl (if_neg hb)
  ·by_cases hb:b=a
   ·have z':=(if_pos hb).symm.trans z
    cases z';subst hb;exact⟨ha,by rw[qv];exact hl,vs,_,rv,ha⟩
   ·have z':=(if_neg hb).symm.trans z
    cases z'
  ·by_cases hb:b=a
   ·exact hb
   ·exact absurd (if_neg hb) z
theorem OK{l:PySem.W.OpenLaw}{n k:Nat}{q:vk}{loose:List Str}{XP:(vo)→Heap→Prop}{YP:World→Heap→Prop}{d:DefRec}{K:Params→vi}{CX:World→au}{sp:World→Sp}{x:Str}
  (hn:l.most=some n) (i9:n≤sizeLine) (ph:d.params.defaults=[]) (hr:Room k callerA)
  (hY:∀(w:World) (h:Heap),YP w h→(K w.params).In h)
  (F:∀(w:World) (mg:vo) (fa:Addr) (h:Heap),(K w.params).In h→h.Ns mainGlobals mg→mg d.name=some (.ref fa) →
   ∃fd:vj,(∀(s:Shared) (u:Value),BindsTo s fd ⟨[u],[]⟩ [(x,u)]) ∧
    ∀base:Heap,(K w.params).In base→base.Ns mainGlobals mg→FnOk l.prog w (K w.params) mg base (CX w) k fa fd [x] (sp w))
  (bq:∀(w:World) (H:Hp) (a:Addr) (ns:List Int),ns.length≤n→aBv H→SqL (K w.params) H a (ns.map V.int)→sp w [.ref a] H (fun v _=>v=.bl true) fun _ _ _=>False)
  (hCX:∀(w:World) (H:Hp) (s:Shared) (e:Value) (s':Shared),CX w [] H s (fun _ _ _=>False) e s'→False) :
  PySem.W.WalkO q loose XP YP l.row.toRowW d [] (fun f vs=>PySem.call f vs):=by
 refine Att.xK hn ph fun w s₀ s₁ mg mb fa o pm cd doc a vs ns G Y ho hd fm iq hobj hints hlen hg=>?_
 have KX:=hY w _ Y
 obtain⟨fd,hb,hF⟩:=F w mg fa _ KX G.T.g iq;exact JU KX G.T.g G.T.b G.T.builtins G.T.nolimit hg hobj hints (sr hlen i9) hr hF hb (fun H hO hS=>bq w H a ns hlen hO hS) fun H e s'=>hCX w H s₁ e s'
noncomputable def inClass(s:Stmt)(j:Nat):Stmt:=match s with
 |.ClassDef _ _ _ body _ _ _ _ _ _ _=>body.getD j (.Pass ⟨0,0,0,0⟩)
 |_=>.Pass ⟨0,0,0,0⟩
noncomputable def gF(s:Stmt):Arguments:=match s with
 |.FunctionDef _ a _ _ _ _ _ _ _ _=>a
 |_=>{ posonlyargs:=[],args:=[],vararg:=none,kwonlyargs:=[],kw_defaults:=[],kwarg:=none,defaults:=[] }
noncomputable def bR(s:Stmt):List Stmt:=match s with
 |.FunctionDef _ _ b _ _ _ _ _ _ _=>b
 |_=>[]
noncomputable def aD(s:Stmt):Scope:=match s with
 |.FunctionDef _ _ _ _ _ _ sc _ _ _=>sc
 |_=>{ kind:=.function,names:=[],isGenerator:=false,isCoroutine:=false }
abbrev k7:au:=fun _ _ _ _ _ _=>False
abbrev E0:XK:=fun _ _ _=>False
structure Fun (K:vi) (x qual:Str) (st:Stmt) (f:Addr) (fd:vj):Prop where
 ex:∃(oc:Value) (od:Option Addr) (kV doc pm:Value) (an:Option Addr) (bt ct:Value) (j4:Array (Option Value)),
  fd=PySem.W.fnOf x qual (gF st) (bR st) (aD st) .none kV doc pm an bt ct∧K.lookup f=some ⟨oc,od,.func fd,j4⟩∧codeIn K bt qual=true
 kp:keepIn K (.ref f)=true
section
variable {P:vk}{w:World}{K:vi}{mg:vo}{base:Heap}
theorem Fun.binds{x qual:Str}{st:Stmt}{f:Addr}{fd:vj}{ps:List Str}(F:Fun K x qual st f fd)
  (h:∀(kV doc pm:Value) (an:Option Addr) (bt ct:Value) (us:List Value),us.length=ps.length→bindArgs (PySem.W.fnOf x qual (gF st) (bR st) (aD st) .none kV doc pm an bt ct) ⟨us,[]⟩=pure (ps.zip us)):Binds K fd ps []:=by
 obtain⟨oc,od,kV,doc,pm,an,bt,ct,j4,rfl,lk,fm⟩:=F.ex;exact .all (h kV doc pm an bt ct)
end
theorem KO{A:Around}{k:Nat}(hr:Room k A):A.units+1<cLine:=Nat.lt_of_le_of_lt (Nat.add_le_add_left (by decide:1≤64) _) hr.units
section
variable {X:Cx}
theorem pv(i:Nat){x:Str}{pos:Pos}(hN:X.N[i]?=some x:=by rfl)(hv:Vis X.env.scope x:=by first|exact Or.inl rfl|exact Or.inr (Or.inl rfl)|exact Or.inr (Or.inr rfl))(hd:(x == ("__debug__":Str))=false:=by decide)
  (fm:(x == ("__classdict__":Str))=false:=by decide):PE X (.Name x pos) (rP i):=lJ hN hv hd fm
end
theorem pG{A B:Prop}(h:B):if false=true then A else B:=by
 rw[if_neg sg];exact h
theorem FL{A B:Prop}(h:A):if true=true then A else B:=by
 rw[if_pos rfl];exact h
theorem aFc{c A B:Prop}[Decidable c](hc:c)(h:B):if (!decide c)=true then A else B:=by
 rw[tw hc];exact pG h
def aH(H H':Hp):Prop:=∀b o,H b=some o→H' b=some o
theorem aH.refl(H:Hp):aH H H:=fun _ _ h=>h
theorem aH.trans{H H1 H2:Hp}(a:aH H H1)(b:aH H1 H2):aH H H2:=fun c o h=>b c o (a c o h)
theorem aH.free{H H':Hp}(e:aH H H'){l:Addr}(h:H' l=Option.none):H l=Option.none:=by
 cases q:H l with
 |none=>rfl
 |some o =>
  rw[e l o q]at h;cases h
section
variable {κ:Type}[DecidableEq κ]
noncomputable def lC(kvs:List (κ×V))(k:κ):Option V:=(kvs.find? fun kv=>decide (kv.1=k)).map (·.2)
noncomputable def putK(kvs:List (κ×V))(k:κ)(v:V):List (κ×V):=
 if (kvs.any fun kv=>decide (kv.1=k))=true then kvs.map (fun kv=>if kv.1=k then(kv.1,v) else kv) else kvs++[(k,v)]
theorem kD{p:κ×V}{r:List (κ×V)}{k:κ}(e:p.1=k):lC (p::r) k=some p.2:=by simp[lC,find?_cons,e]
theorem kE{p:κ×V}{r:List (κ×V)}{k:κ}(e:¬p.1=k):lC (p::r) k=lC r k:=by simp[lC,find?_cons,e]
theorem uO(k:κ):∀kvs:List (κ×V),(kvs.any fun kv=>decide (kv.1=k))=(lC kvs k).isSome
 |[]=>rfl
 |p::r=>by
  rw[any_cons]
  by_cases e:p.1=k
  ·simp only[kD e,tw e,Bool.true_or,Option.isSome_some]
  ·rw[kE e,qy e,Bool.false_or];exact uO k r
theorem mL(kvs:List (κ×V))(k:κ)(v:V):(putK kvs k v).length≤kvs.length+1:=by
 unfold putK;split
 ·rw[qv];lia
 ·rw[t9,uw,List.length_nil];lia
theorem jR.isSome_eq{o:Option V}{u:Option Value}(r:jR o u):o.isSome=u.isSome:=by
 cases o with
 |none=>cases u with
  |none=>rfl
  |some _=>exact(show False from r).elim
 |some _=>cases u with
  |none=>exact(show False from r).elim
  |some _=>rfl
theorem KV.val{kvs:List (κ×V)}{vs:List (κ×Value)}(r:KV kvs vs)(k:κ):jR (lC kvs k) (valueAt vs k):=by
 unfold KV at r
 induction r with
 |nil=>exact True.intro
 | @cons p q ps qs h t ih =>
  obtain⟨h1,h2⟩:=h
  by_cases e:p.1=k
  ·have e':q.1=k:=h1.symm.trans e
   have b:valueAt (q::qs) k=some q.2:=by simp[valueAt,find?_cons,e']
   rw[kD e,b];exact h2
  ·have e':¬q.1=k:=fun z=>e (h1.trans z)
   have b:valueAt (q::qs) k=valueAt qs k:=by simp[valueAt,find?_cons,e']
   rw[kE e,b];exact ih
theorem KV.any{kvs:List (κ×V)}{vs:List (κ×Value)}(r:KV kvs vs)(k:κ):(kvs.any fun kv=>decide (kv.1=k))=vs.any fun kv=>decide (kv.1=k):=by
 unfold KV at r
 induction r with
 |nil=>rfl
 |cons h t ih=>rw[any_cons,any_cons,ih,h.1]
theorem KV.repl{kvs:List (κ×V)}{vs:List (κ×Value)}(r:KV kvs vs)(k:κ){y:V}{u:Value}(ry:RelV y u) :
  KV (kvs.map fun kv=>if kv.1=k then(kv.1,y) else kv) (vs.map fun kv=>if kv.1=k then(kv.1,u) else kv):=by
 unfold KV at r ⊢
 induction r with
 |nil=>exact .nil
 | @cons p q ps qs h t ih =>
  rw[tu,tu];refine .cons ?_ ih;obtain⟨h1,h2⟩:=h
  by_cases e:p.1=k
  ·rw[if_pos e,if_pos (h1.symm.trans e)];exact⟨h1,ry⟩
  ·rw[if_neg e,if_neg (fun z=>e (h1.trans z))];exact⟨h1,h2⟩
theorem KV.put{kvs:List (κ×V)}{vs:List (κ×Value)}(r:KV kvs vs)(k:κ){y:V}{u:Value}(ry:RelV y u):KV (putK kvs k y) (stored vs k u):=by
 unfold putK stored;rw[r.any k]
 by_cases e:(vs.any fun kv=>decide (kv.1=k))=true
 ·rw[if_pos e,if_pos e];exact r.repl k ry
 ·rw[if_neg e,if_neg e];exact Paired.snoc r ⟨rfl,ry⟩
theorem KV.length{kvs:List (κ×V)}{vs:List (κ×Value)}(r:KV kvs vs):kvs.length=vs.length:=Paired.length r
end
theorem JY{P:vk}{w:World}{k:Key}{u:Value}(r:RelV (kV k) u):(bP P w).is k u=true:=by
 cases k with
 |inl i=>obtain⟨t,e⟩:=(show ∃t,u=Value.int i t from r);subst e;exact vS P w i t
 |inr x=>obtain⟨t,e⟩:=(show ∃t,u=Value.str x t from r);subst e;exact eU P w x t
theorem qI{P:vk}{w:World}:∀{ks:List Key} {us:List Value},aQ (ks.map kV) us→ItemsAre (bP P w) ks us
 |[],_,r=>by rw[map_nil]at r;cases r;exact .nil
 |k::ks,_,r=>by
  rw[tu]at r;cases r with
  |cons h t=>exact .cons (JY h) (qI t)
abbrev KT(H:Hp):List (List Key×V)→List (List Key×Addr×Value)→Prop:=Paired fun p q=>p.1=q.1∧H q.2.1=some (.tup (p.1.map kV))∧RelV p.2 q.2.2
theorem KT.val{H:Hp}{kvs:List (List Key×V)}{xs:List (List Key×Addr×Value)}(r:KT H kvs xs)(k:List Key):jR (lC kvs k) ((atKey xs k).map (·.2)):=by
 induction r with
 |nil=>exact True.intro
 | @cons p q ps qs h t ih =>
  obtain⟨h1,_,h2⟩:=h
  by_cases e:p.1=k
  ·have e':q.1=k:=h1.symm.trans e
   have b:atKey (q::qs) k=some q.2:=by simp[atKey,find?_cons,e']
   rw[kD e,b];exact h2
  ·have e':¬q.1=k:=fun z=>e (h1.trans z)
   have b:atKey (q::qs) k=atKey qs k:=by simp[atKey,find?_cons,e']
   rw[kE e,b];exact ih
theorem KT.repl{H:Hp}{kvs:List (List Key×V)}{xs:List (List Key×Addr×Value)}(r:KT H kvs xs)(k:List Key){y:V}{u:Value}(ry:RelV y u) :
  KT H (kvs.map fun kv=>if kv.1=k then(kv.1,y) else kv) (xs.map (putAt k u)):=by
 induction r with
 |nil=>exact .nil
 | @cons p q ps qs h t ih =>
  rw[tu,tu];refine .cons ?_ ih;obtain⟨h1,h2,h3⟩:=h;unfold putAt
  by_cases e:p.1=k
  ·rw[if_pos e,if_pos (h1.symm.trans e)];exact⟨h1,h2,ry⟩
  ·rw[if_neg e,if_neg (fun z=>e (h1.trans z))];exact⟨h1,h2,h3⟩
theorem KT.put{H:Hp}{kvs:List (List Key×V)}{xs:List (List Key×Addr×Value)}(r:KT H kvs xs)(k:List Key){b:Addr}{y:V}{u:Value}(hb:H b=some (.tup (k.map kV)))(ry:RelV y u) :
  KT H (putK kvs k y) (storedH xs k b u):=by
 have e:(kvs.any fun kv=>decide (kv.1=k))=(atKey xs k).isSome:=by
  rw[uO,(r.val k).isSome_eq,Option.isSome_map]
 unfold putK storedH;rw[e]
 by_cases q:(atKey xs k).isSome=true
 ·rw[if_pos q,if_pos q];exact r.repl k ry
 ·rw[if_neg q,if_neg q];exact Paired.snoc r ⟨rfl,hb,ry⟩
theorem KT.keeps{H H':Hp}{kvs:List (List Key×V)}{xs:List (List Key×Addr×Value)}(r:KT H kvs xs)(ht:∀b ys,H b=some (.tup ys)→H' b=some (.tup ys)):KT H' kvs xs:=
 Paired.mapP r fun _ _ z=>⟨z.1,ht _ _ z.2.1,z.2.2⟩
section
variable {P:vk}{w:World}{H:Hp}{h:Heap}{a:Addr}
theorem UZ{u:HO}(ok:HOk P w H h)(e:Rd H a u):bZ P w H h a u:=e.ok ok
theorem DA{kvs:List (Key×V)}(ok:HOk P w H h)(e:Rd H a (.dK kvs)):kvs.length≤sizeLine∧(a == sysModules)=false∧∃vs,KV kvs vs∧h.DictOf (bP P w) a vs:=
 show bZ P w H h a (.dK kvs) from UZ ok e
theorem LV{kvs:List (Key×V)}(ok:HOk P w H h)(e:H a=some (.dK kvs)):kvs.length≤sizeLine∧(a == sysModules)=false∧∃vs,KV kvs vs∧h.DictOf (bP P w) a vs:=DA ok (.inl e)
theorem yS{ks:List Key}(ok:HOk P w H h)(e:H a=some (.tup (ks.map kV))):(tupleKind (bP P w)).is h ks a:=by
 obtain⟨_,its,r,o,h1,h2,n,h3⟩:=(show bZ P w H h a (.tup (ks.map kV)) from ok a _ e)
 exact⟨o,its.toArray,n,h1,h2,h3,by simpa using qI r⟩
theorem LU{kvs:List (List Key×V)}(ok:HOk P w H h)(e:Rd H a (.dT kvs)):kvs.length≤sizeLine∧(a == sysModules)=false ∧
  ∃xs,KT H kvs xs∧h.DictOfH (tupleKind (bP P w)) a xs:=by
 obtain⟨z,y,xs,r,o,es,ep,h1,h2,h3,h4,h5⟩:=(show bZ P w H h a (.dT kvs) from UZ ok e)
 refine⟨z,y,xs,r,o,es,ep,h1,h2,h3,h4,fun x hx=>?_,h5⟩
 have all:∀{l:List (List Key×V)} {m:List (List Key×Addr×Value)},KT H l m→∀x∈m,(tupleKind (bP P w)).is h x.1 x.2.1:=by
  intro l m q
  induction q with
  |nil=>intro x hx;exact nomatch hx
  | @cons p q ps qs hq t ih =>
   intro x hx
   rcases sv.mp hx with e|hx
   ·subst e;exact yS ok (by rw[←hq.1];exact hq.2.1)
   ·exact ih x hx
 exact all r x hx
theorem aFv{kvs:List (List Key×V)}(ok:HOk P w H h)(e:H a=some (.dT kvs)):kvs.length≤sizeLine∧(a == sysModules)=false ∧
  ∃xs,KT H kvs xs∧h.DictOfH (tupleKind (bP P w)) a xs:=LU ok (.inl e)
end
def zP(H:Hp)(a:Addr)(y:V)(r:Option V):Prop:=
 (∃kvs k,Rd H a (.dK kvs)∧y=kV k∧r=lC kvs k)∨∃kvs k b,Rd H a (.dT kvs)∧y=.ref b∧H b=some (.tup (k.map kV))∧r=lC kvs k
def OI(H:Hp)(a:Addr)(y v:V)(H':Hp):Prop:=
 (∃kvs k,H a=some (.dK kvs)∧y=kV k∧kvs.length<sizeLine∧H'=upd H a (.dK (putK kvs k v))) ∨
 ∃kvs k b,H a=some (.dT kvs)∧y=.ref b∧H b=some (.tup (k.map kV))∧kvs.length<sizeLine∧H'=upd H a (.dT (putK kvs k v))
theorem zP.k{H:Hp}{a:Addr}{kvs:List (Key×V)}{k:Key}(e:H a=some (.dK kvs)):zP H a (kV k) (lC kvs k):=.inl ⟨kvs,k,.inl e,rfl,rfl⟩
theorem OI.k{H:Hp}{a:Addr}{kvs:List (Key×V)}{k:Key}{v:V}(e:H a=some (.dK kvs))(hl:kvs.length<sizeLine):OI H a (kV k) v (upd H a (.dK (putK kvs k v))):=.inl ⟨kvs,k,e,rfl,hl,rfl⟩
section
variable {X:Cx}{pins:vn}{σ:St}{H:Hp}{s:Shared}{a:Addr}{y v:V}{u r:Value}{o:Option V}{A:Around}{E:vm}
theorem Inv.big(I:Inv X pins σ H s):sysModules<s.heap.objs.size:=by
 have h:mainGlobals<s.heap.objs.size:=(I.mod.glob.keeps I.bk).lt
 exact Nat.lt_trans (by decide) h
theorem GF{Q:vm}(hu:A.units+1<cLine)(I:Inv X pins σ H s)(g:zP H a y (some v))(ry:RelV y u)(h:∀w' s',Inv X pins σ H s'→RelV v w'→Q w' s') :
  wpAny (model X.prog X.w) A (getItem (.ref a) u) Q E s:=by
 rcases g with ⟨kvs,k,e,ey,l⟩|⟨kvs,k,b,e,ey,eb,l⟩
 ·subst ey;obtain⟨z,hd,vs,rel,dd⟩:=DA I.hok e;obtain⟨w',hw,ie⟩:=jR.some_of (v:=v) (o:=valueAt vs k) (by rw[l];exact rel.val k)
  exact wpAny_getItem_of (JY ry) dd.mapOf hw (h w' _ (I.tok _) ie)
 ·subst ey;cases (show u=Value.ref b from ry)
  obtain⟨z,hd,xs,rel,dd⟩:=LU I.hok e;obtain⟨w',hw,ie⟩:=jR.some_of (v:=v) (o:=(atKey xs k).map (·.2)) (by rw[l];exact rel.val k)
  obtain⟨p,hp,hp2⟩:=rq.mp hw;refine wpAny_getItem_heap (tupleKind_room_in1 hu) (yS I.hok eb) dd hp ?_;rw[hp2];exact h w' _ (I.tok _) ie
theorem DF{h':Heap}{t':Nat}{ob:HO}(I:Inv X pins σ H s)(mu:qj (H a))(hs:Heap.SameBut a s.heap h')(he:∃q,h'.get? a=some q)(new:bZ X.prog X.w (upd H a ob) h' a ob) :
  Inv X pins σ (upd H a ob) { s with heap:=h',toks:=t' }:=
 I.write (x:=a) (e:=a) mu (.inl rfl) (fun b q hb z=>(hs.2 b hb).trans z) he new
theorem aBb{P:vk}{w:World}{H':Hp}{h':Heap}{kvs:List (Key×V)}{vs:List (Key×Value)}(z:kvs.length≤sizeLine)(hd:(a == sysModules)=false)(rel:KV kvs vs)(dd:h'.DictOf (bP P w) a vs) :
  bZ P w H' h' a (.dK kvs):=⟨z,hd,vs,rel,dd⟩
theorem GE{H':Hp}{Q:Unit→Shared→Prop}(hu:A.units+1<cLine)(I:Inv X pins σ H s)(g:OI H a y v H')(ry:RelV y u)(rv:RelV v r)(h:∀s',Inv X pins σ H' s'→Q () s') :
  wpAny (model X.prog X.w) A (setItem (.ref a) u r) Q E s:=by
 rcases g with ⟨kvs,k,e,ey,l,eH⟩|⟨kvs,k,b,e,ey,eb,l,eH⟩
 ·subst ey eH;obtain⟨z,hd,vs,rel,dd⟩:=LV I.hok e;have hz:vs.length≤sizeLine:=by rw[←rel.length];exact z
  have hl:(putK kvs k v).length≤sizeLine:=by have:=mL kvs k v;lia
  refine wpAny_setItem_pairs (hsz:=hz) (JY ry) dd fun h' nh hs=>h _ ?_
  have he:∃q,h'.get? a=some q:=let ⟨q,_,_,hq,_⟩:=nh;⟨q,hq⟩
  exact DF I (by rw[e];exact True.intro) hs he (aBb hl hd (rel.put k rv) nh)
 ·subst ey eH;cases (show u=Value.ref b from ry)
  obtain⟨z,hd,xs,rel,dd⟩:=aFv I.hok e;have hz:xs.length≤sizeLine:=by rw[←Paired.length rel];exact z
  have hl:(putK kvs k v).length≤sizeLine:=by have:=mL kvs k v;lia
  refine wpAny_setItem_heap (hsz:=hz) (tupleKind_room_in1 hu) (yS I.hok eb) dd fun h' nh hs=>h _ ?_
  obtain⟨q,es,ep,hq,h2,h3,h4,_,h5⟩:=nh;refine DF I (by rw[e];exact True.intro) hs ⟨q,hq⟩ ⟨hl,hd,_,(rel.put k eb rv).keeps fun c ys ec=>?_,q,es,ep,hq,h2,h3,h4,h5⟩
  rw[aN (aEB ec e (fun z=>nomatch z))]
  exact ec
end
section
variable {X:Cx}{pins:vn}{σ:St}{H:Hp}{s:Shared}{a:Addr}{kvs:List (Key×V)}{k:Key}{u:Value}{A:Around}{E:vm}
theorem aFw{Q:vm}(I:Inv X pins σ H s)(e:Rd H a (.dK kvs))(h:∀t s',Inv X pins σ H s'→Q (.int kvs.length t) s'):wpAny (model X.prog X.w) A (call (.builtin "len") [.ref a]) Q E s:=by
 obtain⟨z,hd,vs,rel,dd⟩:=DA I.hok e;refine call_len_dict hd dd (by rw[←rel.length];rw[sizeLine_eq]at z;lia) ?_
 rw[←rel.length];exact h _ _ (I.tok _)
end
def aGh(i:Expr):Prop:=∀ov iv,subscripted i false ov iv=operate [ov,iv] (getItem ov iv)
theorem OQ{prog:vk}{w:World}{A:Around}{E:vm}{s:Shared}{env:Env}{value slice:Expr}{pos:Pos}{T id:String}{Q:vm}
  (hl:typeLookup (.type T) "__getitem__" = pure (some (.builtin id))) (hs:aGh slice)
  (h:wpAny (model prog w) A (eval value env) (fun o s₁=>wpAny (model prog w) A (eval slice env) (fun i s₂=>s₂.TypeIs o T∧wpAny (model prog w) A (getItem o i) Q E s₂) E s₁) E s) :
  wpAny (model prog w) A (eval (.Subscript value slice pos) env) Q E s:=by
 refine Subscript_ (uj h (fun o s₁ h₁=>uj h₁ (fun i s₂ h₂=>?_) fun _ _ x=>x) fun _ _ x=>x)
 obtain⟨hT,h₂⟩:=h₂;unfold subscriptTail;refine uh ?_;rw[getitemInPython_of_ne hT.not_modules];refine uh (wpAny_specialOf hT hl ?_);have fin:wpAny (model prog w) A (subscripted slice false o i) (fun r s₃=>wpAny (model prog w) A (letTemporaryGo value o r >>= fun _=>pure r) Q E s₃) E s₂:=by
  rw[hs o i];exact wpAny_operating (uj h₂ (fun r s₃ h₃=>uh (wpAny_letTemporaryGo (ui h₃))) fun _ _ x=>x)
 first
  |exact ui (uh fin)
  |exact uh (ui (uh fin))
  |exact uh fin
theorem wW{X:Cx}{pins:vn}{σ:St}{H:Hp}{s:Shared}{a:Addr}{y:V}{o:Option V}(I:Inv X pins σ H s)(g:zP H a y o):s.TypeIs (.ref a) "dict":=by
 rcases g with ⟨kvs,k,e,_,_⟩|⟨kvs,k,b,e,_,_,_⟩
 ·obtain⟨_,_,vs,_,dd⟩:=DA I.hok e;exact dd.typeIs
 ·obtain⟨_,_,xs,_,dd⟩:=LU I.hok e;exact dd.typeIs
def aCv(td ty:TE):TE:=fun σ H Q=>td σ H fun x H1=>ty σ H1 fun y H2=>∃a v,x=.ref a∧zP H2 a y (some v)∧Q v H2
def aCX(td ty tv:TE):TS:=fun D σ H=>tv σ H fun v H1=>td σ H1 fun x H2=>ty σ H2 fun y H3=>∃a H4,x=.ref a∧OI H3 a y v H4∧D.nx σ H4
section
variable {X:Cx}{o i e value:Expr}{pos pos' tpos:Pos}{td ty tv:TE}
theorem AK(hu:X.A.units+1<cLine)(ho:PE X o td)(hi:PE X i ty)(hs:aGh i):PE X (.Subscript o i pos) (aCv td ty):=by
 intro pins s σ H Q I h;refine OQ PySem.F.slot_dict_getitem.lookup hs (af (ho pins s σ H _ I h) fun u s1 ⟨x,H1,I1,rx,q1⟩=>af (hi pins s1 σ H1 _ I1 q1) fun iv s2 ⟨y,H2,I2,ry,a,v,ex,g,q2⟩=>?_)
 subst ex;obtain rfl:u=Value.ref a:=rx;exact⟨wW I2 g,GF hu I2 g ry fun w' s3 I3 ie=>⟨v,H2,I3,ie,q2⟩⟩
theorem QN(hu:X.A.units+1<cLine)(ho:PE X o td)(hi:PE X i ty)(hv:PE X value tv)(hs:swapsWith value (some (.Subscript o i pos')) pos.line X.env=pure false) :
  PS X (.Assign [.Subscript o i pos'] value pos) (aCX td ty tv):=by
 intro pins s σ H D I h;refine wpAny_Assign_Subscript (af (hv pins s σ H _ I h) fun r s1 ⟨v,H1,I1,rv,q1⟩=>af (ho pins s1 σ H1 _ I1 q1) fun u s2 ⟨x,H2,I2,rx,q2⟩=>af (hi pins s2 σ H2 _ I2 q2) fun iv s3 ⟨y,H3,I3,ry,a,H4,ex,g,q3⟩=>?_) hs
 subst ex;obtain rfl:u=Value.ref a:=rx;exact GE hu I3 g ry rv fun s4 I4=>⟨σ,H4,I4,q3⟩
end
theorem LW{P:vk}{w:World}{H:Hp}(h:Heap)(hb:sysModules<h.objs.size):bZ P w H (h.push { cls:=.type "dict",data:=.dict #[] }) h.objs.size (.dK []):=
 ⟨v9 _,ub.mpr (Ne.symm (uc hb)),[],.nil,Heap.DictOf.new h⟩
def XF:TE:=fun _ H Q=>∀p,H p=none→Q (.ref p) (upd H p (.dK []))
section
variable {X:Cx}{pos:Pos}
theorem IP:PE X (.Dict [] [] pos) XF:=fun pins s σ H Q I h =>
 wpAny_Dict_empty ⟨.ref s.heap.objs.size,_,I.laid (a:=s.heap.objs.size) (o:=.dK []) (t':=s.toks) (fun _ _ q=>qz _ q) (qw _) (LW s.heap I.big),rfl,h _ (I.hok.fresh (qw _))⟩
end
structure M1 (X:Cx) (o:Expr) (m:Str) (apos:Pos) (e:Expr) (a9:Pos):Prop where
 base:attributeBase o m X.env (eval o X.env)=eval o X.env
 few:((backTo a9 (starEach [e] X.env)).all (fun x=>!x.1)&&(backToKw a9 (keywordEach [] X.env)).all (fun x=>x.1.isSome)
  && decide (([e]:List Expr).length+([]:List Keyword).length+(if ([]:List Keyword).isEmpty then 0 else 1)<30))=true
 line:(apos.endLine == a9.line)=true
 trees:backTo a9 (starEach [e] X.env)=[(false,eval e X.env)]
structure M2 (X:Cx) (o:Expr) (m:Str) (apos:Pos) (e f:Expr) (a9:Pos):Prop where
 base:attributeBase o m X.env (eval o X.env)=eval o X.env
 few:((backTo a9 (starEach [e,f] X.env)).all (fun x=>!x.1)&&(backToKw a9 (keywordEach [] X.env)).all (fun x=>x.1.isSome)
  && decide (([e,f]:List Expr).length+([]:List Keyword).length+(if ([]:List Keyword).isEmpty then 0 else 1)<30))=true
 line:(apos.endLine == a9.line)=true
 trees:backTo a9 (starEach [e,f] X.env)=[(false,eval e X.env),(false,eval f X.env)]
section
variable {X:Cx}{pins:vn}{σ:St}{H:Hp}{s:Shared}{a:Addr}{y d:V}{u r:Value}{o:Option V}{A:Around}{E:vm}
end
section
variable {X:Cx}{o e f:Expr}{apos a9:Pos}{td ty tx:TE}
end
section
variable {X:Cx}{pins:vn}{σ:St}{H:Hp}{s:Shared}{a:Addr}{kvs:List (Key×V)}{A:Around}{E:vm}
end
section
variable {X:Cx}{pins:vn}{σ:St}{H:Hp}{s:Shared}{a:Addr}{y:V}{u:Value}{A:Around}{E:vm}
end
end L2
namespace Att
open PySem PySem.W PySem.Calls PyProof.Rows
end Att
namespace L2
open PySem PySem.Spec PyProof.Rows
section
variable {X:Cx}
theorem GL:fY X (.builtin "len") (fun xs H Q=>∃a kvs,xs=[V.ref a]∧H a=some (.dK kvs)∧Q (.int kvs.length) H):=by
 intro pins s σ H xs us Q I r h;obtain⟨a,kvs,rfl,ha,q⟩:=h;obtain⟨u,rfl,ru⟩:=vals1 r;cases ru;exact aFw I (.inl ha) fun t s' I'=>⟨.int kvs.length,H,I',⟨t,rfl⟩,q⟩
end
section
variable {κ:Type}[DecidableEq κ]
end
end L2
namespace Toy
open PySem L2
open PySem.W (fnOf)
noncomputable def top(i:Nat):Stmt:=PySem.Challenge.pw_leaffold_k09_plan.main.body.getD i (.Pass ⟨0,0,0,0⟩)
noncomputable def dF(n q:Str)(s:Stmt)(m:Str)(t c:Nat):vj:=fnOf n q (L2.gF s) (L2.bR s) (L2.aD s) .none .none .none (.str m t) none (.ref c) .none
noncomputable def oF(f:vj):Obj:=⟨.type "function",none,.func f,#[]⟩
noncomputable def oC(x:Array Value):Obj:=⟨.type "code",none,.fields x,#[]⟩
noncomputable def en(P:Params)(x:Str)(t:Nat)(v:Value):DictEntry:=⟨PyData.keyHash P x,.str x t,v⟩
noncomputable def j(i:Int):Value:=.int i 0
noncomputable def l(a:Nat):Value:=.ref a
noncomputable def cF(t:Nat):Value:=.str "/claim/cut.py" t
noncomputable def zG:vj:=dF "__init__" "Pile.__init__" (L2.inClass (top 15) 0) "leaffold.piles" 335 139
noncomputable def sT:vj:=dF "heap" "Pile.heap" (L2.inClass (top 15) 1) "leaffold.piles" 335 146
noncomputable def sR:vj:=dF "laid" "laid" (top 16) "leaffold.piles" 335 165
noncomputable def sX:vj:=dF "laid_row" "laid_row" (top 17) "leaffold.piles" 335 170
noncomputable def sV:vj:=dF "folded" "folded" (top 18) "leaffold.piles" 335 177
noncomputable def BS:vj:=dF "refuse_severed" "refuse_severed" (top 19) "leaffold.piles" 335 184
noncomputable def tK:vj:=dF "has_crease" "has_crease" (top 20) "leaffold.piles" 335 191
noncomputable def BN:vj:=dF "folded_table" "folded_table" (top 21) "leaffold.piles" 335 196
noncomputable def tJ:vj:=dF "transposed" "transposed" (top 22) "leaffold.piles" 335 201
noncomputable def sY:vj:=dF "column_of" "column_of" (top 23) "leaffold.piles" 335 206
noncomputable def BM:vj:=dF "folded_strip" "folded_strip" (top 24) "leaffold.piles" 335 213
noncomputable def tP:vj:=dF "turned_part" "turned_part" (top 25) "leaffold.piles" 335 218
noncomputable def tR:vj:=dF "turned_heap" "turned_heap" (top 26) "leaffold.piles" 335 223
noncomputable def BO:vj:=dF "laid_together" "laid_together" (top 27) "leaffold.piles" 335 228
noncomputable def sW:vj:=dF "heap_at" "heap_at" (top 28) "leaffold.piles" 335 235
noncomputable def sU:vj:=dF "joints" "joints" (top 30) "leaffold.joints" 500 240
noncomputable def tM:vj:=dF "all_joints" "all_joints" (top 31) "leaffold.joints" 500 247
noncomputable def tH:vj:=dF "neighbours" "neighbours" (top 32) "leaffold.joints" 500 254
noncomputable def tO:vj:=dF "edge_lines" "edge_lines" (top 33) "leaffold.joints" 500 261
noncomputable def sQ:vj:=dF "cut" "cut" (top 34) "leaffold.joints" 500 266
noncomputable def sS:vj:=dF "plan" "plan" (top 37) "leaffold.books" 550 276
noncomputable def BR:vj:=dF "refuse_unbound" "refuse_unbound" (top 38) "leaffold.books" 550 283
noncomputable def BQ:vj:=dF "upright_pages" "upright_pages" (top 39) "leaffold.books" 550 290
noncomputable def BL:vj:=dF "_law_cell_at" "_law_cell_at" (top 41) "law_leaffold_k09_plan" 593 297
noncomputable def tN:vj:=dF "_law_whole" "_law_whole" (top 42) "law_leaffold_k09_plan" 593 304
noncomputable def BP:vj:=dF "_law_sheet_by" "_law_sheet_by" (top 43) "law_leaffold_k09_plan" 593 311
noncomputable def BJ:vj:=dF "_law_fold_by" "_law_fold_by" (top 44) "law_leaffold_k09_plan" 593 318
noncomputable def sZ:vj:=dF "_law_shut" "_law_shut" (top 45) "law_leaffold_k09_plan" 593 325
noncomputable def tQ:vj:=dF "_law_leaves" "_law_leaves" (top 46) "law_leaffold_k09_plan" 593 330
noncomputable def tG:vj:=dF "_law_faces" "_law_faces" (top 47) "law_leaffold_k09_plan" 593 337
noncomputable def BK:vj:=dF "_law_word_of" "_law_word_of" (top 48) "law_leaffold_k09_plan" 593 344
noncomputable def tL:vj:=dF "_law_tried" "_law_tried" (top 49) "law_leaffold_k09_plan" 593 351
noncomputable def tF:vj:=dF "_law_good" "_law_good" (top 50) "law_leaffold_k09_plan" 593 358
noncomputable def oI:vj:=dF "law" "law" (top 51) "law_leaffold_k09_plan" 593 365
noncomputable def KK(P:Params):vi:=[(3,⟨(.type "dict"),none,(.dict #[en P "__name__" 165 (.str "law_leaffold_k09_plan" 593),en P "__doc__" 166 .none,en P "__package__" 167 .none,en P "__loader__" 168 (.builtin "__main__.__loader__#opaque"),en P "__spec__" 169 .none,en P "__annotations__" 170 (.ref 6),en P "__builtins__" 171 (.ref 4),en P "__file__" 173 (cF 172),en P "__cached__" 174 .none,en P "LeafError" 206 (.ref 24),en P "NoSheet" 222 (.ref 37),en P "NoFold" 238 (.ref 49),en P "NoPlace" 254 (.ref 61),en P "Ajar" 270 (.ref 73),en P "Severed" 286 (.ref 85),en P "Bolted" 302 (.ref 97),en P "Loose" 318 (.ref 109),en P "NoWord" 334 (.ref 121),en P "MOST_CELLS" 338 (.int 64 337),en P "UPRIGHT_SIDES" 341 (.ref 124),en P "LEVEL_SIDES" 344 (.ref 125),en P "NEAR_SIDES" 347 (.ref 126),en P "Pile" 402 (.ref 157),en P "laid" 408 (.ref 166),en P "laid_row" 414 (.ref 171),en P "folded" 426 (.ref 178),en P "refuse_severed" 433 (.ref 185),en P "has_crease" 442 (.ref 192),en P "folded_table" 448 (.ref 197),en P "transposed" 454 (.ref 202),en P "column_of" 460 (.ref 207),en P "folded_strip" 473 (.ref 214),en P "turned_part" 479 (.ref 219),en P "turned_heap" 485 (.ref 224),en P "laid_together" 491 (.ref 229),en P "heap_at" 499 (.ref 236),en P "joints" 507 (.ref 241),en P "all_joints" 519 (.ref 248),en P "neighbours" 530 (.ref 255),en P "edge_lines" 543 (.ref 262),en P "cut" 549 (.ref 267),en P "SPINE_LINES" 564 (.ref 268),en P "plan" 570 (.ref 277),en P "refuse_unbound" 578 (.ref 284),en P "upright_pages" 592 (.ref 291),en P "_law_cell_at" 602 (.ref 298),en P "_law_whole" 609 (.ref 305),en P "_law_sheet_by" 618 (.ref 312),en P "_law_fold_by" 630 (.ref 319),en P "_law_shut" 643 (.ref 326),en P "_law_leaves" 649 (.ref 331),en P "_law_faces" 663 (.ref 338),en P "_law_word_of" 671 (.ref 345),en P "_law_tried" 680 (.ref 352),en P "_law_good" 690 (.ref 359),en P "law" 707 (.ref 366)] 56),#[]⟩),
 (23,⟨(.type "dict"),none,(.dict #[en P "__module__" 196 (.str "leaffold.errors" 187),en P "__firstlineno__" 200 (.int 2 199),en P "__static_attributes__" 201 (.ref 22),en P "__weakref__" 203 (.ref 25),en P "__doc__" 204 .none] 3),#[]⟩),
 (24,⟨(.type "type"),none,(.cls ⟨"LeafError",[(.type "ValueError")],[(.ref 24),(.type "ValueError"),(.type "Exception"),(.type "BaseException"),(.type "object")],23,"LeafError",true,[],[(.ref 37),(.ref 49),(.ref 61),(.ref 73),(.ref 85),(.ref 97),(.ref 109),(.ref 121)],false,none,false⟩),#[(some (.ref 15)),none,(some (.str "LeafError" 189)),(some (.str "LeafError" 197)),(some (.builtin "ValueError.__new__")),(some (.bool true))]⟩),
 (36,⟨(.type "dict"),none,(.dict #[en P "__module__" 214 (.str "leaffold.errors" 187),en P "__firstlineno__" 218 (.int 4 217),en P "__static_attributes__" 219 (.ref 35),en P "__doc__" 220 .none] 2),#[]⟩),
 (37,⟨(.type "type"),none,(.cls ⟨"NoSheet",[(.ref 24)],[(.ref 37),(.ref 24),(.type "ValueError"),(.type "Exception"),(.type "BaseException"),(.type "object")],36,"NoSheet",true,[],[],false,none,false⟩),#[(some (.ref 28)),none,(some (.str "NoSheet" 207)),(some (.str "NoSheet" 215)),(some (.builtin "ValueError.__new__")),(some (.bool true))]⟩),
 (48,⟨(.type "dict"),none,(.dict #[en P "__module__" 230 (.str "leaffold.errors" 187),en P "__firstlineno__" 234 (.int 6 233),en P "__static_attributes__" 235 (.ref 47),en P "__doc__" 236 .none] 2),#[]⟩),
 (49,⟨(.type "type"),none,(.cls ⟨"NoFold",[(.ref 24)],[(.ref 49),(.ref 24),(.type "ValueError"),(.type "Exception"),(.type "BaseException"),(.type "object")],48,"NoFold",true,[],[],false,none,false⟩),#[(some (.ref 40)),none,(some (.str "NoFold" 223)),(some (.str "NoFold" 231)),(some (.builtin "ValueError.__new__")),(some (.bool true))]⟩),
 (60,⟨(.type "dict"),none,(.dict #[en P "__module__" 246 (.str "leaffold.errors" 187),en P "__firstlineno__" 250 (.int 8 249),en P "__static_attributes__" 251 (.ref 59),en P "__doc__" 252 .none] 2),#[]⟩),
 (61,⟨(.type "type"),none,(.cls ⟨"NoPlace",[(.ref 24)],[(.ref 61),(.ref 24),(.type "ValueError"),(.type "Exception"),(.type "BaseException"),(.type "object")],60,"NoPlace",true,[],[],false,none,false⟩),#[(some (.ref 52)),none,(some (.str "NoPlace" 239)),(some (.str "NoPlace" 247)),(some (.builtin "ValueError.__new__")),(some (.bool true))]⟩),
 (72,⟨(.type "dict"),none,(.dict #[en P "__module__" 262 (.str "leaffold.errors" 187),en P "__firstlineno__" 266 (.int 10 265),en P "__static_attributes__" 267 (.ref 71),en P "__doc__" 268 .none] 2),#[]⟩),
 (73,⟨(.type "type"),none,(.cls ⟨"Ajar",[(.ref 24)],[(.ref 73),(.ref 24),(.type "ValueError"),(.type "Exception"),(.type "BaseException"),(.type "object")],72,"Ajar",true,[],[],false,none,false⟩),#[(some (.ref 64)),none,(some (.str "Ajar" 255)),(some (.str "Ajar" 263)),(some (.builtin "ValueError.__new__")),(some (.bool true))]⟩),
 (84,⟨(.type "dict"),none,(.dict #[en P "__module__" 278 (.str "leaffold.errors" 187),en P "__firstlineno__" 282 (.int 12 281),en P "__static_attributes__" 283 (.ref 83),en P "__doc__" 284 .none] 2),#[]⟩),
 (85,⟨(.type "type"),none,(.cls ⟨"Severed",[(.ref 24)],[(.ref 85),(.ref 24),(.type "ValueError"),(.type "Exception"),(.type "BaseException"),(.type "object")],84,"Severed",true,[],[],false,none,false⟩),#[(some (.ref 76)),none,(some (.str "Severed" 271)),(some (.str "Severed" 279)),(some (.builtin "ValueError.__new__")),(some (.bool true))]⟩),
 (96,⟨(.type "dict"),none,(.dict #[en P "__module__" 294 (.str "leaffold.errors" 187),en P "__firstlineno__" 298 (.int 14 297),en P "__static_attributes__" 299 (.ref 95),en P "__doc__" 300 .none] 2),#[]⟩),
 (97,⟨(.type "type"),none,(.cls ⟨"Bolted",[(.ref 24)],[(.ref 97),(.ref 24),(.type "ValueError"),(.type "Exception"),(.type "BaseException"),(.type "object")],96,"Bolted",true,[],[],false,none,false⟩),#[(some (.ref 88)),none,(some (.str "Bolted" 287)),(some (.str "Bolted" 295)),(some (.builtin "ValueError.__new__")),(some (.bool true))]⟩),
 (108,⟨(.type "dict"),none,(.dict #[en P "__module__" 310 (.str "leaffold.errors" 187),en P "__firstlineno__" 314 (.int 16 313),en P "__static_attributes__" 315 (.ref 107),en P "__doc__" 316 .none] 2),#[]⟩),
 (109,⟨(.type "type"),none,(.cls ⟨"Loose",[(.ref 24)],[(.ref 109),(.ref 24),(.type "ValueError"),(.type "Exception"),(.type "BaseException"),(.type "object")],108,"Loose",true,[],[],false,none,false⟩),#[(some (.ref 100)),none,(some (.str "Loose" 303)),(some (.str "Loose" 311)),(some (.builtin "ValueError.__new__")),(some (.bool true))]⟩),
 (120,⟨(.type "dict"),none,(.dict #[en P "__module__" 326 (.str "leaffold.errors" 187),en P "__firstlineno__" 330 (.int 18 329),en P "__static_attributes__" 331 (.ref 119),en P "__doc__" 332 .none] 2),#[]⟩),
 (121,⟨(.type "type"),none,(.cls ⟨"NoWord",[(.ref 24)],[(.ref 121),(.ref 24),(.type "ValueError"),(.type "Exception"),(.type "BaseException"),(.type "object")],120,"NoWord",true,[],[],false,none,false⟩),#[(some (.ref 112)),none,(some (.str "NoWord" 319)),(some (.str "NoWord" 327)),(some (.builtin "ValueError.__new__")),(some (.bool true))]⟩),
 (124,⟨(.type "tuple"),none,(.seq #[(.str "west" 339),(.str "east" 340)] 0),#[]⟩),
 (125,⟨(.type "tuple"),none,(.seq #[(.str "north" 342),(.str "south" 343)] 0),#[]⟩),
 (126,⟨(.type "tuple"),none,(.seq #[(.str "west" 345),(.str "north" 346)] 0),#[]⟩),
 (139,oC #[.str "__init__" 360,.str "Pile.__init__" 361,cF 362,j 27,j 6,j 0,j 0,j 3,l 134,(.bool true),j 181,l 135,.none,l 136,l 137,l 138,j 369,j 27,cF 370]),
 (140,oF zG),
 (146,oC #[.str "heap" 372,.str "Pile.heap" 373,cF 374,j 36,j 3,j 0,j 0,j 3,l 141,(.bool true),j 181,l 142,.none,l 143,l 144,l 145,j 378,j 36,cF 379]),
 (147,oF sT),
 (156,⟨(.type "dict"),none,(.dict #[en P "__module__" 355 (.str "leaffold.piles" 335),en P "__firstlineno__" 359 (.int 25 358),en P "__init__" 371 (.ref 140),en P "heap" 380 (.ref 147),en P "done" 387 (.ref 154),en P "__static_attributes__" 395 (.ref 155),en P "__dict__" 397 (.ref 158),en P "__weakref__" 399 (.ref 159),en P "__doc__" 400 .none] 4),#[]⟩),
 (157,⟨(.type "type"),none,(.cls ⟨"Pile",[(.type "object")],[(.ref 157),(.type "object")],156,"Pile",true,[],[],false,none,false⟩),#[none,none,(some (.str "Pile" 348)),(some (.str "Pile" 356)),(some (.builtin "object.__new__")),(some (.bool true))]⟩),
 (165,oC #[.str "laid" 403,.str "laid" 404,cF 405,j 43,j 2,j 0,j 0,j 3,l 162,(.bool true),j 181,l 163,.none,.none,.none,l 164,j 406,j 43,cF 407]),
 (166,oF sR),
 (170,oC #[.str "laid_row" 409,.str "laid_row" 410,cF 411,j 48,j 2,j 0,j 0,j 3,l 167,(.bool true),j 181,l 168,.none,.none,.none,l 169,j 412,j 48,cF 413]),
 (171,oF sX),
 (177,oC #[.str "folded" 415,.str "folded" 416,cF 417,j 50,j 4,j 0,j 0,j 3,l 172,(.bool true),j 181,l 173,.none,l 174,l 175,l 176,j 424,j 50,cF 425]),
 (178,oF sV),
 (184,oC #[.str "refuse_severed" 427,.str "refuse_severed" 428,cF 429,j 57,j 1,j 0,j 0,j 3,l 179,(.bool true),j 181,l 180,.none,l 181,l 182,l 183,j 431,j 57,cF 432]),
 (185,oF BS),
 (191,oC #[.str "has_crease" 434,.str "has_crease" 435,cF 436,j 60,j 3,j 0,j 0,j 3,l 186,(.bool true),j 181,l 187,.none,l 188,l 189,l 190,j 440,j 60,cF 441]),
 (192,oF tK),
 (196,oC #[.str "folded_table" 443,.str "folded_table" 444,cF 445,j 66,j 4,j 0,j 0,j 3,l 193,(.bool true),j 181,l 194,.none,.none,.none,l 195,j 446,j 66,cF 447]),
 (197,oF BN),
 (201,oC #[.str "transposed" 449,.str "transposed" 450,cF 451,j 71,j 1,j 0,j 0,j 3,l 198,(.bool true),j 181,l 199,.none,.none,.none,l 200,j 452,j 71,cF 453]),
 (202,oF tJ),
 (206,oC #[.str "column_of" 455,.str "column_of" 456,cF 457,j 73,j 2,j 0,j 0,j 3,l 203,(.bool true),j 181,l 204,.none,.none,.none,l 205,j 458,j 73,cF 459]),
 (207,oF sY),
 (213,oC #[.str "folded_strip" 461,.str "folded_strip" 462,cF 463,j 75,j 4,j 0,j 0,j 3,l 208,(.bool true),j 181,l 209,.none,l 210,l 211,l 212,j 471,j 75,cF 472]),
 (214,oF BM),
 (218,oC #[.str "turned_part" 474,.str "turned_part" 475,cF 476,j 82,j 2,j 0,j 0,j 3,l 215,(.bool true),j 181,l 216,.none,.none,.none,l 217,j 477,j 82,cF 478]),
 (219,oF tP),
 (223,oC #[.str "turned_heap" 480,.str "turned_heap" 481,cF 482,j 84,j 2,j 0,j 0,j 3,l 220,(.bool true),j 181,l 221,.none,.none,.none,l 222,j 483,j 84,cF 484]),
 (224,oF tR),
 (228,oC #[.str "laid_together" 486,.str "laid_together" 487,cF 488,j 88,j 3,j 0,j 0,j 3,l 225,(.bool true),j 181,l 226,.none,.none,.none,l 227,j 489,j 88,cF 490]),
 (229,oF BO),
 (235,oC #[.str "heap_at" 492,.str "heap_at" 493,cF 494,j 93,j 2,j 0,j 0,j 3,l 230,(.bool true),j 181,l 231,.none,l 232,l 233,l 234,j 497,j 93,cF 498]),
 (236,oF sW),
 (240,oC #[.str "joints" 502,.str "joints" 503,cF 504,j 96,j 1,j 0,j 0,j 3,l 237,(.bool true),j 181,l 238,.none,.none,.none,l 239,j 505,j 96,cF 506]),
 (241,oF sU),
 (247,oC #[.str "all_joints" 508,.str "all_joints" 509,cF 510,j 98,j 1,j 0,j 0,j 3,l 242,(.bool true),j 181,l 243,.none,l 244,l 245,l 246,j 517,j 98,cF 518]),
 (248,oF tM),
 (254,oC #[.str "neighbours" 520,.str "neighbours" 521,cF 522,j 104,j 2,j 0,j 0,j 3,l 249,(.bool true),j 181,l 250,.none,l 251,l 252,l 253,j 528,j 104,cF 529]),
 (255,oF tH),
 (261,oC #[.str "edge_lines" 531,.str "edge_lines" 532,cF 533,j 113,j 1,j 0,j 0,j 3,l 256,(.bool true),j 181,l 257,.none,l 258,l 259,l 260,j 541,j 113,cF 542]),
 (262,oF tO),
 (266,oC #[.str "cut" 544,.str "cut" 545,cF 546,j 120,j 3,j 0,j 0,j 3,l 263,(.bool true),j 181,l 264,.none,.none,.none,l 265,j 547,j 120,cF 548]),
 (267,oF sQ),
 (268,⟨(.type "dict"),none,(.dict #[en P "west" 552 (.ref 269),en P "east" 554 (.ref 270),en P "north" 556 (.ref 271),en P "south" 558 (.ref 272)] 4),#[]⟩),
 (269,⟨(.type "tuple"),none,(.seq #[(.bool false),(.int 0 553)] 0),#[]⟩),
 (270,⟨(.type "tuple"),none,(.seq #[(.bool false),(.int 1 555)] 0),#[]⟩),
 (271,⟨(.type "tuple"),none,(.seq #[(.bool true),(.int 0 557)] 0),#[]⟩),
 (272,⟨(.type "tuple"),none,(.seq #[(.bool true),(.int 1 559)] 0),#[]⟩),
 (276,oC #[.str "plan" 565,.str "plan" 566,cF 567,j 128,j 2,j 0,j 0,j 3,l 273,(.bool true),j 181,l 274,.none,.none,.none,l 275,j 568,j 128,cF 569]),
 (277,oF sS),
 (283,oC #[.str "refuse_unbound" 571,.str "refuse_unbound" 572,cF 573,j 134,j 2,j 0,j 0,j 3,l 278,(.bool true),j 181,l 279,.none,l 280,l 281,l 282,j 576,j 134,cF 577]),
 (284,oF BR),
 (290,oC #[.str "upright_pages" 579,.str "upright_pages" 580,cF 581,j 139,j 2,j 0,j 0,j 3,l 285,(.bool true),j 181,l 286,.none,l 287,l 288,l 289,j 590,j 139,cF 591]),
 (291,oF BQ),
 (297,oC #[.str "_law_cell_at" 595,.str "_law_cell_at" 596,cF 597,j 148,j 2,j 0,j 0,j 3,l 292,(.bool true),j 181,l 293,.none,l 294,l 295,l 296,j 600,j 148,cF 601]),
 (298,oF BL),
 (304,oC #[.str "_law_whole" 603,.str "_law_whole" 604,cF 605,j 152,j 1,j 0,j 0,j 3,l 299,(.bool true),j 181,l 300,.none,l 301,l 302,l 303,j 607,j 152,cF 608]),
 (305,oF tN),
 (311,oC #[.str "_law_sheet_by" 610,.str "_law_sheet_by" 611,cF 612,j 154,j 1,j 0,j 0,j 3,l 306,(.bool true),j 181,l 307,.none,l 308,l 309,l 310,j 616,j 154,cF 617]),
 (312,oF BP),
 (318,oC #[.str "_law_fold_by" 619,.str "_law_fold_by" 620,cF 621,j 166,j 3,j 0,j 0,j 3,l 313,(.bool true),j 181,l 314,.none,l 315,l 316,l 317,j 628,j 166,cF 629]),
 (319,oF BJ),
 (325,oC #[.str "_law_shut" 631,.str "_law_shut" 632,cF 633,j 171,j 3,j 0,j 0,j 3,l 320,(.bool true),j 181,l 321,.none,l 322,l 323,l 324,j 641,j 171,cF 642]),
 (326,oF sZ),
 (330,oC #[.str "_law_leaves" 644,.str "_law_leaves" 645,cF 646,j 179,j 2,j 0,j 0,j 3,l 327,(.bool true),j 181,l 328,.none,.none,.none,l 329,j 647,j 179,cF 648]),
 (331,oF tQ),
 (337,oC #[.str "_law_faces" 650,.str "_law_faces" 651,cF 652,j 193,j 2,j 0,j 0,j 3,l 332,(.bool true),j 181,l 333,.none,l 334,l 335,l 336,j 661,j 193,cF 662]),
 (338,oF tG),
 (344,oC #[.str "_law_word_of" 664,.str "_law_word_of" 665,cF 666,j 203,j 1,j 0,j 0,j 3,l 339,(.bool true),j 181,l 340,.none,l 341,l 342,l 343,j 669,j 203,cF 670]),
 (345,oF BK),
 (351,oC #[.str "_law_tried" 672,.str "_law_tried" 673,cF 674,j 209,j 2,j 0,j 0,j 3,l 346,(.bool true),j 181,l 347,.none,l 348,l 349,l 350,j 678,j 209,cF 679]),
 (352,oF tL),
 (358,oC #[.str "_law_good" 681,.str "_law_good" 682,cF 683,j 215,j 2,j 0,j 0,j 3,l 353,(.bool true),j 181,l 354,.none,l 355,l 356,l 357,j 688,j 215,cF 689]),
 (359,oF tF),
 (365,oC #[.str "law" 691,.str "law" 692,cF 693,j 225,j 1,j 0,j 0,j 3,l 360,(.bool true),j 181,l 361,.none,l 362,l 363,l 364,j 705,j 225,cF 706]),
 (366,oF oI)]
noncomputable def aas:List Addr:=[3,23,24,36,37,48,49,60,61,72,73,84,85,96,97,108,109,120,121,124,125,126,139,140,146,147,156,157,165,166,170,171,177,178,184,185,191,192,196,197,201,202,206,207,213,214,218,219,223,224,228,229,235,236,240,241,247,248,254,255,261,262,266,267,268,269,270,271,272,276,277,283,284,290,291,297,298,304,305,311,312,318,319,325,326,330,331,337,338,344,345,351,352,358,359,365,366]
theorem aFb:∀P,aas=(KK P).map (·.1):=fun _=>by kernel_rfl
abbrev lw:PySem.W.OpenLaw:=PySem.Challenge.rw_leaffold_k09_plan
abbrev HH:PySem.W.Hook:=PySem.W.kHook KK aas aFb
open PySem.W PyProof.Rows
noncomputable def vw:vk:=view lw.prog [1,2,3,4,5,6,7,8,9,11,12,13,14,15,16,17,18,19,20,21,22,23,24,25,26,27,28,30,31,32,33,34,36,37,38,39,41,42,43,44,45,46,47,48,49,50,51]
abbrev Xt(s:Shared):Bool:=xlAt vw [] s&&recOk (RowW.records (OpenRow.toRowW (OpenLaw.row lw))) s
set_option maxHeartbeats 0 in
theorem sA{p q:vk}{loose:List Str}{Xt:Shared→Bool}{α:Type}{Yf:Shared→α}{Ya:World→α}{N:Nat}{g0:Bool}(open_:∀w:World,(fencedOpening treeTable p w N).map (fun s=>(s.heap,s.gens,s.drawn,s.toks))=some (boot_heap w.params,Array.mk [],boot_drawn,boot_toks))
  (h:∀(w:World) (os:OsState),(topFrom treeTable p w N ⟨boot_heap w.params,Array.mk [],boot_drawn,boot_toks,os⟩).map (fun s=>(openSeen q loose (importedModules p.main.body) Xt g0 s,Yf s))=some (openGood q loose,Ya w)):LeftO p q loose Xt Yf Ya N g0:=fun w=>by
 obtain⟨⟨hp,gs,d,k,os⟩,e,e'⟩:=rq.mp (open_ w);obtain⟨rfl,rfl,rfl,rfl⟩:hp=boot_heap w.params∧gs=Array.mk []∧d=boot_drawn∧k=boot_toks:=by simpa using e'
 unfold openEnds;rw[e];exact h w os
set_option maxHeartbeats 0 in
theorem aEX(w:World)(os:OsState):(topFrom treeTable lw.prog (w.withFollow "special-get-raises" false) 6766 ⟨boot_heap (w.withFollow "special-get-raises" false).params,Array.mk [],boot_drawn,boot_toks,os⟩).map (fun s=>(openSeen vw (["SPINE_LINES"]:List Str) (importedModules lw.prog.main.body) Xt true s,Hook.obs HH s))=some (openGood vw (["SPINE_LINES"]:List Str),Hook.val HH (w.withFollow "special-get-raises" false)):=by
 unfold topFrom
 rewrite[Fast.te14082659384304107361,Fast.te4187177175401517315]
 kernel_rfl
set_option maxHeartbeats 0 in
theorem aEW(w:World)(os:OsState):(topFrom treeTable lw.prog (w.withFollow "special-get-raises" true) 6766 ⟨boot_heap (w.withFollow "special-get-raises" true).params,Array.mk [],boot_drawn,boot_toks,os⟩).map (fun s=>(openSeen vw (["SPINE_LINES"]:List Str) (importedModules lw.prog.main.body) Xt true s,Hook.obs HH s))=some (openGood vw (["SPINE_LINES"]:List Str),Hook.val HH (w.withFollow "special-get-raises" true)):=by
 unfold topFrom
 rewrite[Fast.te14082659384304107361,Fast.te4187177175401517315]
 kernel_rfl
theorem left:LeftO lw.prog vw (["SPINE_LINES"]:List Str) Xt (Hook.obs HH) (Hook.val HH) 6766:=by
 refine sA (boot_open rfl rfl fun s=>rfl) fun w os=>?_
 have e:=World.withFollow_self w "special-get-raises"
 cases hb:w.params.followText "special-get-raises" with
 |false =>
  rw[hb]at e;have h:=aEX w os
  rw[e]at h;exact h
 |true =>
  rw[hb]at e;have h:=aEW w os
  rw[e]at h;exact h
end Toy
namespace Z
open PySem
inductive D where
 |non
 |bl (b:Bool)
 |int (i:Int)
 |str (x:Str)
 |lst (xs:List D)
 |tup (xs:List D)
 |obj (c:Str) (fs:List (Str×D))
 |exc (c:Str)
 |dct (kvs:List (Int×D))
 |frz (xs:List D)
noncomputable def cC(kvs:List (Int×D))(k:Int):Option D:=(kvs.find? fun kv=>decide (kv.1=k)).map (·.2)
noncomputable def jW(kvs:List (Int×D))(k:Int)(d:D):List (Int×D):=if kvs.any (fun kv=>decide (kv.1=k)) then kvs.map (fun kv=>if kv.1=k then(kv.1,d) else kv) else kvs++[(k,d)]
inductive Lit where
 |non|bl (b:Bool)|int (i:Int)|str (x:Str)
noncomputable def Lit.d:Lit→D
 |.non=>.non
 |.bl b=>.bl b
 |.int i=>.int i
 |.str x=>.str x
inductive Rs where
 |ok (d:D)
 |er (c:Str)
mutual
noncomputable def b7:D→D→Bool
 |.non,.non=>true
 |.bl a,.bl b=>a == b
 |.bl a,.int b=>(if a then 1 else 0) == b
 |.int a,.bl b=>a == (if b then 1 else 0)
 |.int a,.int b=>a == b
 |.str a,.str b=>a == b
 |.lst a,.lst b=>kU a b
 |.tup a,.tup b=>kU a b
 |_,_=>false
noncomputable def kU:List D→List D→Bool
 |[],[]=>true
 |x::xs,y::ys=>b7 x y&&kU xs ys
 |_,_=>false
end
noncomputable def oi(x:Str):Bool:=x.cps.all (· < 0x110000)
noncomputable def flat:Nat→D→Bool
 |_,.non=>true
 |_,.bl _=>true
 |_,.int _=>true
 |_,.str x=>oi x
 |n+1,.lst xs=>xs.all (flat n)
 |n+1,.tup xs=>xs.all (flat n)
 |_,_=>false
noncomputable def plain(d:D):Bool:=flat 8 d
noncomputable def di:D→Option Bool
 |.non=>some false
 |.bl b=>some b
 |.int i=>some (i != 0)
 |.lst xs=>some (!xs.isEmpty)
 |.tup xs=>some (!xs.isEmpty)
 |.frz xs=>some (!xs.isEmpty)
 |_=>none
inductive O2 where
 |add|sub|mul|fdiv|mod|pow|eq|ne|lt|le|gt|ge|isin|notin|is|isnot
noncomputable def big:Nat:=1000000
noncomputable def ixN(n:Nat)(i:Int):Option Nat:=if 0≤i then(if i<n then some i.toNat else none) else if -(n:Int)≤i then some (i+n).toNat else none
noncomputable def atI{α:Type}(xs:List α)(i:Int):Option α:=(ixN xs.length i).bind fun j=>xs[j]?
noncomputable def sIx(n d:Nat):Option Int→Nat
 |none=>d
 |some v=>if v<0 then(v+(n:Int)).toNat else min v.toNat n
noncomputable def cut{α:Type}(xs:List α)(lo hi:Option Int):List α:=(xs.drop (sIx xs.length 0 lo)).take (sIx xs.length xs.length hi-sIx xs.length 0 lo)
noncomputable def isD:D→D→Option Bool
 |.non,.non=>some true
 |.bl _,.non=>some false
 |.int _,.non=>some false
 |.str _,.non=>some false
 |.lst _,.non=>some false
 |.tup _,.non=>some false
 |.obj _ _,.non=>some false
 |.bl a,.bl b=>some (a == b)
 |_,_=>none
noncomputable def RT:D→D→Option D
 |.int i,.int j=>some (.int (i+j))
 |.str x,.str y=>if x.length+y.length≤big then some (.str (x++y)) else none
 |.lst xs,.lst ys=>if xs.length+ys.length≤big then some (.lst (xs++ys)) else none
 |.tup xs,.tup ys=>if xs.length+ys.length≤big then some (.tup (xs++ys)) else none
 |_,_=>none
noncomputable def aEy:D→D→Option D
 |.int i,.int j=>some (.int (i-j))
 |_,_=>none
noncomputable def aEA:D→D→Option D
 |.int i,.int j=>if (-(2 ^ 64)<i∧i<2 ^ 64)∨(-(2 ^ 64)<j∧j<2 ^ 64) then some (.int (i*j)) else none
 |_,_=>none
noncomputable def oDiv:D→D→Option D
 |.int i,.int j=>if 0<j∧j<1073741824 then some (.int (i / j)) else none
 |_,_=>none
noncomputable def oMod:D→D→Option D
 |.int i,.int j=>if 0<j then some (.int (i % j)) else none
 |_,_=>none
noncomputable def aEz:D→D→Option D
 |.int i,.int j=>if 0≤j∧j≤1000∧i.natAbs<2 ^ 64 then some (.int (i ^ j.toNat)) else none
 |_,_=>none
noncomputable def oEq(a b:D):Option D:=if plain a&&plain b then some (.bl (b7 a b)) else none
noncomputable def oNe(a b:D):Option D:=if plain a&&plain b then some (.bl (!b7 a b)) else none
noncomputable def oLt:D→D→Option D
 |.int i,.int j=>some (.bl (decide (i<j)))
 |_,_=>none
noncomputable def oLe:D→D→Option D
 |.int i,.int j=>some (.bl (decide (i≤j)))
 |_,_=>none
noncomputable def oGt:D→D→Option D
 |.int i,.int j=>some (.bl (decide (j<i)))
 |_,_=>none
noncomputable def oGe:D→D→Option D
 |.int i,.int j=>some (.bl (decide (j≤i)))
 |_,_=>none
noncomputable def oIn(a:D):D→Option D
 |.lst ys=>if plain a&&ys.all plain then some (.bl (ys.any fun y=>b7 y a)) else none
 |.tup ys=>if plain a&&ys.all plain then some (.bl (ys.any fun y=>b7 y a)) else none
 |_=>none
noncomputable def JI(a:D):D→Option D
 |.lst ys=>if plain a&&ys.all plain then some (.bl (!ys.any fun y=>b7 y a)) else none
 |.tup ys=>if plain a&&ys.all plain then some (.bl (!ys.any fun y=>b7 y a)) else none
 |_=>none
noncomputable def oIs(a b:D):Option D:=(isD a b).map .bl
noncomputable def JJ(a b:D):Option D:=(isD a b).map fun k=>.bl (!k)
noncomputable def ah(o:O2)(a b:D):Option D:=match o with
 |.add=>RT a b
 |.sub=>aEy a b
 |.mul=>aEA a b
 |.fdiv=>oDiv a b
 |.mod=>oMod a b
 |.pow=>aEz a b
 |.eq=>oEq a b
 |.ne=>oNe a b
 |.lt=>oLt a b
 |.le=>oLe a b
 |.gt=>oGt a b
 |.ge=>oGe a b
 |.isin=>oIn a b
 |.notin=>JI a b
 |.is=>oIs a b
 |.isnot=>JJ a b
inductive BF where
 |len|int|list|tuple|max|min|str|sorted|any
noncomputable def gQ:List D→Option (List Int)
 |[]=>some []
 |.int i::r=>(gQ r).map (i :: ·)
 |_::_=>none
noncomputable def lN:Int→List Int→Int
 |m,[]=>m
 |m,x::r=>lN (if x > m then x else m) r
noncomputable def aEV:Int→List Int→Int
 |m,[]=>m
 |m,x::r=>aEV (if x<m then x else m) r
noncomputable def TM:List D→Option D
 |[.lst xs]=>some (.int xs.length)
 |[.tup xs]=>some (.int xs.length)
 |[.frz xs]=>some (.int xs.length)
 |[.str x]=>if x.length≤big then some (.int x.length) else none
 |_=>none
noncomputable def aFs:List D→Option D
 |[.int i]=>some (.int i)
 |[.bl b]=>some (.int (if b then 1 else 0))
 |_=>none
noncomputable def wN:List D→Option D
 |[.lst xs]=>some (.lst xs)
 |[.tup xs]=>some (.lst xs)
 |[.frz xs]=>some (.lst xs)
 |_=>none
noncomputable def tT:List D→Option D
 |[.lst xs]=>some (.tup xs)
 |[.tup xs]=>some (.tup xs)
 |_=>none
noncomputable def LD:List D→Option D
 |[.int i,.int j]=>some (.int (if j > i then j else i))
 |[.lst xs]=>match gQ xs with|some (i::r)=>some (.int (lN i r))|_=>none
 |_=>none
noncomputable def aFr:List D→Option D
 |[.int i,.int j]=>some (.int (if j<i then j else i))
 |[.lst xs]=>match gQ xs with|some (i::r)=>some (.int (aEV i r))|_=>none
 |_=>none
noncomputable def lK:List D→Option (List (Int×Int))
 |[]=>some []
 |.tup [.int a,.int b]::r=>(lK r).map ((a,b) :: ·)
 |_::_=>none
noncomputable def wY(p:Int×Int):D:=.tup [.int p.1,.int p.2]
noncomputable def cw(x y:Int×Int):Bool:=decide (x.1<y.1) || (x.1 == y.1&&decide (x.2<y.2))
noncomputable def yY(x:Int×Int):List (Int×Int)→List (Int×Int)
 |[]=>[x]
 |y::r=>if cw x y then x::y::r else y::yY x r
noncomputable def iO:List (Int×Int)→List (Int×Int)
 |[]=>[]
 |x::r=>yY x (iO r)
noncomputable def gG(ps:List (Int×Int)):Bool:=decide (ps.length≤64)&&decide ps.Nodup
noncomputable def mC(ds:List D):Option (List D):=match lK ds with
 |some ps=>if gG ps then some ((iO ps).map wY) else none
 |none=>match gQ ds with
  |some is=>if gG (is.map fun i=>(i,0)) then some ((iO (is.map fun i=>(i,0))).map fun p=>.int p.1) else none
  |none=>none
noncomputable def kP:List D→Option D
 |[.lst xs]=>(mC xs).map .lst
 |_=>none
noncomputable def bf(b:BF)(ds:List D):Option D:=match b with
 |.sorted=>kP ds
 |.len=>TM ds
 |.int=>aFs ds
 |.list=>wN ds
 |.tuple=>tT ds
 |.max=>LD ds
 |.min=>aFr ds
 |_=>none
inductive Src where
 |seq|rng|rev|enum|rvr
noncomputable def cO(lo hi:Int):List D:=(List.range (hi-lo).toNat).map fun (k:Nat)=>D.int (lo+k)
noncomputable def oP:Nat→List D→List D
 |_,[]=>[]
 |k,x::r=>.tup [.int k,x]::oP (k+1) r
noncomputable def dW(i:Int):Bool:=decide (-(2 ^ 62)≤i)&&decide (i<2 ^ 62)
noncomputable def VN:D→Option (List D)
 |.lst xs=>some xs
 |.tup xs=>some xs
 |.frz xs=>some xs
 |_=>none
noncomputable def AY:List D→Option (List D)
 |[.int j]=>if dW j&&decide (j.toNat≤big) then some (cO 0 j) else none
 |[.int i,.int j]=>if dW i&&dW j&&decide ((j-i).toNat≤big) then some (cO i j) else none
 |_=>none
noncomputable def aFd:List D→Option (List D)
 |[.int j]=>if decide (0≤j)&&decide (j.toNat≤big) then some (cO 0 j).reverse else none
 |_=>none
noncomputable def vZ:D→Option (List D)
 |.lst xs=>some xs.reverse
 |_=>none
noncomputable def yW:D→Option (List D)
 |.lst xs=>some (oP 0 xs)
 |_=>none
noncomputable def items(k:Src)(d:D):Option (List D):=match k with
 |.seq=>VN d
 |.rng=>match d with
  |.tup as=>AY as
  |_=>none
 |.rev=>vZ d
 |.enum=>yW d
 |.rvr=>match d with
  |.tup as=>aFd as
  |_=>none
set_option genSizeOf false
set_option genInjectivity false
inductive IE where
 |var (i:Nat)
 |lit (l:Lit)
 |glo (x:Str)
 |bin (o:O2) (a b:IE)
 |neg (a:IE)
 |and (a b:IE)
 |or (a b:IE)
 |not (a:IE)
 |tr (a:IE)
 |ite (c a b:IE)
 |chain (o o':O2) (a b c:IE)
 |nil
 |cons (e es:IE)
 |tup (es:IE)
 |lst (es:IE)
 |ix (a i:IE)
 |ixm (x:Nat) (i:IE)
 |lenm (x:Nat)
 |sortm (x:Nat)
 |sl (a:IE) (bl:Bool) (lo:IE) (bh:Bool) (hi:IE)
 |slm (x:Nat) (bl:Bool) (lo:IE) (bh:Bool) (hi:IE)
 |fld (a:IE) (f:Str)
 |call (f:Str) (es:IE)
 |meth (o:IE) (m:Str) (es:IE)
 |mk (c:Str) (es:IE)
 |bcall (b:BF) (es:IE)
 |isi (a:IE) (t:Str)
 |walk (k:Src) (a:IE)
 |comp (n:Nat) (fr:List (Nat×Nat)) (tg:List Nat) (tp:Bool) (k:Src) (src test elt:IE)
 |inC (neg:Bool) (x:Str) (a:IE)
 |ixd (x:Nat) (i:IE)
 |lend (x:Nat)
set_option genInjectivity true
inductive Sl where
 |un
 |im (d:D)
 |mu (d:D)
structure GS where
 fn:Str→List D→Option Rs
 ff:Str→Bool
 me:Str→Str→List D→Option Rs
 mf:Str→Str→Bool
 mo:Str→List D→Option Rs
 cst:Str→Option D
 sub:Str→Str→Bool
 fl:Str→List Str
 xn:Str→Bool
 wd:Str→Str→Option Str
 dk:Str→Option (List (Str×D))
noncomputable def iV(G:GS)(t:Str):D→Option Bool
 |.non=>if t = "int"∨t = "bool"∨t = "str"∨t = "list"∨t = "tuple" then some false else none
 |.bl _=>if t = "int"∨t = "bool" then some true else if t = "str"∨t = "list"∨t = "tuple" then some false else none
 |.int _=>if t = "int" then some true else if t = "bool"∨t = "str"∨t = "list"∨t = "tuple" then some false else none
 |.str _=>if t = "str" then some true else if t = "int"∨t = "bool"∨t = "list"∨t = "tuple" then some false else none
 |.lst _=>if t = "list" then some true else if t = "int"∨t = "bool"∨t = "str"∨t = "tuple" then some false else none
 |.tup _=>if t = "tuple" then some true else if t = "int"∨t = "bool"∨t = "str"∨t = "list" then some false else none
 |_=>none
noncomputable def slot(ρ:List Sl)(i:Nat):Option D:=match ρ[i]? with
 |some (.im d)=>some d
 |_=>none
noncomputable def mD(ρ:List Sl)(i:Nat):Option (List D):=match ρ[i]? with
 |some (.im (.lst ds))=>some ds
 |some (.mu (.lst ds))=>some ds
 |_=>none
noncomputable def mE(ρ:List Sl)(i:Nat):Option (List (Int×D)):=match ρ[i]? with
 |some (.im (.dct ds))=>some ds
 |some (.mu (.dct ds))=>some ds
 |_=>none
noncomputable def iL:Option Rs→Option D
 |some (.ok d)=>some d
 |_=>none
noncomputable def bF:Option D→Option (List D)
 |some (.tup ds)=>some ds
 |_=>none
noncomputable def boolOf:Option D→Option Bool
 |some (.bl b)=>some b
 |_=>none
noncomputable def intOf:Option D→Option Int
 |some (.int b)=>some b
 |_=>none
noncomputable def frame(n:Nat)(fr:List (Nat×Nat))(ρ:List Sl):List Sl:=(List.range n).map fun i=>match fr.lookup i with
 |some j=>ρ.getD j .un
 |none=>.un
noncomputable def bK:List Nat→List D→List Sl→Option (List Sl)
 |[],[],ρ=>some ρ
 |i::is,d::ds,ρ=>bK is ds (ρ.set i (.im d))
 |_,_,_=>none
noncomputable def bJ(tg:List Nat)(tp:Bool)(d:D)(ρ:List Sl):Option (List Sl):=
 if tp then(match d with | .tup ds=>bK tg ds ρ|_=>none) else bK tg [d] ρ
noncomputable def bU(f:D→Option (Option D)):List D→Option (List D)
 |[]=>some []
 |d::r=>do
  let o ←f d
  let t ←bU f r
  match o with
  |some y=>some (y::t)
  |none=>some t
noncomputable def part(b:Bool)(o:Option D):Option (Option Int):=if b then(intOf o).map some else some none
noncomputable def ev(G:GS):IE→List Sl→Option D
 |.var i,ρ=>slot ρ i
 |.lit l,_=>some l.d
 |.glo x,_=>G.cst x
 |.bin o a b,ρ=>do ah o (←ev G a ρ) (←ev G b ρ)
 |.neg a,ρ=>do match ←ev G a ρ with | .int i=>some (.int (-i))|_=>none
 |.and a b,ρ=>do match ←ev G a ρ with | .bl true=>(match ←ev G b ρ with | .bl k=>some (.bl k)|_=>none) | .bl false=>some (.bl false)|_=>none
 |.or a b,ρ=>do match ←ev G a ρ with | .bl false=>(match ←ev G b ρ with | .bl k=>some (.bl k)|_=>none) | .bl true=>some (.bl true)|_=>none
 |.not a,ρ=>do match ←ev G a ρ with | .bl k=>some (.bl (!k))|_=>none
 |.tr a,ρ=>do (di (←ev G a ρ)).map .bl
 |.ite c a b,ρ=>do match ←ev G c ρ with | .bl true=>ev G a ρ | .bl false=>ev G b ρ|_=>none
 |.chain o o' a b c,ρ=>do
  let y ←ev G b ρ
  match ←ah o (←ev G a ρ) y with
  |.bl true=>ah o' y (←ev G c ρ)
  |.bl false=>some (.bl false)
  |_=>none
 |.nil,_=>some (.tup [])
 |.cons e es,ρ=>do
  let d ←ev G e ρ
  match ←ev G es ρ with
  |.tup ds=>some (.tup (d::ds))
  |_=>none
 |.tup es,ρ=>(bF (ev G es ρ)).map .tup
 |.lst es,ρ=>(bF (ev G es ρ)).map .lst
 |.ix a i,ρ=>do
  match ←ev G a ρ,←ev G i ρ with
  |.lst xs,.int k=>atI xs k
  |.tup xs,.int k=>atI xs k
  |.frz xs,.int k=>atI xs k
  |.dct kvs,.int k=>cC kvs k
  |_,_=>none
 |.ixm x i,ρ=>do atI (←mD ρ x) (←intOf (ev G i ρ))
 |.lenm x,ρ=>do some (.int (←mD ρ x).length)
 |.sortm x,ρ=>do kP [.lst (←mD ρ x)]
 |.sl a bl lo bh hi,ρ=>do
  let d ←ev G a ρ
  let l ←part bl (ev G lo ρ)
  let h ←part bh (ev G hi ρ)
  match d with
  |.lst xs=>some (.lst (cut xs l h))
  |.frz xs=>some (.lst (cut xs l h))
  |.tup xs=>if sIx xs.length 0 l=0∧sIx xs.length xs.length h=xs.length then none else some (.tup (cut xs l h))
  |_=>none
 |.slm x bl lo bh hi,ρ=>do
  let xs ←mD ρ x
  let l ←part bl (ev G lo ρ)
  let h ←part bh (ev G hi ρ)
  some (.lst (cut xs l h))
 |.fld a f,ρ=>do match ←ev G a ρ with | .obj c fs=>if (G.fl c).contains f then fs.lookup f else none|_=>none
 |.call f es,ρ=>do iL (G.fn f (←bF (ev G es ρ)))
 |.meth o m es,ρ=>do match ←ev G o ρ with | .obj c fs=>(if (fs.lookup m).isNone then(bF (ev G es ρ)).bind fun as=>iL (G.me c m (.obj c fs::as)) else none)|_=>none
 |.mk c es,ρ=>do iL (G.mo c (←bF (ev G es ρ)))
 |.bcall b es,ρ=>do bf b (←bF (ev G es ρ))
 |.isi a t,ρ=>do (iV G t (←ev G a ρ)).map .bl
 |.walk k a,ρ=>do (items k (←ev G a ρ)).map .lst
 |.comp n fr tg tp k src test elt,ρ=>do
  let ds ←items k (←ev G src ρ)
  (bU (fun d=>do
   let ρ1 ←bJ tg tp d (frame n fr ρ)
   match ←ev G test ρ1 with
   |.bl true=>(ev G elt ρ1).map some
   |.bl false=>some none
   |_=>none) ds).map .lst
 |.inC neg x a,ρ=>do match ←ev G a ρ with | .str s=>(G.dk x).map fun kvs=>.bl (neg != (kvs.lookup s).isSome)|_=>none
 |.ixd x i,ρ=>do cC (←mE ρ x) (←intOf (ev G i ρ))
 |.lend x,ρ=>do some (.int (←mE ρ x).length)
noncomputable def gw(G:GS):IE→List Sl→Option Rs
 |.call f es,ρ=>(bF (ev G es ρ)).bind (G.fn f)
 |.meth o m es,ρ=>match ev G o ρ with
  |some (.obj c fs)=>if (fs.lookup m).isNone then(bF (ev G es ρ)).bind fun as=>G.me c m (.obj c fs::as) else none
  |_=>none
 |_,_=>none
inductive HR where
 |lit (l:Lit)
 |word (f:Str)
 |weq (f:Str) (x:Str)
noncomputable def ij(G:GS)(c:Str):HR→Option D
 |.lit l=>some l.d
 |.word f=>(G.wd f c).map .str
 |.weq f x=>(G.wd f c).map fun y=>.bl (y == x)
set_option genInjectivity false
inductive IS where
 |nop
 |seq (a b:IS)
 |ret (fr:Bool) (e:IE)
 |retm (x:Nat)
 |retn
 |set (x:Nat) (e:IE)
 |setm (x:Nat) (e:IE)
 |setd (x:Nat)
 |sett (tg:List Nat) (e:IE)
 |par (x y:Nat) (a b:IE)
 |iff (c:IE) (a b:IS)
 |loop (tg:List Nat) (tp:Bool) (k:Src) (src:IE) (body:IS)
 |whl (c:IE) (body:IS)
 |app (x:Nat) (e:IE)
 |put (x:Nat) (k e:IE)
 |drop (e:IE)
 |frz (xs:List Nat) (st:IS)
 |rse (c:Str)
 |tryx (ce:IE) (hc:Str) (hb:Option Nat) (r:HR)
 |pop (x:Nat)
set_option genInjectivity true
inductive Out where
 |nx (ρ:List Sl)
 |rt (d:D)
 |bk (ρ:List Sl)
 |ct (ρ:List Sl)
 |er (c:Str)
noncomputable def eV(bind:D→List Sl→Option (List Sl))(body:List Sl→Option Out):List D→List Sl→Option Out
 |[],ρ=>some (.nx ρ)
 |d::r,ρ=>do
  let ρ1 ←bind d ρ
  match ←body ρ1 with
  |.nx ρ2=>eV bind body r ρ2
  |.ct ρ2=>eV bind body r ρ2
  |.bk ρ2=>some (.nx ρ2)
  |o=>some o
noncomputable def rK(test:List Sl→Option D)(body:List Sl→Option Out):Nat→List Sl→Option Out
 | 0,_=>none
 |n+1,ρ=>do
  match ←test ρ with
  |.bl true=>(match ←body ρ with
   |.nx ρ2=>rK test body n ρ2
   |.ct ρ2=>rK test body n ρ2
   |.bk ρ2=>some (.nx ρ2)
   |o=>some o)
  |.bl false=>some (.nx ρ)
  |_=>none
noncomputable def SV(i:Nat)(ρ:List Sl):List Sl:=match ρ[i]? with
 |some (.mu d)=>ρ.set i (.im d)
 |_=>ρ
noncomputable def freeze:List Nat→List Sl→List Sl
 |[],ρ=>ρ
 |i::r,ρ=>freeze r (SV i ρ)
noncomputable def cV:Sl→Sl
 |.mu d=>.im d
 |s=>s
noncomputable def view(ρ:List Sl):List Sl:=ρ.map cV
noncomputable def xU:D→Bool
 |.non=>true
 |.bl _=>true
 |.int _=>true
 |.str _=>true
 |_=>false
noncomputable def dO(G:GS)(e:IE)(ρ:List Sl):Option D:=match ev G e ρ with
 |some d=>some d
 |none=>match ev G e (view ρ) with
  |some d=>if xU d then some d else none
  |none=>none
noncomputable def aHJ(o:D)(i:Int)(d:D):Option D:=match o with
 |.lst ds=>(ixN ds.length i).map fun j=>.lst (ds.set j d)
 |.dct kvs=>if kvs.length<big then some (.dct (jW kvs i d)) else none
 |_=>none
noncomputable def ex(G:GS):IS→List Sl→Option Out
 |.nop,ρ=>some (.nx ρ)
 |.seq a b,ρ=>do
  match ←ex G a ρ with
  |.nx ρ'=>ex G b ρ'
  |o=>some o
 |.ret _ e,ρ=>(dO G e ρ).map .rt
 |.retm x,ρ=>match ρ[x]? with|some (.mu d)=>some (.rt d)|_=>none
 |.retn,_=>some (.rt .non)
 |.set x e,ρ=>(dO G e ρ).map fun d=>.nx (ρ.set x (.im d))
 |.setm x e,ρ=>do match ←ev G e ρ with | .lst ds=>some (.nx (ρ.set x (.mu (.lst ds))))|_=>none
 |.setd x,ρ=>some (.nx (ρ.set x (.mu (.dct []))))
 |.sett tg e,ρ=>do (bJ tg true (←ev G e ρ) ρ).map .nx
 |.par x y a b,ρ=>do
  let u ←ev G a ρ
  let v ←ev G b ρ
  some (.nx ((ρ.set x (.im u)).set y (.im v)))
 |.iff c a b,ρ=>do match ←ev G c (view ρ) with | .bl true=>ex G a ρ | .bl false=>ex G b ρ|_=>none
 |.loop tg tp k src body,ρ=>do eV (bJ tg tp) (ex G body) (←items k (←ev G src ρ)) ρ
 |.whl c body,ρ=>rK (fun ρ=>ev G c (view ρ)) (ex G body) 5000 ρ
 |.app x e,ρ=>do
  let d ←dO G e ρ
  match ρ[x]? with
  |some (.mu (.lst ds))=>if ds.length<big then some (.nx (ρ.set x (.mu (.lst (ds++[d]))))) else none
  |_=>none
 |.put x k e,ρ=>do
  let d ←dO G e ρ
  let i ←intOf (dO G k ρ)
  match ρ[x]? with
  |some (.mu o)=>(aHJ o i d).map fun o=>.nx (ρ.set x (.mu o))
  |_=>none
 |.drop e,ρ=>match ev G e (view ρ) with
  |some _=>some (.nx ρ)
  |none=>match gw G e (view ρ) with
   |some (.er k)=>if G.xn k then some (.er k) else none
   |_=>none
 |.frz xs st,ρ=>ex G st (freeze xs ρ)
 |.rse c,_=>if G.xn c then some (.er c) else none
 |.tryx ce hc _ r,ρ=>match gw G ce (view ρ) with
  |some (.ok _)=>some (.nx ρ)
  |some (.er k)=>if G.xn k&&G.xn hc&&G.sub k hc then(ij G k r).map .rt else none
  |none=>none
 |.pop x,ρ=>match ρ[x]? with
  |some (.mu (.lst ds))=>if ds.isEmpty then none else some (.nx (ρ.set x (.mu (.lst ds.dropLast))))
  |_=>none
noncomputable def iC:IS→Bool
 |.seq a b=>iC a&&iC b
 |.ret fr _=>fr
 |.iff _ a b=>iC a&&iC b
 |.loop _ _ _ _ b=>iC b
 |.whl _ b=>iC b
 |.frz _ b=>iC b
 |.tryx _ _ _ _=>true
 |_=>true
noncomputable def aU(G:GS)(n:Nat)(b:IS)(args:List D):Option Rs:=
 match ex G b (args.map .im++List.replicate (n-args.length) .un) with
 |some (.rt d)=>some (.ok d)
 |some (.nx _)=>some (.ok .non)
 |some (.er c)=>some (.er c)
 |_=>none
section
variable {G:GS}{ρ:List Sl}{a b e es src test elt:IE}{i j:Int}
theorem oO{k:Nat}:ev G (.var k) ρ=slot ρ k:=id rfl
theorem aAV{l:Lit}:ev G (.lit l) ρ=some l.d:=id rfl
theorem aAZ{x:Str}:ev G (.glo x) ρ=G.cst x:=id rfl
theorem cU{o:O2}:ev G (.bin o a b) ρ=(ev G a ρ).bind fun x=>(ev G b ρ).bind fun y=>ah o x y:=id rfl
theorem aAT:ev G (.neg a) ρ=(ev G a ρ).bind fun x=>match x with | .int i=>some (.int (-i))|_=>none:=id rfl
theorem LO:ev G (.and a b) ρ=(ev G a ρ).bind fun x=>match x with | .bl true=>((ev G b ρ).bind fun y=>match y with | .bl k=>some (.bl k)|_=>none) | .bl false=>some (.bl false)|_=>none:=id rfl
theorem VR:ev G (.or a b) ρ=(ev G a ρ).bind fun x=>match x with | .bl false=>((ev G b ρ).bind fun y=>match y with | .bl k=>some (.bl k)|_=>none) | .bl true=>some (.bl true)|_=>none:=id rfl
theorem aAR:ev G (.not a) ρ=(ev G a ρ).bind fun x=>match x with | .bl k=>some (.bl (!k))|_=>none:=id rfl
theorem VQ:ev G (.tr a) ρ=(ev G a ρ).bind fun x=>(di x).map .bl:=id rfl
theorem tV{c:IE}:ev G (.ite c a b) ρ=(ev G c ρ).bind fun x=>match x with | .bl true=>ev G a ρ | .bl false=>ev G b ρ|_=>none:=id rfl
theorem wU{o o':O2}{c:IE}:ev G (.chain o o' a b c) ρ=(ev G b ρ).bind fun y=>(ev G a ρ).bind fun x=>(ah o x y).bind fun w=>match w with | .bl true=>(ev G c ρ).bind fun z=>ah o' y z | .bl false=>some (.bl false)|_=>none:=id rfl
theorem aAS:ev G .nil ρ=some (.tup []):=id rfl
theorem bQ:ev G (.cons e es) ρ=(ev G e ρ).bind fun d=>(ev G es ρ).bind fun t=>match t with | .tup ds=>some (.tup (d::ds))|_=>none:=id rfl
theorem tU:ev G (.tup es) ρ=(bF (ev G es ρ)).map .tup:=id rfl
theorem aAU:ev G (.lst es) ρ=(bF (ev G es ρ)).map .lst:=id rfl
theorem aFt:ev G (.ix a b) ρ=(ev G a ρ).bind fun x=>(ev G b ρ).bind fun y=>(match x,y with
  |.lst xs,.int k=>atI xs k
  |.tup xs,.int k=>atI xs k
  |.frz xs,.int k=>atI xs k
  |.dct kvs,.int k=>cC kvs k
  |_,_=>none):=id rfl
theorem iZ{f:Str}:ev G (.fld a f) ρ=(ev G a ρ).bind fun x=>match x with | .obj c fs=>if (G.fl c).contains f then fs.lookup f else none|_=>none:=id rfl
theorem kT{f:Str}:ev G (.call f es) ρ=(bF (ev G es ρ)).bind fun as=>iL (G.fn f as):=id rfl
theorem CS{m:Str}:ev G (.meth a m es) ρ=(ev G a ρ).bind fun x=>match x with | .obj c fs=>(if (fs.lookup m).isNone then(bF (ev G es ρ)).bind fun as=>iL (G.me c m (.obj c fs::as)) else none)|_=>none:=id rfl
theorem LM{c:Str}:ev G (.mk c es) ρ=(bF (ev G es ρ)).bind fun as=>iL (G.mo c as):=id rfl
theorem wV{f:BF}:ev G (.bcall f es) ρ=(bF (ev G es ρ)).bind fun as=>bf f as:=id rfl
theorem aAY{t:Str}:ev G (.isi a t) ρ=(ev G a ρ).bind fun x=>(iV G t x).map .bl:=id rfl
theorem TV{k:Src}:ev G (.walk k a) ρ=(ev G a ρ).bind fun x=>(items k x).map .lst:=id rfl
theorem aAW{x:Nat}:ev G (.ixm x b) ρ=(mD ρ x).bind fun xs=>(intOf (ev G b ρ)).bind fun k=>atI xs k:=id rfl
theorem TX{x:Nat}:ev G (.lenm x) ρ=(mD ρ x).bind fun xs=>some (.int xs.length):=id rfl
theorem CQ{bl bh:Bool}{lo hi:IE}:ev G (.sl a bl lo bh hi) ρ=(ev G a ρ).bind fun d=>(part bl (ev G lo ρ)).bind fun l=>(part bh (ev G hi ρ)).bind fun h=>(match d with
  |.lst xs=>some (.lst (cut xs l h))
  |.frz xs=>some (.lst (cut xs l h))
  |.tup xs=>if sIx xs.length 0 l=0∧sIx xs.length xs.length h=xs.length then none else some (.tup (cut xs l h))
  |_=>none):=id rfl
theorem tW{n:Nat}{fr:List (Nat×Nat)}{tg:List Nat}{tp:Bool}{k:Src}:ev G (.comp n fr tg tp k src test elt) ρ=(ev G src ρ).bind fun s=>(items k s).bind fun ds =>
  (bU (fun d=>(bJ tg tp d (frame n fr ρ)).bind fun ρ1=>(ev G test ρ1).bind fun w=>match w with
   |.bl true=>(ev G elt ρ1).map some
   |.bl false=>some none
   |_=>none) ds).map .lst:=id rfl
theorem GO{ds:List D}:bF (some (.tup ds))=some ds:=id rfl
theorem RQ{d:D}:iL (some (.ok d))=some d:=id rfl
theorem aDZ:ah .add (.int i) (.int j)=some (.int (i+j)):=id rfl
theorem aDW:ah .sub (.int i) (.int j)=some (.int (i-j)):=id rfl
theorem mH(h0:-1000000≤i)(h1:i≤1000000):ah .mul (.int i) (.int j)=some (.int (i*j)):=if_pos (.inl ⟨by lia,by lia⟩)
theorem nU(h0:0<j)(h1:j<1000000):ah .fdiv (.int i) (.int j)=some (.int (i / j)):=if_pos ⟨h0,by lia⟩
theorem kL(h0:0<j):ah .mod (.int i) (.int j)=some (.int (i % j)):=if_pos h0
theorem aHK:ah .lt (.int i) (.int j)=some (.bl (decide (i<j))):=id rfl
theorem aHL:ah .le (.int i) (.int j)=some (.bl (decide (i≤j))):=id rfl
theorem aHM:ah .gt (.int i) (.int j)=some (.bl (decide (j<i))):=id rfl
theorem aHN:ah .ge (.int i) (.int j)=some (.bl (decide (j≤i))):=id rfl
theorem aHO:ah .eq (.int i) (.int j)=some (.bl (i == j)):=id rfl
theorem aDX:ah .ne (.int i) (.int j)=some (.bl (!(i == j))):=id rfl
theorem aDY{x y:Bool}:ah .is (.bl x) (.bl y)=some (.bl (x == y)):=id rfl
theorem aAd{x y:Bool}:ah .isnot (.bl x) (.bl y)=some (.bl (!(x == y))):=id rfl
theorem HJ(h0:-1000000≤j)(h1:j≤1000000):dW j=true:=by
 unfold dW;rw[rj,sh,sh];lia
theorem yU{n:Nat}(h:n≤1000000):items .rng (.tup [.int (n:Int)])=some (cO 0 (n:Int)):=by
 have h1:(dW (n:Int)&&decide ((n:Int).toNat≤big))=true:=by
  rw[HJ (by lia) (by lia),Bool.true_and,sh]
  unfold big;lia
 simp only[items,AY];rw[if_pos h1]
theorem slot0{d:D}{r:List Sl}:slot (.im d::r) 0=some d:=id rfl
theorem aCy{x:Sl}{r:List Sl}{k:Nat}:slot (x::r) (k+1)=slot r k:=id rfl
end
section
variable {G:GS}{ρ:List Sl}{a b:IS}{e c:IE}
theorem aX:ex G .nop ρ=some (.nx ρ):=id rfl
theorem LG:ex G (.seq a b) ρ=(ex G a ρ).bind fun o=>match o with | .nx ρ'=>ex G b ρ'|o=>some o:=id rfl
theorem LJ:ex G (.iff c a b) ρ=(ev G c (view ρ)).bind fun x=>match x with | .bl true=>ex G a ρ | .bl false=>ex G b ρ|_=>none:=id rfl
theorem jZ{d:D}(h:ev G e ρ=some d):dO G e ρ=some d:=by unfold dO;rw[h]
theorem bA{d:D}{f:Bool}(h:ev G e ρ=some d):ex G (.ret f e) ρ=some (.rt d):=by show (dO G e ρ).map Out.rt=_;rw[jZ h];rfl
theorem aV{d:D}{x:Nat}(h:ev G e ρ=some d):ex G (.set x e) ρ=some (.nx (ρ.set x (.im d))):=by show (dO G e ρ).map _=_;rw[jZ h];rfl
theorem kR{ds:List D}{x:Nat}(h:ev G e ρ=some (.lst ds)):ex G (.setm x e) ρ=some (.nx (ρ.set x (.mu (.lst ds)))):=by show (ev G e ρ).bind _=_;rw[h];rfl
theorem dN{tg:List Nat}{tp:Bool}{k:Src}{d:D}{ds:List D}(h1:ev G e ρ=some d)(h2:items k d=some ds):ex G (.loop tg tp k e a) ρ=eV (bJ tg tp) (ex G a) ds ρ:=by show (ev G e ρ).bind _=_;rw[h1];show ((items k d).bind _)=_;rw[h2];rfl
end
theorem oU{f:D→Option (Option D)}{h:D→D}:∀{ds:List D},(∀d∈ds,f d=some (some (h d)))→bU f ds=some (ds.map h)
 |[],_=>rfl
 |d::r,e=>by
  unfold bU;rw[e d (ur),oU fun x hx=>e x (rg _ hx)]
  rfl
theorem nX{lo hi:Int}{d:D}(h:d∈cO lo hi):∃i:Int,d=.int i∧lo≤i∧i<hi:=by
 unfold cO at h;simp only[u7,v8]at h;obtain⟨k,hk,rfl⟩:=h;exact⟨_,rfl,by lia,by lia⟩
theorem jV{n:Nat}:cO 0 (n:Int)=(List.range n).map fun (k:Nat)=>D.int k:=by
 unfold cO;simp
theorem eL{bind:D→List Sl→Option (List Sl)}{body:List Sl→Option Out}(P:Nat→List Sl→Prop):∀{ds:List D} {k:Nat} {ρ:List Sl},P k ρ →
  (∀(i:Nat) (d:D) (ρ:List Sl),ds[i]?=some d→P (k+i) ρ→∃ρ1,bind d ρ=some ρ1∧∃ρ2,body ρ1=some (.nx ρ2)∧P (k+i+1) ρ2)→∃ρ',eV bind body ds ρ=some (.nx ρ')∧P (k+ds.length) ρ'
 |[],k,ρ,h,_=>⟨ρ,rfl,h⟩
 |d::r,k,ρ,h,st=>by
  obtain⟨ρ1,h1,ρ2,h2,h3⟩:=st 0 d ρ rfl h;obtain⟨ρ',h4,h5⟩:=eL P (ds:=r) (k:=k+1) h3 fun i d' ρ' e p=>by
   have:=st (i+1) d' ρ' (by simpa using e) (by rw[add_comm i 1,←Nat.add_assoc];exact p)
   rw[show k+1+i+1=k+(i+1)+1 by lia]
   exact this
  refine⟨ρ',?_,by rw[uw,show k+(r.length+1)=k+1+r.length by lia];exact h5⟩
  unfold eV;rw[h1];show ((body ρ1).bind _)=_
  rw[h2];exact h4
theorem lS{bind:D→List Sl→Option (List Sl)}{body:List Sl→Option Out}(P:List Sl→Prop){ds:List D}{ρ:List Sl}(h0:P ρ)(st:∀d∈ds,∀ρ,P ρ→∃ρ1,bind d ρ=some ρ1∧∃ρ2,body ρ1=some (.nx ρ2)∧P ρ2):∃ρ',eV bind body ds ρ=some (.nx ρ')∧P ρ':=
 eL (k:=0) (fun _=>P) h0 fun i d ρ e p=>st d (qq e) ρ p
theorem aR{G:GS}{n:Nat}{b:IS}{args:List D}{ρ:List Sl}{d:D}(h0:args.map .im++List.replicate (n-args.length) .un=ρ)(h:ex G b ρ=some (.rt d)):aU G n b args=some (.ok d):=by unfold aU;rw[h0,h]
theorem AA{G:GS}{n:Nat}{b:IS}{args:List D}{ρ ρ':List Sl}(h0:args.map .im++List.replicate (n-args.length) .un=ρ)(h:ex G b ρ=some (.nx ρ')):aU G n b args=some (.ok .non):=by unfold aU;rw[h0,h]
theorem rT{G:GS}{n:Nat}{b:IS}{args:List D}{ρ:List Sl}{k:Str}(h0:args.map .im++List.replicate (n-args.length) .un=ρ)(h:ex G b ρ=some (.er k)):aU G n b args=some (.er k):=by unfold aU;rw[h0,h]
theorem wQ{G:GS}{ρ:List Sl}{n:Nat}{fr:List (Nat×Nat)}{tg:List Nat}{tp:Bool}{k:Src}{src test elt:IE}{s:D}{ds:List D}(h:D→D)(h1:ev G src ρ=some s)(h2:items k s=some ds)
  (h3:∀d∈ds,∃ρ1,bJ tg tp d (frame n fr ρ)=some ρ1∧ev G test ρ1=some (.bl true)∧ev G elt ρ1=some (h d)):ev G (.comp n fr tg tp k src test elt) ρ=some (.lst (ds.map h)):=by
 rw[tW,h1,uo,h2,uo,oU (h:=h)]
 ·rfl
 ·intro d hd;obtain⟨ρ1,e1,e2,e3⟩:=h3 d hd;rw[e1,uo,e2,uo];show Option.map some (ev G elt ρ1)=_
  rw[e3];rfl
theorem aS:view []=[]:=id rfl
theorem eN{d:D}{r:List Sl}:view (.im d::r)=.im d::view r:=id rfl
theorem zS{r:List Sl}:view (.un::r)=.un::view r:=id rfl
theorem OM{d:D}{r:List Sl}:view (.mu d::r)=.im d::view r:=id rfl
theorem LH{G:GS}{ρ:List Sl}{c:Str}(h:G.xn c=true):ex G (.rse c) ρ=some (.er c):=if_pos h
theorem TR{G:GS}{ρ:List Sl}{ce:IE}{hc k:Str}{hb:Option Nat}{r:HR}(h:gw G ce (view ρ)=some (.er k)):ex G (.tryx ce hc hb r) ρ=(if G.xn k&&G.xn hc&&G.sub k hc then(ij G k r).map .rt else none):=by
 show (match gw G ce (view ρ) with|some (.ok _)=>some (Out.nx ρ)|some (.er k)=>_|none=>_)=_
 rw[h]
theorem LF{G:GS}{ρ:List Sl}{tg:List Nat}{e:IE}:ex G (.sett tg e) ρ=(ev G e ρ).bind fun d=>(bJ tg true d ρ).map .nx:=id rfl
theorem aJ{G:GS}{ρ ρ':List Sl}{a b:IS}{o:Out}(h1:ex G a ρ=some (.nx ρ'))(h2:ex G b ρ'=some o):ex G (.seq a b) ρ=some o:=by rw[LG,h1];exact h2
theorem gT{G:GS}{ρ:List Sl}{a b:IS}{o:Out}(h1:ex G a ρ=some o)(h2:∀ρ',o≠.nx ρ'):ex G (.seq a b) ρ=some o:=by
 rw[LG,h1];cases o<;>first|rfl|exact absurd rfl (h2 _)
theorem jQ{G:GS}{ρ:List Sl}{a b:IS}{c:IE}{o:Option Out}(h1:ev G c (view ρ)=some (.bl true))(h2:ex G a ρ=o):ex G (.iff c a b) ρ=o:=by rw[LJ,h1];exact h2
theorem cZ{G:GS}{ρ:List Sl}{a b:IS}{c:IE}{o:Option Out}(h1:ev G c (view ρ)=some (.bl false))(h2:ex G b ρ=o):ex G (.iff c a b) ρ=o:=by rw[LJ,h1];exact h2
theorem cG{G:GS}{ρ:List Sl}{a b:IE}{x y:Bool}(ha:ev G a ρ=some (.bl x))(hb:x=false→ev G b ρ=some (.bl y)):ev G (.or a b) ρ=some (.bl (x || y)):=by
 rw[VR,ha];cases x with
 |true=>rfl
 |false=>show ((ev G b ρ).bind _)=_;rw[hb rfl];rfl
theorem CT{G:GS}{ρ:List Sl}{a b:IE}{x y:Bool}(ha:ev G a ρ=some (.bl x))(hb:x=true→ev G b ρ=some (.bl y)):ev G (.and a b) ρ=some (.bl (x&&y)):=by
 rw[LO,ha];cases x with
 |false=>rfl
 |true=>show ((ev G b ρ).bind _)=_;rw[hb rfl];rfl
theorem aFq{xs:List D}:bf .len [.lst xs]=some (.int xs.length):=id rfl
theorem aAN{xs:List D}:bf .len [.frz xs]=some (.int xs.length):=id rfl
theorem aAM{xs:List D}:bf .len [.tup xs]=some (.int xs.length):=id rfl
theorem aAL{xs:List D}:bf .list [.lst xs]=some (.lst xs):=id rfl
theorem TB{xs:List D}:bf .list [.tup xs]=some (.lst xs):=id rfl
theorem eZ{α:Type}{xs:List α}{k:Nat}{x:α}(h:xs[k]?=some x):atI xs (k:Int)=some x:=by
 have hl:=(q8.mp h).1
 unfold atI ixN;rw[if_pos (by lia),if_pos (by lia)]
 simpa using h
theorem aA{α β:Type}{a:α}{f:α→Option β}:(some a).bind f=f a:=id rfl
theorem aB{α β:Type}{a:α}{f:α→β}:(some a).map f=some (f a):=id rfl
theorem aFa{i:Int}:(Lit.int i).d=.int i:=id rfl
theorem aIe{b:Bool}:(Lit.bl b).d=.bl b:=id rfl
theorem aEY{x:Str}:(Lit.str x).d=.str x:=id rfl
theorem aEZ:(Lit.non).d=.non:=id rfl
theorem zz:(∀G ρ k,ev G (.var k) ρ=slot ρ k)∧(∀G ρ l,ev G (.lit l) ρ=some l.d)∧(∀G ρ x,ev G (.glo x) ρ=G.cst x)∧(∀G ρ o a b,ev G (.bin o a b) ρ=(ev G a ρ).bind fun x=>(ev G b ρ).bind fun y=>ah o x y) ∧
  (∀G ρ a,ev G (.neg a) ρ=(ev G a ρ).bind fun x=>match x with | .int i=>some (.int (-i))|_=>none) ∧
  (∀G ρ a b,ev G (.and a b) ρ=(ev G a ρ).bind fun x=>match x with | .bl true=>((ev G b ρ).bind fun y=>match y with | .bl k=>some (.bl k)|_=>none) | .bl false=>some (.bl false)|_=>none) ∧
  (∀G ρ a b,ev G (.or a b) ρ=(ev G a ρ).bind fun x=>match x with | .bl false=>((ev G b ρ).bind fun y=>match y with | .bl k=>some (.bl k)|_=>none) | .bl true=>some (.bl true)|_=>none) ∧
  (∀G ρ a,ev G (.not a) ρ=(ev G a ρ).bind fun x=>match x with | .bl k=>some (.bl (!k))|_=>none)∧(∀G ρ a,ev G (.tr a) ρ=(ev G a ρ).bind fun x=>(di x).map .bl) ∧
  (∀G ρ c a b,ev G (.ite c a b) ρ=(ev G c ρ).bind fun x=>match x with | .bl true=>ev G a ρ | .bl false=>ev G b ρ|_=>none) ∧
  (∀G ρ o o' a b c,ev G (.chain o o' a b c) ρ=(ev G b ρ).bind fun y=>(ev G a ρ).bind fun x=>(ah o x y).bind fun w=>match w with | .bl true=>(ev G c ρ).bind fun z=>ah o' y z | .bl false=>some (.bl false)|_=>none) ∧
  (∀G ρ,ev G .nil ρ=some (.tup []))∧(∀G ρ e es,ev G (.cons e es) ρ=(ev G e ρ).bind fun d=>(ev G es ρ).bind fun t=>match t with | .tup ds=>some (.tup (d::ds))|_=>none) ∧
  (∀G ρ es,ev G (.tup es) ρ=(bF (ev G es ρ)).map .tup)∧(∀G ρ es,ev G (.lst es) ρ=(bF (ev G es ρ)).map .lst) ∧
  (∀G ρ a b,ev G (.ix a b) ρ=(ev G a ρ).bind fun x=>(ev G b ρ).bind fun y=>(match x,y with | .lst xs,.int k=>atI xs k | .tup xs,.int k=>atI xs k | .frz xs,.int k=>atI xs k | .dct kvs,.int k=>cC kvs k|_,_=>none)) ∧
  (∀G ρ a f,ev G (.fld a f) ρ=(ev G a ρ).bind fun x=>match x with | .obj c fs=>if (G.fl c).contains f then fs.lookup f else none|_=>none) ∧
  (∀G ρ f es,ev G (.call f es) ρ=(bF (ev G es ρ)).bind fun as=>iL (G.fn f as)) ∧
  (∀G ρ a m es,ev G (.meth a m es) ρ=(ev G a ρ).bind fun x=>match x with | .obj c fs=>(if (fs.lookup m).isNone then(bF (ev G es ρ)).bind fun as=>iL (G.me c m (.obj c fs::as)) else none)|_=>none) ∧
  (∀G ρ c es,ev G (.mk c es) ρ=(bF (ev G es ρ)).bind fun as=>iL (G.mo c as))∧(∀G ρ f es,ev G (.bcall f es) ρ=(bF (ev G es ρ)).bind fun as=>bf f as) ∧
  (∀G ρ a t,ev G (.isi a t) ρ=(ev G a ρ).bind fun x=>(iV G t x).map .bl)∧(∀G ρ k a,ev G (.walk k a) ρ=(ev G a ρ).bind fun x=>(items k x).map .lst) ∧
  (∀G ρ x b,ev G (.ixm x b) ρ=(mD ρ x).bind fun xs=>(intOf (ev G b ρ)).bind fun k=>atI xs k)∧(∀G ρ x,ev G (.lenm x) ρ=(mD ρ x).bind fun xs=>some (.int xs.length)) ∧
  (∀G ρ a bl lo bh hi,ev G (.sl a bl lo bh hi) ρ=(ev G a ρ).bind fun d=>(part bl (ev G lo ρ)).bind fun l=>(part bh (ev G hi ρ)).bind fun h=>(match d with
   |.lst xs=>some (.lst (cut xs l h))
   |.frz xs=>some (.lst (cut xs l h))
   |.tup xs=>if sIx xs.length 0 l=0∧sIx xs.length xs.length h=xs.length then none else some (.tup (cut xs l h))
   |_=>none)):=
 ⟨fun _ _ _=>oO,fun _ _ _=>aAV,fun _ _ _=>aAZ,fun _ _ _ _ _=>cU,fun _ _ _=>aAT,fun _ _ _ _=>LO,fun _ _ _ _=>VR,fun _ _ _=>aAR,fun _ _ _=>VQ,fun _ _ _ _ _=>tV,fun _ _ _ _ _ _ _=>wU,fun _ _=>aAS,fun _ _ _ _=>bQ,fun _ _ _=>tU,fun _ _ _=>aAU,fun _ _ _ _=>aFt,fun _ _ _ _=>iZ,fun _ _ _ _=>kT,fun _ _ _ _ _=>CS,fun _ _ _ _=>LM,fun _ _ _ _=>wV,fun _ _ _ _=>aAY,fun _ _ _ _=>TV,fun _ _ _ _=>aAW,fun _ _ _=>TX,fun _ _ _ _ _ _ _=>CQ⟩
theorem yy:(∀ds,bF (some (.tup ds))=some ds)∧(∀d,iL (some (.ok d))=some d)∧(∀i j,ah .add (.int i) (.int j)=some (.int (i+j)))∧(∀i j,ah .sub (.int i) (.int j)=some (.int (i-j)))∧(∀i j,ah .lt (.int i) (.int j)=some (.bl (decide (i<j))))∧(∀i j,ah .le (.int i) (.int j)=some (.bl (decide (i≤j)))) ∧
  (∀i j,ah .gt (.int i) (.int j)=some (.bl (decide (j<i))))∧(∀i j,ah .ge (.int i) (.int j)=some (.bl (decide (j≤i))))∧(∀i j,ah .eq (.int i) (.int j)=some (.bl (i == j)))∧(∀i j,ah .ne (.int i) (.int j)=some (.bl (!(i == j))))∧(∀x y,ah .is (.bl x) (.bl y)=some (.bl (x == y)))∧(∀x y,ah .isnot (.bl x) (.bl y)=some (.bl (!(x == y)))) ∧
  (∀d r,slot (.im d::r) 0=some d)∧(∀x r k,slot (x::r) (k+1)=slot r k)∧(view []=[])∧(∀d r,view (.im d::r)=.im d::view r)∧(∀r,view (.un::r)=.un::view r)∧(∀d r,view (.mu d::r)=.im d::view r) ∧
  (∀xs,bf .len [.lst xs]=some (.int xs.length))∧(∀xs,bf .len [.frz xs]=some (.int xs.length))∧(∀xs,bf .len [.tup xs]=some (.int xs.length))∧(∀xs,bf .list [.lst xs]=some (.lst xs))∧(∀xs,bf .list [.tup xs]=some (.lst xs)) ∧
  (∀i,(Lit.int i).d=.int i)∧(∀b,(Lit.bl b).d=.bl b)∧(∀x,(Lit.str x).d=.str x)∧((Lit.non).d=.non):=
 ⟨fun _=>GO,fun _=>RQ,fun _ _=>aDZ,fun _ _=>aDW,fun _ _=>aHK,fun _ _=>aHL,fun _ _=>aHM,fun _ _=>aHN,fun _ _=>aHO,fun _ _=>aDX,fun _ _=>aDY,fun _ _=>aAd,fun _ _=>slot0,fun _ _ _=>aCy,aS,fun _ _=>eN,fun _=>zS,fun _ _=>OM,fun _=>aFq,fun _=>aAN,fun _=>aAM,fun _=>aAL,fun _=>TB,fun _=>aFa,fun _=>aIe,fun _=>aEY,aEZ⟩
namespace Pg
noncomputable def iB:IS:=(.ret true (.comp 4 [(2,0),(3,1)] [1] false .rng (.tup (.cons (.var 0) .nil)) (.lit (.bl true)) (.lst (.cons (.tup (.cons (.bin .add (.bin .mul (.var 3) (.var 2)) (.var 1)) (.cons (.lit (.bl false)) (.cons (.lit (.bl false)) .nil)))) .nil))))
noncomputable def VS(i:Int)(e n:Bool):D:=.tup [.int i,.bl e,.bl n]
noncomputable def mR(c y:Nat):List D:=(List.range c).map fun x=>.lst [VS (y*c+x:Nat) false false]
theorem vX{G:GS}{c y:Nat}(hc:c≤64)(hy:y≤64):aU G 2 iB [.int c,.int y]=some (.ok (.lst (mR c y))):=by
 have e:=wQ (G:=G) (ρ:=[.im (.int c),.im (.int y)]) (n:=4) (fr:=[(2,0),(3,1)]) (tg:=[1]) (tp:=false) (k:=.rng) (src:=.tup (.cons (.var 0) .nil)) (test:=.lit (.bl true)) (elt:=.lst (.cons (.tup (.cons (.bin .add (.bin .mul (.var 3) (.var 2)) (.var 1)) (.cons (.lit (.bl false)) (.cons (.lit (.bl false)) .nil)))) .nil))
  (fun d=>match d with | .int x=>.lst [VS (y*c+x) false false]|_=>.non) (s:=.tup [.int c]) (by simp only[zz,yy,aA,aB]) (yU (by lia)) (fun d hd=>by
   obtain⟨x,rfl,h1,h2⟩:=nX hd;refine⟨[.un,.im (.int x),.im (.int c),.im (.int y)],rfl,by simp only[zz,yy,aA,aB],?_⟩
   simp only[zz,yy,aA,aB,mH (show (-1000000:Int)≤y by lia) (show (y:Int)≤1000000 by lia)]
   rfl)
 refine aR (ρ:=[.im (.int c),.im (.int y)]) rfl (bA (e.trans ?_));rw[jV];simp[mR]
noncomputable def bN(c r w h:Int)(T F S:List D):D:=.obj "Pile" [("columns",.int c),("rows",.int r),("wide",.int w),("high",.int h),("table",.lst T),("folds",.tup F),("severed",.tup S)]
noncomputable def fO(c r:Nat):List D:=(List.range r).map fun y=>.lst (mR c y)
noncomputable def sI:IS:=(.seq (.iff (.or (.bin .lt (.var 0) (.lit (.int 1))) (.or (.bin .lt (.var 1) (.lit (.int 1))) (.bin .gt (.bin .mul (.var 0) (.var 1)) (.glo "MOST_CELLS")))) (.rse "NoSheet") .nop) (.seq (.set 2 (.comp 3 [(2,0)] [1] false .rng (.tup (.cons (.var 1) .nil)) (.lit (.bl true)) (.call "laid_row" (.cons (.var 2) (.cons (.var 1) .nil))))) (.ret false (.mk "Pile" (.cons (.var 0) (.cons (.var 1) (.cons (.var 2) (.cons (.tup .nil) (.cons (.tup .nil) .nil)))))))))
section
variable {G:GS}
theorem FH(hm:G.cst "MOST_CELLS" = some (.int 64)){c r:Int}{ρ:List Sl}(hmul:ah .mul (.int c) (.int r)=some (.int (c*r)))(h0:slot ρ 0=some (.int c))(h1:slot ρ 1=some (.int r)) :
  ev G (.or (.bin .lt (.var 0) (.lit (.int 1))) (.or (.bin .lt (.var 1) (.lit (.int 1))) (.bin .gt (.bin .mul (.var 0) (.var 1)) (.glo "MOST_CELLS")))) ρ=some (.bl (decide (c<1) || (decide (r<1) || decide (64<c*r)))):=by
 refine cG (by simp only[zz,yy,aA,aB,h0]) fun _=>cG (by simp only[zz,yy,aA,aB,h1]) fun _=>?_
 simp only[zz,yy,aA,aB,h0,h1,hmul,hm]
theorem SI(hm:G.cst "MOST_CELLS" = some (.int 64))(hrow:∀c y:Nat,c≤64→y≤64→G.fn "laid_row" [.int c,.int y]=some (.ok (.lst (mR c y))))
  (kc:∀(c r:Int) (T row:List D),T[0]?=some (.lst row)→G.mo "Pile" [.int c,.int r,.lst T,.tup [],.tup []]=some (.ok (bN c r row.length T.length T [] []))) {c r:Nat} (hc:1≤c) (hr:1≤r) (bg:c*r≤64) :
  aU G 3 sI [.int c,.int r]=some (.ok (bN c r c r (fO c r) [] [])):=by
 have fq:c≤64:=sr (Nat.le_mul_of_pos_right c hr) bg
 have hr2:r≤64:=sr (Nat.le_mul_of_pos_left r hc) bg
 have e:=wQ (G:=G) (ρ:=[.im (.int c),.im (.int r),.un]) (n:=3) (fr:=[(2,0)]) (tg:=[1]) (tp:=false) (k:=.rng) (src:=.tup (.cons (.var 1) .nil)) (test:=.lit (.bl true)) (elt:=.call "laid_row" (.cons (.var 2) (.cons (.var 1) .nil)))
  (fun d=>match d with | .int y=>.lst (mR c y.toNat)|_=>.non) (s:=.tup [.int r]) (by simp only[zz,yy,aA,aB]) (yU (by lia)) (fun d hd=>by
   obtain⟨y,rfl,h1,h2⟩:=nX hd;obtain⟨k,rfl⟩:∃k:Nat,y=k:=⟨y.toNat,by lia⟩
   refine⟨[.un,.im (.int k),.im (.int c)],rfl,by simp only[zz,yy,aA,aB],?_⟩
   simp only[zz,yy,aA,aB,hrow c k fq (by lia)]
   rfl)
 have e2:(cO 0 (r:Int)).map (fun d=>match d with | .int y=>D.lst (mR c y.toNat)|_=>.non)=fO c r:=by
  rw[jV];simp[fO]
 rw[e2]at e;have hmul:ah .mul (.int (c:Int)) (.int (r:Int))=some (.int (c*r)):=mH (by lia) (by lia)
 have ht:(fO c r)[0]?=some (.lst (mR c 0)):=by unfold fO;rw[qu,uv hr];rfl
 have e3:=kc c r (fO c r) (mR c 0) ht
 have l1:(mR c 0).length=c:=by simp[mR]
 have l2:(fO c r).length=r:=by simp[fO]
 rw[l1,l2]at e3;refine aR (ρ:=[.im (.int c),.im (.int r),.un]) rfl (aJ (cZ ?_ aX) (aJ (aV e) (bA ?_)))
 ·rw[eN,eN,zS,aS,FH hm hmul (by simp only[zz,yy,aA,aB]) (by simp only[zz,yy,aA,aB])]
  have h3:((c:Int)*r)≤64:=by exact_mod_cast bg
  rw[qy (show ¬(c:Int)<1 by lia),qy (show ¬(r:Int)<1 by lia),qy (show ¬64<(c:Int)*r by lia)]
  rfl
 ·show ev G _ [.im (.int c),.im (.int r),.im (.lst (fO c r))]=_
  simp only[zz,yy,aA,aB,e3]
end
noncomputable def cx:List Str:=["columns","rows","wide","high","table","folds","severed"]
section
variable {G:GS}{c r w h:Int}{T F S:List D}{ρ:List Sl}{a:IE}
theorem lL(hf:G.fl "Pile" = cx)(e:ev G a ρ=some (bN c r w h T F S)):ev G (.fld a "columns") ρ=some (.int c):=by rw[iZ,e];show (if (G.fl "Pile").contains _ then _ else _)=_;rw[hf];rfl
theorem yF(hf:G.fl "Pile" = cx)(e:ev G a ρ=some (bN c r w h T F S)):ev G (.fld a "rows") ρ=some (.int r):=by rw[iZ,e];show (if (G.fl "Pile").contains _ then _ else _)=_;rw[hf];rfl
theorem hJ(hf:G.fl "Pile" = cx)(e:ev G a ρ=some (bN c r w h T F S)):ev G (.fld a "wide") ρ=some (.int w):=by rw[iZ,e];show (if (G.fl "Pile").contains _ then _ else _)=_;rw[hf];rfl
theorem hU(hf:G.fl "Pile" = cx)(e:ev G a ρ=some (bN c r w h T F S)):ev G (.fld a "high") ρ=some (.int h):=by rw[iZ,e];show (if (G.fl "Pile").contains _ then _ else _)=_;rw[hf];rfl
theorem rY(hf:G.fl "Pile" = cx)(e:ev G a ρ=some (bN c r w h T F S)):ev G (.fld a "table") ρ=some (.lst T):=by rw[iZ,e];show (if (G.fl "Pile").contains _ then _ else _)=_;rw[hf];rfl
theorem AQ(hf:G.fl "Pile" = cx)(e:ev G a ρ=some (bN c r w h T F S)):ev G (.fld a "folds") ρ=some (.tup F):=by rw[iZ,e];show (if (G.fl "Pile").contains _ then _ else _)=_;rw[hf];rfl
theorem jK(hf:G.fl "Pile" = cx)(e:ev G a ρ=some (bN c r w h T F S)):ev G (.fld a "severed") ρ=some (.tup S):=by rw[iZ,e];show (if (G.fl "Pile").contains _ then _ else _)=_;rw[hf];rfl
theorem yG{m:Str}{es:IE}{ds:List D}{o:Option Rs}(hm:([("columns",D.int c),("rows",.int r),("wide",.int w),("high",.int h),("table",.lst T),("folds",.tup F),("severed",.tup S)]:List (Str×D)).lookup m=none)(e:ev G a ρ=some (bN c r w h T F S))(ea:ev G es ρ=some (.tup ds))(eo:G.me "Pile" m (bN c r w h T F S::ds)=o):ev G (.meth a m es) ρ=iL o:=by
 rw[CS,e];show (if (List.lookup m _).isNone=true then _ else _)=_
 rw[hm,ea];show iL (G.me "Pile" m (bN c r w h T F S::ds))=_
 rw[eo]
noncomputable def sJ:IS:=(.seq (.iff (.or (.bin .lt (.var 1) (.lit (.int 0))) (.or (.bin .ge (.var 1) (.fld (.var 0) "wide")) (.or (.bin .lt (.var 2) (.lit (.int 0))) (.bin .ge (.var 2) (.fld (.var 0) "high"))))) (.rse "NoPlace") .nop) (.ret true (.bcall .list (.cons (.ix (.ix (.fld (.var 0) "table") (.var 2)) (.var 1)) .nil))))
theorem FP(hf:G.fl "Pile" = cx){x y:Int}:ev G (.or (.bin .lt (.var 1) (.lit (.int 0))) (.or (.bin .ge (.var 1) (.fld (.var 0) "wide")) (.or (.bin .lt (.var 2) (.lit (.int 0))) (.bin .ge (.var 2) (.fld (.var 0) "high"))))) [.im (bN c r w h T F S),.im (.int x),.im (.int y)] =
  some (.bl (decide (x<0) || (decide (w≤x) || (decide (y<0) || decide (h≤y))))):=by
 have e0:ev G (.var 0) [.im (bN c r w h T F S),.im (.int x),.im (.int y)]=some (bN c r w h T F S):=by simp only[zz,yy,aA,aB]
 refine cG (by simp only[zz,yy,aA,aB]) fun _=>cG ?_ fun _=>cG (by simp only[zz,yy,aA,aB]) fun _=>?_
 ·rw[cU,hJ hf e0];simp only[zz,yy,aA,aB]
 ·rw[cU,hU hf e0];simp only[zz,yy,aA,aB]
theorem SR(hf:G.fl "Pile" = cx){x y:Nat}{row hp:List D}(hw:(x:Int)<w)(hh:(y:Int)<h)(h1:T[y]?=some (.lst row))(h2:row[x]?=some (.lst hp)):aU G 3 sJ [bN c r w h T F S,.int x,.int y]=some (.ok (.lst hp)):=by
 have e0:ev G (.var 0) [.im (bN c r w h T F S),.im (.int x),.im (.int y)]=some (bN c r w h T F S):=by simp only[zz,yy,aA,aB]
 refine aR (ρ:=[.im (bN c r w h T F S),.im (.int x),.im (.int y)]) rfl (aJ (cZ ?_ aX) (bA ?_))
 ·rw[eN,eN,eN,aS,FP hf];rw[qy (show ¬(x:Int)<0 by lia),qy (show ¬w≤(x:Int) by lia),qy (show ¬(y:Int)<0 by lia),qy (show ¬h≤(y:Int) by lia)]
  rfl
 ·simp only[zz,yy,aA,aB,rY hf e0,eZ h1,eZ h2]
noncomputable def jO:IS:=(.seq (.iff (.bin .lt (.var 1) (.bcall .len (.cons (.var 0) .nil))) (.ret false (.ix (.var 0) (.var 1))) .nop) (.ret false (.lit (.int 0))))
noncomputable def bw(ns:List Int)(k:Nat):Int:=ns.getD k 0
theorem zK{ns:List Int}{k:Nat}:aU G 2 jO [.frz (ns.map .int),.int k]=some (.ok (.int (bw ns k))):=by
 have e:ev G (.bin .lt (.var 1) (.bcall .len (.cons (.var 0) .nil))) [.im (.frz (ns.map .int)),.im (.int k)]=some (.bl (decide ((k:Int)<ns.length))):=by
  simp only[zz,yy,aA,aB,qv]
 by_cases hk:k<ns.length
 ·refine aR (ρ:=[.im (.frz (ns.map .int)),.im (.int k)]) rfl (gT (jQ ?_ (bA (d:=.int (bw ns k)) ?_)) (fun _ z=>by cases z))
  ·rw[eN,eN,aS,e,tw (by lia)]
  ·have:(ns.map D.int)[k]?=some (.int (bw ns k)):=by
    unfold bw;rw[qu,q9,qt hk];rfl
   simp only[zz,yy,aA,aB,eZ this]
 ·refine aR (ρ:=[.im (.frz (ns.map .int)),.im (.int k)]) rfl (aJ (cZ ?_ aX) (bA ?_))
  ·rw[eN,eN,aS,e,qy (by lia)]
  ·have:bw ns k=0:=by
    unfold bw;rw[q9,List.getElem?_eq_none (by lia)];rfl
   simp only[zz,yy,aA,aB,this]
noncomputable def nD:IS:=(.ret false (.and (.isi (.var 0) "int") (.not (.tr (.isi (.var 0) "bool")))))
theorem wB{i:Int}:iV G "int" (.int i)=some true:=by simp only[iV];rw[if_pos trivial]
theorem sD{i:Int}:iV G "bool" (.int i)=some false:=by simp only[iV];rw[if_neg (by decide +kernel),if_pos (.inl trivial)]
theorem iU{b:Bool}:iV G "bool" (.bl b)=some true:=by simp only[iV];rw[if_pos (.inr trivial)]
theorem BA{xs:List D}:iV G "list" (.lst xs)=some true:=by simp only[iV];rw[if_pos trivial]
theorem AZ{xs:List D}:iV G "tuple" (.tup xs)=some true:=by simp only[iV];rw[if_pos trivial]
theorem GT{i:Int}:aU G 1 nD [.int i]=some (.ok (.bl true)):=by
 refine aR (ρ:=[.im (.int i)]) rfl (bA ?_);simp only[zz,yy,aA,aB,wB,sD,di];rfl
end
end Pg
theorem xD{α:Type}{f:D→Option (Option D)}{enc:α→D}{g:α→D}:∀{L:List α},(∀a∈L,f (enc a)=some (some (g a)))→bU f (L.map enc)=some (L.map g)
 |[],_=>rfl
 |a::r,e=>by
  rw[tu];unfold bU;rw[e a (ur),xD fun x hx=>e x (rg _ hx)]
  rfl
theorem dH{α:Type}{G:GS}{ρ:List Sl}{n:Nat}{fr:List (Nat×Nat)}{tg:List Nat}{tp:Bool}{k:Src}{src test elt:IE}{s:D}{L:List α}(enc g:α→D)(h1:ev G src ρ=some s)(h2:items k s=some (L.map enc))
  (h3:∀a∈L,∃ρ1,bJ tg tp (enc a) (frame n fr ρ)=some ρ1∧ev G test ρ1=some (.bl true)∧ev G elt ρ1=some (g a)):ev G (.comp n fr tg tp k src test elt) ρ=some (.lst (L.map g)):=by
 rw[tW,h1,uo,h2,uo,xD (g:=g)]
 ·rfl
 ·intro a ha;obtain⟨ρ1,e1,e2,e3⟩:=h3 a ha;rw[e1,uo,e2,uo];show Option.map some (ev G elt ρ1)=_
  rw[e3];rfl
theorem fC{n:Nat}(h:n≤1000000):items .rng (.tup [.int (n:Int)])=some ((List.range n).map fun (k:Nat)=>D.int k):=by rw[yU h,jV]
theorem eJ{xs:List D}:items .seq (.lst xs)=some xs:=id rfl
theorem yV{xs:List D}:items .rev (.lst xs)=some xs.reverse:=id rfl
namespace Pg
abbrev Cell:=Int×Bool×Bool
abbrev cM:=List Cell
abbrev aZ:=List cM
abbrev Table:=List aZ
noncomputable def dm(c:Cell):D:=.tup [.int c.1,.bl c.2.1,.bl c.2.2]
noncomputable def hE(h:cM):D:=.lst (h.map dm)
noncomputable def sE(s:aZ):D:=.lst (s.map hE)
noncomputable def tE(T:Table):D:=.lst (T.map sE)
inductive Side|west|east|north|south deriving DecidableEq
noncomputable def Side.str:Side→Str
 |.west=>"west" | .east=>"east" | .north=>"north" | .south=>"south"
noncomputable def Side.up:Side→Bool
 |.west=>true | .east=>true | .north=>false | .south=>false
noncomputable def Side.near:Side→Bool
 |.west=>true | .east=>false | .north=>true | .south=>false
noncomputable def fZ(up:Bool)(c:Cell):Cell:=if up then(c.1,!c.2.1,c.2.2) else(c.1,c.2.1,!c.2.2)
noncomputable def eE(up:Bool)(h:cM):cM:=h.reverse.map (fZ up)
noncomputable def dU(up:Bool)(p:aZ):aZ:=p.map (eE up)
noncomputable def tog(u l:aZ):aZ:=(List.range (max u.length l.length)).map fun k=>u.getD k []++l.getD k []
noncomputable def bV(mv st:aZ)(over:Bool):aZ:=tog (if over then mv else st) (if over then st else mv)
noncomputable def cY(sd:Side)(over:Bool)(c:Nat)(s:aZ):aZ:=
 if sd.near then bV (dU sd.up (s.take c).reverse) (s.drop c) over else(bV (dU sd.up (s.drop c)) (s.take c).reverse over).reverse
noncomputable def width(T:Table):Nat:=(T.getD 0 []).length
noncomputable def transp(T:Table):Table:=(List.range (width T)).map fun x=>T.map fun s=>s.getD x []
noncomputable def foldT(sd:Side)(over:Bool)(c:Nat)(T:Table):Table:=if sd.up then T.map (cY sd over c) else transp ((transp T).map (cY sd over c))
section
variable {G:GS}
noncomputable def cUP:D:=.tup [.str "west",.str "east"]
noncomputable def cLV:D:=.tup [.str "north",.str "south"]
noncomputable def cNR:D:=.tup [.str "west",.str "north"]
theorem yI{a:D}{ys:List D}{b:Bool}(hp:(plain a&&ys.all plain)=true)(hb:(ys.any fun y=>b7 y a)=b):ah .isin a (.tup ys)=some (.bl b):=by
 simp only[ah,oIn];rw[if_pos hp,hb]
theorem KL{sd:Side}:ah .isin (.str sd.str) cUP=some (.bl sd.up):=by cases sd<;>exact yI (by decide +kernel) (by decide +kernel)
theorem KM{sd:Side}:ah .isin (.str sd.str) cLV=some (.bl (!sd.up)):=by cases sd<;>exact yI (by decide +kernel) (by decide +kernel)
theorem aFe{sd:Side}:ah .isin (.str sd.str) cNR=some (.bl sd.near):=by cases sd<;>exact yI (by decide +kernel) (by decide +kernel)
noncomputable def jN:IS:=(.ret false (.ite (.bin .lt (.var 1) (.bcall .len (.cons (.var 0) .nil))) (.ix (.var 0) (.var 1)) (.lst .nil)))
theorem yZ{p:aZ}{k:Nat}:aU G 2 jN [sE p,.int k]=some (.ok (hE (p.getD k []))):=by
 refine aR (ρ:=[.im (sE p),.im (.int k)]) rfl (bA ?_);have e:ev G (.bin .lt (.var 1) (.bcall .len (.cons (.var 0) .nil))) [.im (sE p),.im (.int k)]=some (.bl (decide ((k:Int)<p.length))):=by
  unfold sE;simp only[zz,yy,aA,aB,qv]
 by_cases hk:k<p.length
 ·have h1:(p.map hE)[k]?=some (hE (p.getD k [])):=by rw[qu,q9,qt hk];rfl
  rw[tV,e,tw (by lia)]
  unfold sE;simp only[zz,yy,aA,aB,eZ h1]
 ·have h1:p.getD k []=[]:=by rw[q9,List.getElem?_eq_none (by lia)];rfl
  rw[tV,e,qy (by lia),h1]
  simp only[zz,yy,aA,aB];rfl
noncomputable def eR:IS:=(.seq (.iff (.bin .isin (.var 1) (.glo "UPRIGHT_SIDES")) (.ret true (.comp 4 [] [1,2,3] true .rev (.var 0) (.lit (.bl true)) (.tup (.cons (.var 1) (.cons (.not (.tr (.var 2))) (.cons (.var 3) .nil)))))) .nop) (.ret true (.comp 4 [] [1,2,3] true .rev (.var 0) (.lit (.bl true)) (.tup (.cons (.var 1) (.cons (.var 2) (.cons (.not (.tr (.var 3))) .nil)))))))
theorem nK(hc:G.cst "UPRIGHT_SIDES" = some cUP){h:cM}{sd:Side}:aU G 2 eR [hE h,.str sd.str]=some (.ok (hE (eE sd.up h))):=by
 have et:ev G (.bin .isin (.var 1) (.glo "UPRIGHT_SIDES")) (view [.im (hE h),.im (.str sd.str)])=some (.bl sd.up):=by simp only[zz,yy,aA,aB,hc,KL]
 have er:items .rev (hE h)=some (h.reverse.map dm):=by unfold hE;rw[yV,List.map_reverse]
 cases hs:sd.up with
 |true =>
  refine aR (ρ:=[.im (hE h),.im (.str sd.str)]) rfl (gT (jQ (et.trans (by rw[hs])) (bA (d:=hE (eE true h)) ?_)) (fun _ z=>by cases z))
  have e:=dH (G:=G) (ρ:=[.im (hE h),.im (.str sd.str)]) (n:=4) (fr:=[]) (tg:=[1,2,3]) (tp:=true) (k:=.rev) (src:=.var 0) (test:=.lit (.bl true)) (elt:=.tup (.cons (.var 1) (.cons (.not (.tr (.var 2))) (.cons (.var 3) .nil)))) (L:=h.reverse) dm (fun c=>dm (fZ true c)) (by simp only[zz,yy,aA,aB]) er (fun c _=>⟨[.un,.im (.int c.1),.im (.bl c.2.1),.im (.bl c.2.2)],rfl,by simp only[zz,yy,aA,aB],by simp only[zz,yy,aA,aB,di];rfl⟩)
  rw[e];unfold hE eE;rw[v3];rfl
 |false =>
  refine aR (ρ:=[.im (hE h),.im (.str sd.str)]) rfl (aJ (cZ (et.trans (by rw[hs])) aX) (bA ?_))
  have e:=dH (G:=G) (ρ:=[.im (hE h),.im (.str sd.str)]) (n:=4) (fr:=[]) (tg:=[1,2,3]) (tp:=true) (k:=.rev) (src:=.var 0) (test:=.lit (.bl true)) (elt:=.tup (.cons (.var 1) (.cons (.var 2) (.cons (.not (.tr (.var 3))) .nil)))) (L:=h.reverse) dm (fun c=>dm (fZ false c)) (by simp only[zz,yy,aA,aB]) er (fun c _=>⟨[.un,.im (.int c.1),.im (.bl c.2.1),.im (.bl c.2.2)],rfl,by simp only[zz,yy,aA,aB],by simp only[zz,yy,aA,aB,di];rfl⟩)
  rw[e];unfold hE eE;rw[v3];rfl
noncomputable def eQ:IS:=(.ret true (.comp 3 [(2,1)] [1] false .seq (.var 0) (.lit (.bl true)) (.call "turned_heap" (.cons (.var 1) (.cons (.var 2) .nil)))))
theorem nJ(ht:∀(h:cM) (sd:Side),G.fn "turned_heap" [hE h,.str sd.str]=some (.ok (hE (eE sd.up h)))){p:aZ}{sd:Side}:aU G 2 eQ [sE p,.str sd.str]=some (.ok (sE (dU sd.up p))):=by
 refine aR (ρ:=[.im (sE p),.im (.str sd.str)]) rfl (bA ?_);refine(dH (L:=p) hE (fun h=>hE (eE sd.up h)) (s:=sE p) (by simp only[zz,yy,aA,aB]) (by unfold sE;exact eJ) (fun h _=>⟨[.un,.im (hE h),.im (.str sd.str)],rfl,by simp only[zz,yy,aA,aB],by simp only[zz,yy,aA,aB,ht]⟩)).trans ?_
 unfold sE dU;rw[v3];rfl
theorem aIc{a b:Nat}:bf .max [.int (a:Int),.int (b:Int)]=some (.int ((max a b:Nat):Int)):=by
 simp only[bf,LD]
 by_cases h:(b:Int) > a
 ·rw[if_pos h];rw[Nat.max_eq_right (by lia)]
 ·rw[if_neg h];rw[Nat.max_eq_left (by lia)]
theorem aIw{a b:cM}(h:a.length+b.length≤1000000):ah .add (hE a) (hE b)=some (hE (a++b)):=by
 unfold hE;simp only[ah,RT];rw[if_pos (by simp only[qv];exact h),ux]
noncomputable def dM:IS:=(.seq (.set 3 (.ite (.tr (.var 2)) (.var 0) (.var 1))) (.seq (.set 4 (.ite (.tr (.var 2)) (.var 1) (.var 0))) (.seq (.set 5 (.bcall .max (.cons (.bcall .len (.cons (.var 3) .nil)) (.cons (.bcall .len (.cons (.var 4) .nil)) .nil)))) (.ret true (.comp 4 [(2,4),(3,3)] [1] false .rng (.tup (.cons (.var 5) .nil)) (.lit (.bl true)) (.bin .add (.call "heap_at" (.cons (.var 3) (.cons (.var 1) .nil))) (.call "heap_at" (.cons (.var 2) (.cons (.var 1) .nil)))))))))
def Few(b:Nat)(p:aZ):Prop:=∀h∈p,h.length≤b
theorem Few.at_{b:Nat}{p:aZ}(h:Few b p)(k:Nat):(p.getD k []).length≤b:=by
 rw[q9];cases e:p[k]? with
 |none=>exact v9 _
 |some x=>exact h x (qq e)
theorem lO(hh:∀(p:aZ) (k:Nat),G.fn "heap_at" [sE p,.int k]=some (.ok (hE (p.getD k [])))){mv st:aZ}{over:Bool}(l1:mv.length≤1000)(l2:st.length≤1000)(f1:Few 400000 mv)(f2:Few 400000 st):aU G 6 dM [sE mv,sE st,.bl over]=some (.ok (sE (bV mv st over))):=by
 have key:∀u l:aZ,u.length≤1000→l.length≤1000→Few 400000 u→Few 400000 l→∀s0 s1 s2,ex G (.seq (.set 5 (.bcall .max (.cons (.bcall .len (.cons (.var 3) .nil)) (.cons (.bcall .len (.cons (.var 4) .nil)) .nil)))) (.ret true (.comp 4 [(2,4),(3,3)] [1] false .rng (.tup (.cons (.var 5) .nil)) (.lit (.bl true)) (.bin .add (.call "heap_at" (.cons (.var 3) (.cons (.var 1) .nil))) (.call "heap_at" (.cons (.var 2) (.cons (.var 1) .nil)))))))
   [s0,s1,s2,.im (sE u),.im (sE l),.un]=some (.rt (sE (tog u l))):=fun u l a1 a2 b1 b2 s0 s1 s2=>by
  refine aJ (aV (d:=.int ((max u.length l.length:Nat):Int)) (by unfold sE;simp only[zz,yy,aA,aB,qv,aIc])) (bA ?_)
  show ev G _ [s0,s1,s2,.im (sE u),.im (sE l),.im (.int ((max u.length l.length:Nat):Int))]=_
  refine(dH (L:=List.range (max u.length l.length)) (fun k=>.int (k:Nat)) (fun k=>hE (u.getD k []++l.getD k [])) (s:=.tup [.int ((max u.length l.length:Nat):Int)]) (by simp only[zz,yy,aA,aB]) (fC (by lia)) (fun k _=>⟨[.un,.im (.int k),.im (sE l),.im (sE u)],rfl,by simp only[zz,yy,aA,aB],?_⟩)).trans ?_
  ·have:=b1.at_ k
   have:=b2.at_ k
   simp only[zz,yy,aA,aB,hh,aIw (show (u.getD k []).length+(l.getD k []).length≤1000000 by lia)]
  ·unfold tog sE;rw[v3];rfl
 cases over with
 |true=>exact aR (ρ:=[.im (sE mv),.im (sE st),.im (.bl true),.un,.un,.un]) rfl (aJ (aV (d:=sE mv) (by simp only[zz,yy,aA,aB,di])) (aJ (aV (d:=sE st) (by simp only[List.set];simp only[zz,yy,aA,aB,di])) (key mv st l1 l2 f1 f2 _ _ _)))
 |false=>exact aR (ρ:=[.im (sE mv),.im (sE st),.im (.bl false),.un,.un,.un]) rfl (aJ (aV (d:=sE st) (by simp only[zz,yy,aA,aB,di])) (aJ (aV (d:=sE mv) (by simp only[List.set];simp only[zz,yy,aA,aB,di])) (key st mv l2 l1 f2 f1 _ _ _)))
end
theorem MA{α:Type}{xs:List α}{c:Nat}:cut xs none (some (c:Int))=xs.take c:=by
 simp only[cut,sIx];rw[if_neg (by lia)]
 simp only[drop_zero,Nat.sub_zero,Int.toNat_natCast]
 by_cases h:c≤xs.length
 ·rw[min_eq_left h]
 ·rw[Nat.min_eq_right (by lia),List.take_of_length_le (by lia),List.take_of_length_le (by lia)]
theorem MB{α:Type}{xs:List α}{c:Nat}:cut xs (some (c:Int)) none=xs.drop c:=by
 simp only[cut,sIx];rw[if_neg (by lia)]
 simp only[Int.toNat_natCast]
 by_cases h:c≤xs.length
 ·rw[min_eq_left h,List.take_of_length_le (by rw[vd];exact qw _)]
 ·rw[Nat.min_eq_right (by lia),List.drop_of_length_le (by lia),List.drop_of_length_le (by lia),List.take_nil]
theorem Few.sub{b:Nat}{p q:aZ}(h:Few b p)(s:∀x∈q,x∈p):Few b q:=fun x hx=>h x (s x hx)
theorem Few.turn{b:Nat}{p:aZ}{u:Bool}(h:Few b p):Few b (dU u p):=by
 intro x hx;unfold dU at hx;obtain⟨y,hy,rfl⟩:=u7.mp hx;unfold eE;rw[qv,va];exact h y hy
theorem rO{u l:aZ}:(tog u l).length=max u.length l.length:=by unfold tog;simp
theorem gU{u l:aZ}{over:Bool}:(bV u l over).length=max u.length l.length:=by
 unfold bV;cases over with
 |true=>exact rO
 |false=>rw[Nat.max_comm];exact rO
theorem gM{u:Bool}{p:aZ}:(dU u p).length=p.length:=by unfold dU;simp
theorem FV{sd:Side}{over:Bool}{c:Nat}{s:aZ}(h:c≤s.length):(cY sd over c s).length=max c (s.length-c):=by
 unfold cY;split
 ·rw[gU,gM,va,ud,vd,min_eq_left h]
 ·rw[va,gU,gM,va,ud,vd,min_eq_left h,Nat.max_comm]
section
variable {G:GS}
noncomputable def eC:IS:=(.seq (.set 4 (.walk .rev (.sl (.var 0) false (.lit .non) true (.var 3)))) (.seq (.set 5 (.sl (.var 0) true (.var 3) false (.lit .non))) (.seq (.iff (.bin .isin (.var 1) (.glo "NEAR_SIDES")) (.ret false (.call "laid_together" (.cons (.call "turned_part" (.cons (.var 4) (.cons (.var 1) .nil))) (.cons (.var 5) (.cons (.var 2) .nil))))) .nop) (.seq (.set 6 (.call "laid_together" (.cons (.call "turned_part" (.cons (.var 5) (.cons (.var 1) .nil))) (.cons (.var 4) (.cons (.var 2) .nil))))) (.ret true (.walk .rev (.var 6)))))))
theorem mV(hc:G.cst "NEAR_SIDES" = some cNR)(ht:∀(p:aZ) (sd:Side),G.fn "turned_part" [sE p,.str sd.str]=some (.ok (sE (dU sd.up p))))
  (hl:∀(mv st:aZ) (over:Bool),mv.length≤1000→st.length≤1000→Few 400000 mv→Few 400000 st→G.fn "laid_together" [sE mv,sE st,.bl over]=some (.ok (sE (bV mv st over)))) {s:aZ} {sd:Side} {over:Bool} {c:Nat} (ls:s.length≤1000) (hf:Few 400000 s) :
  aU G 7 eC [sE s,.str sd.str,.bl over,.int c]=some (.ok (sE (cY sd over c s))):=by
 have a1:Few 400000 (s.take c).reverse:=hf.sub fun x hx=>mem_of_mem_take (mem_reverse.mp hx)
 have a2:Few 400000 (s.drop c):=hf.sub fun x hx=>mem_of_mem_drop hx
 have l1:(s.take c).reverse.length≤1000:=by rw[va,ud];lia
 have l2:(s.drop c).length≤1000:=by rw[vd];lia
 have e1:ev G (.walk .rev (.sl (.var 0) false (.lit .non) true (.var 3))) [.im (sE s),.im (.str sd.str),.im (.bl over),.im (.int c),.un,.un,.un]=some (sE (s.take c).reverse):=by
  unfold sE;simp only[zz,yy,aA,aB,part,intOf];simp only[r8,if_false,if_true];simp only[zz,yy,aA,aB,MA,yV];rw[←map_take,←List.map_reverse]
 have e2:ev G (.sl (.var 0) true (.var 3) false (.lit .non)) [.im (sE s),.im (.str sd.str),.im (.bl over),.im (.int c),.im (sE (s.take c).reverse),.un,.un]=some (sE (s.drop c)):=by
  unfold sE;simp only[zz,yy,aA,aB,part,intOf];simp only[r8,if_false,if_true];simp only[zz,yy,aA,aB,MB];rw[←List.map_drop]
 have et:ev G (.bin .isin (.var 1) (.glo "NEAR_SIDES")) (view [.im (sE s),.im (.str sd.str),.im (.bl over),.im (.int c),.im (sE (s.take c).reverse),.im (sE (s.drop c)),.un])=some (.bl sd.near):=by simp only[zz,yy,aA,aB,hc,aFe]
 refine aR (ρ:=[.im (sE s),.im (.str sd.str),.im (.bl over),.im (.int c),.un,.un,.un]) rfl (aJ (aV e1) (aJ (aV e2) ?_));show ex G _ [.im (sE s),.im (.str sd.str),.im (.bl over),.im (.int c),.im (sE (s.take c).reverse),.im (sE (s.drop c)),.un]=_
 cases hn:sd.near with
 |true =>
  refine gT (jQ (et.trans (by rw[hn])) (bA ?_)) (fun _ z=>by cases z)
  unfold cY;rw[if_pos hn];simp only[zz,yy,aA,aB,ht,hl (dU sd.up (s.take c).reverse) (s.drop c) over (by rw[gM];exact l1) l2 a1.turn a2]
 |false =>
  refine aJ (cZ (et.trans (by rw[hn])) aX) (aJ (aV (d:=sE (bV (dU sd.up (s.drop c)) (s.take c).reverse over)) ?_) (bA ?_))
  ·simp only[zz,yy,aA,aB,ht,hl (dU sd.up (s.drop c)) (s.take c).reverse over (by rw[gM];exact l2) l1 a2.turn a1]
  ·show ev G _ [.im (sE s),.im (.str sd.str),.im (.bl over),.im (.int c),.im (sE (s.take c).reverse),.im (sE (s.drop c)),.im (sE (bV (dU sd.up (s.drop c)) (s.take c).reverse over))]=_
   unfold cY;rw[if_neg (by rw[hn];decide)]
   unfold sE;simp only[zz,yy,aA,aB,yV];rw[←List.map_reverse]
noncomputable def gC:IS:=(.ret true (.comp 3 [(2,1)] [1] false .seq (.var 0) (.lit (.bl true)) (.ix (.var 1) (.var 2))))
theorem uE{T:Table}{x:Nat}(h:∀s∈T,x<s.length):aU G 2 gC [tE T,.int x]=some (.ok (sE (T.map fun s=>s.getD x []))):=by
 refine aR (ρ:=[.im (tE T),.im (.int x)]) rfl (bA ?_);refine(dH (L:=T) sE (fun s=>hE (s.getD x [])) (s:=tE T) (by simp only[zz,yy,aA,aB]) (by unfold tE;exact eJ) (fun s hs=>⟨[.un,.im (sE s),.im (.int x)],rfl,by simp only[zz,yy,aA,aB],?_⟩)).trans ?_
 ·have h1:(s.map hE)[x]?=some (hE (s.getD x [])):=by rw[qu,q9,qt (h s hs)];rfl
  unfold sE;simp only[zz,yy,aA,aB,eZ h1]
 ·unfold sE;rw[v3];rfl
structure Rect (T:Table) (w h:Nat):Prop where
 len:T.length=h
 row:∀s∈T,s.length=w
 h1:1≤h
 w1:1≤w
theorem Rect.width{T:Table}{w h:Nat}(r:Rect T w h):Pg.width T=w:=by
 obtain⟨len,row,h1,w1⟩:=r;unfold Pg.width;rw[q9,qt (by lia)]
 exact row _ (ve _)
theorem Rect.transp{T:Table}{w h:Nat}(r:Rect T w h):Rect (transp T) h w:=by
 refine⟨?_,fun s hs=>?_,r.w1,r.h1⟩
 ·unfold Pg.transp;rw[qv,sj,r.width]
 ·unfold Pg.transp at hs;obtain⟨x,_,rfl⟩:=u7.mp hs;rw[qv,r.len]
noncomputable def fF:IS:=(.ret true (.comp 3 [(2,0)] [1] false .rng (.tup (.cons (.bcall .len (.cons (.ix (.var 0) (.lit (.int 0))) .nil)) .nil)) (.lit (.bl true)) (.call "column_of" (.cons (.var 2) (.cons (.var 1) .nil)))))
theorem pC(hc:∀(T:Table) (x:Nat),(∀s∈T,x<s.length)→G.fn "column_of" [tE T,.int x]=some (.ok (sE (T.map fun s=>s.getD x [])))){T:Table}{w h:Nat}(r:Rect T w h)(hw:w≤1000):aU G 1 fF [tE T]=some (.ok (tE (transp T))):=by
 refine aR (ρ:=[.im (tE T)]) rfl (bA ?_);have h0:(T.map sE)[0]?=some (sE (T.getD 0 [])):=by
  have:=r.len;have:=r.h1
  rw[qu,q9,qt (by lia)];rfl
 have e0:atI (T.map sE) 0=some (sE (T.getD 0 [])):=eZ (k:=0) h0
 refine(dH (L:=List.range (width T)) (fun k=>.int (k:Nat)) (fun x=>sE (T.map fun s=>s.getD x [])) (s:=.tup [.int (width T:Nat)]) ?_ (fC (by rw[r.width];lia)) (fun x hx=>⟨[.un,.im (.int x),.im (tE T)],rfl,by simp only[zz,yy,aA,aB],?_⟩)).trans ?_
 ·unfold tE;simp only[zz,yy,aA,aB,e0];unfold sE;simp only[zz,yy,aA,aB,qv];rfl
 ·have dw:x<w:=by rw[←r.width];exact v8.mp hx
  simp only[zz,yy,aA,aB,hc T x (fun s hs=>by rw[r.row s hs];exact dw)]
 ·unfold tE transp;rw[v3];rfl
def pM(b:Nat)(T:Table):Prop:=∀s∈T,Few b s
theorem pM.transp{b:Nat}{T:Table}(h:pM b T):pM b (transp T):=by
 intro s hs;unfold Pg.transp at hs;obtain⟨x,_,rfl⟩:=u7.mp hs;intro y hy;obtain⟨s,hs,rfl⟩:=u7.mp hy;exact(h s hs).at_ x
theorem Rect.fold{T:Table}{w h:Nat}{sd:Side}{over:Bool}{c:Nat}(r:Rect T w h)(h1:1≤c)(h2:c<w):Rect (T.map (cY sd over c)) (max c (w-c)) h:=by
 refine⟨by rw[qv,r.len],fun s hs=>?_,r.h1,by lia⟩
 obtain⟨s',c7,rfl⟩:=u7.mp hs;rw[FV (by rw[r.row s' c7];lia),r.row s' c7]
theorem Rect.foldT{T:Table}{w h:Nat}{sd:Side}{over:Bool}{c:Nat}(r:Rect T w h)(h1:1≤c)(h2:c<if sd.up then w else h):Rect (foldT sd over c T) (if sd.up then max c (w-c) else w) (if sd.up then h else max c (h-c)):=by
 unfold Pg.foldT;cases hs:sd.up with
 |true=>rw[hs]at h2;exact r.fold h1 h2
 |false=>rw[hs]at h2;exact(r.transp.fold h1 h2).transp
noncomputable def eB:IS:=(.seq (.iff (.bin .isin (.var 1) (.glo "UPRIGHT_SIDES")) (.ret true (.comp 5 [(2,3),(3,2),(4,1)] [1] false .seq (.var 0) (.lit (.bl true)) (.call "folded_strip" (.cons (.var 1) (.cons (.var 4) (.cons (.var 3) (.cons (.var 2) .nil))))))) .nop) (.seq (.set 4 (.comp 5 [(2,3),(3,2),(4,1)] [1] false .seq (.call "transposed" (.cons (.var 0) .nil)) (.lit (.bl true)) (.call "folded_strip" (.cons (.var 1) (.cons (.var 4) (.cons (.var 3) (.cons (.var 2) .nil))))))) (.ret false (.call "transposed" (.cons (.var 4) .nil)))))
theorem mU(hc:G.cst "UPRIGHT_SIDES" = some cUP)(ht:∀(T:Table) (w h:Nat),Rect T w h→w≤1000→G.fn "transposed" [tE T]=some (.ok (tE (transp T))))
  (hs:∀(s:aZ) (sd:Side) (over:Bool) (c:Nat),s.length≤1000→Few 400000 s→G.fn "folded_strip" [sE s,.str sd.str,.bl over,.int c]=some (.ok (sE (cY sd over c s)))) {T:Table} {w h:Nat} {sd:Side} {over:Bool} {c:Nat} (r:Rect T w h) (hw:w≤1000) (hh:h≤1000) (hf:pM 400000 T) (h1:1≤c) (h2:c<if sd.up then w else h) :
  aU G 5 eB [tE T,.str sd.str,.bl over,.int c]=some (.ok (tE (foldT sd over c T))):=by
 have et:ev G (.bin .isin (.var 1) (.glo "UPRIGHT_SIDES")) (view [.im (tE T),.im (.str sd.str),.im (.bl over),.im (.int c),.un])=some (.bl sd.up):=by simp only[zz,yy,aA,aB,hc,KL]
 cases hu:sd.up with
 |true =>
  refine aR (ρ:=[.im (tE T),.im (.str sd.str),.im (.bl over),.im (.int c),.un]) rfl (gT (jQ (et.trans (by rw[hu])) (bA ?_)) (fun _ z=>by cases z))
  refine(dH (L:=T) sE (fun s=>sE (cY sd over c s)) (s:=tE T) (by simp only[zz,yy,aA,aB]) (by unfold tE;exact eJ) (fun s c7=>⟨[.un,.im (sE s),.im (.int c),.im (.bl over),.im (.str sd.str)],rfl,by simp only[zz,yy,aA,aB],?_⟩)).trans ?_
  ·simp only[zz,yy,aA,aB,hs s sd over c (by rw[r.row s c7];exact hw) (hf s c7)]
  ·unfold tE foldT;rw[if_pos hu,v3];rfl
 |false =>
  rw[hu]at h2;have h2:c<h:=h2
  refine aR (ρ:=[.im (tE T),.im (.str sd.str),.im (.bl over),.im (.int c),.un]) rfl (aJ (cZ (et.trans (by rw[hu])) aX) (aJ (aV (d:=tE ((transp T).map (cY sd over c))) ?_) (bA ?_)))
  ·refine(dH (L:=transp T) sE (fun s=>sE (cY sd over c s)) (s:=tE (transp T)) (by simp only[zz,yy,aA,aB,ht T w h r hw]) (by unfold tE;exact eJ) (fun s c7=>⟨[.un,.im (sE s),.im (.int c),.im (.bl over),.im (.str sd.str)],rfl,by simp only[zz,yy,aA,aB],?_⟩)).trans ?_
   ·simp only[zz,yy,aA,aB,hs s sd over c (by rw[r.transp.row s c7];exact hh) (hf.transp s c7)]
   ·unfold tE;rw[v3];rfl
  ·show ev G _ [.im (tE T),.im (.str sd.str),.im (.bl over),.im (.int c),.im (tE ((transp T).map (cY sd over c)))]=_
   unfold foldT;rw[if_neg (by rw[hu];decide)]
   simp only[zz,yy,aA,aB,ht ((transp T).map (cY sd over c)) (max c (h-c)) w (r.transp.fold h1 h2) (by lia)]
end
noncomputable def aL(c r w h:Nat)(T:Table)(F S:List D):D:=bN c r w h (T.map sE) F S
noncomputable def fB(c r:Nat):Table:=(List.range r).map fun y=>(List.range c).map fun x=>[(((y*c+x:Nat):Int),false,false)]
theorem uU{c r:Nat}:fO c r=(fB c r).map sE:=by
 unfold fO fB mR;rw[v3]
 congr 1
 funext y
 show _=D.lst (((List.range c).map _).map hE)
 rw[v3];rfl
theorem FX{c r:Nat}(hc:1≤c)(hr:1≤r):Rect (fB c r) c r:=by
 refine⟨by unfold fB;simp,fun s hs=>?_,hr,hc⟩
 unfold fB at hs;obtain⟨y,_,rfl⟩:=u7.mp hs;simp
section
variable {G:GS}{c r w h:Nat}{T:Table}{F S:List D}
noncomputable def dB:IS:=(.iff (.tr (.fld (.var 0) "severed")) (.rse "Severed") .nop)
theorem kJ(hf:G.fl "Pile" = cx):aU G 1 dB [aL c r w h T F []]=some (.ok .non):=by
 have e0:ev G (.var 0) (view [.im (aL c r w h T F [])])=some (bN c r w h (T.map sE) F []):=by simp only[zz,yy,aA,aB];rfl
 refine AA (ρ:=[.im (aL c r w h T F [])]) (ρ':=[.im (aL c r w h T F [])]) rfl (cZ ?_ aX);rw[VQ,jK hf e0];rfl
noncomputable def fH:IS:=(.seq (.iff (.bin .isin (.var 1) (.glo "UPRIGHT_SIDES")) (.ret false (.chain .le .lt (.lit (.int 1)) (.var 2) (.fld (.var 0) "wide"))) .nop) (.seq (.iff (.bin .isin (.var 1) (.glo "LEVEL_SIDES")) (.ret false (.chain .le .lt (.lit (.int 1)) (.var 2) (.fld (.var 0) "high"))) .nop) (.ret false (.lit (.bl false)))))
theorem xF{ρ:List Sl}{a:IE}{i j:Int}(h1:slot ρ 2=some (.int i))(h2:ev G a ρ=some (.int j)):ev G (.chain .le .lt (.lit (.int 1)) (.var 2) a) ρ=some (.bl (decide (1≤i)&&decide (i<j))):=by
 rw[wU,oO,h1];simp only[zz,yy,aA,aB];cases hb:decide (1≤i) with
 |true=>rw[h2];simp only[zz,yy,aA,aB];rfl
 |false=>rfl
theorem pH(hf:G.fl "Pile" = cx)(h1:G.cst "UPRIGHT_SIDES" = some cUP)(h2:G.cst "LEVEL_SIDES" = some cLV){sd:Side}{i:Int}:aU G 3 fH [aL c r w h T F S,.str sd.str,.int i]=some (.ok (.bl (decide (1≤i)&&decide (i<((if sd.up then w else h:Nat):Int))))):=by
 have e0:ev G (.var 0) [.im (aL c r w h T F S),.im (.str sd.str),.im (.int i)]=some (bN c r w h (T.map sE) F S):=by simp only[zz,yy,aA,aB];rfl
 have et:ev G (.bin .isin (.var 1) (.glo "UPRIGHT_SIDES")) (view [.im (aL c r w h T F S),.im (.str sd.str),.im (.int i)])=some (.bl sd.up):=by simp only[zz,yy,aA,aB,h1,KL]
 have el:ev G (.bin .isin (.var 1) (.glo "LEVEL_SIDES")) (view [.im (aL c r w h T F S),.im (.str sd.str),.im (.int i)])=some (.bl (!sd.up)):=by simp only[zz,yy,aA,aB,h2,KM]
 cases hu:sd.up with
 |true=>exact aR (ρ:=[.im (aL c r w h T F S),.im (.str sd.str),.im (.int i)]) rfl (gT (jQ (et.trans (by rw[hu])) (bA (xF (by simp only[zz,yy,aA,aB]) (hJ hf e0)))) (fun _ z=>by cases z))
 |false=>exact aR (ρ:=[.im (aL c r w h T F S),.im (.str sd.str),.im (.int i)]) rfl (aJ (cZ (et.trans (by rw[hu])) aX) (gT (jQ (el.trans (by rw[hu];rfl)) (bA (xF (by simp only[zz,yy,aA,aB]) (hU hf e0)))) (fun _ z=>by cases z)))
noncomputable def fA(sd:Side)(over:Bool)(k:Nat):D:=.tup [.str sd.str,.bl over,.int k]
noncomputable def kN:IS:=(.seq (.drop (.call "refuse_severed" (.cons (.var 0) .nil))) (.seq (.iff (.not (.tr (.call "has_crease" (.cons (.var 0) (.cons (.var 1) (.cons (.var 3) .nil)))))) (.rse "NoFold") .nop) (.seq (.set 4 (.call "folded_table" (.cons (.fld (.var 0) "table") (.cons (.var 1) (.cons (.var 2) (.cons (.var 3) .nil)))))) (.seq (.set 5 (.bin .add (.fld (.var 0) "folds") (.tup (.cons (.tup (.cons (.var 1) (.cons (.var 2) (.cons (.var 3) .nil)))) .nil)))) (.ret false (.mk "Pile" (.cons (.fld (.var 0) "columns") (.cons (.fld (.var 0) "rows") (.cons (.var 4) (.cons (.var 5) (.cons (.fld (.var 0) "severed") .nil)))))))))))
theorem aGe{a b:List D}(h:a.length+b.length≤1000000):ah .add (.tup a) (.tup b)=some (.tup (a++b)):=by
 simp only[ah,RT];rw[if_pos (by unfold big;exact h)]
theorem CP{ρ:List Sl}{e:IE}{d:D}(h:ev G e (view ρ)=some d):ex G (.drop e) ρ=some (.nx ρ):=by
 show (match ev G e (view ρ) with|some _=>some (Out.nx ρ)|none=>_)=_
 rw[h]
theorem FT(hf:G.fl "Pile" = cx)(hsv:∀(c r w h:Nat) (T:Table) (F:List D),G.fn "refuse_severed" [aL c r w h T F []]=some (.ok .non))
  (bg:∀(c r w h:Nat) (T:Table) (F S:List D) (sd:Side) (i:Int),G.fn "has_crease" [aL c r w h T F S,.str sd.str,.int i]=some (.ok (.bl (decide (1≤i)&&decide (i<((if sd.up then w else h:Nat):Int))))))
  (hft:∀(T:Table) (w h:Nat) (sd:Side) (over:Bool) (k:Nat),Rect T w h→w≤1000→h≤1000→pM 400000 T→1≤k→(k<if sd.up then w else h)→G.fn "folded_table" [tE T,.str sd.str,.bl over,.int k]=some (.ok (tE (foldT sd over k T))))
  (kc:∀(c r:Int) (T row:List D) (F S:List D),T[0]?=some (.lst row)→G.mo "Pile" [.int c,.int r,.lst T,.tup F,.tup S]=some (.ok (bN c r row.length T.length T F S)))
  {sd:Side} {over:Bool} {k:Nat} (R:Rect T w h) (hw:w≤1000) (hh:h≤1000) (hfew:pM 400000 T) (h1:1≤k) (h2:k<if sd.up then w else h) (hF:F.length≤1000) :
  aU G 6 kN [aL c r w h T F [],.str sd.str,.bl over,.int k]=some (.ok (aL c r (if sd.up then max k (w-k) else w) (if sd.up then h else max k (h-k)) (foldT sd over k T) (F++[fA sd over k]) [])):=by
 have R':=R.foldT (over:=over) h1 h2
 have e0:∀s4 s5,ev G (.var 0) [.im (aL c r w h T F []),.im (.str sd.str),.im (.bl over),.im (.int k),s4,s5]=some (bN c r w h (T.map sE) F []):=fun _ _=>by simp only[zz,yy,aA,aB];rfl
 have ht:=hft T w h sd over k R hw hh hfew h1 h2
 unfold tE at ht;have em:=kc c r ((foldT sd over k T).map sE) (((foldT sd over k T).getD 0 []).map hE) (F++[fA sd over k]) [] (by
  have:=R'.len;have:=R'.h1
  rw[qu,q9,qt (by lia)];rfl)
 rw[qv,qv,R'.len,show ((foldT sd over k T).getD 0 []).length=_ from R'.width]at em
 refine aR (ρ:=[.im (aL c r w h T F []),.im (.str sd.str),.im (.bl over),.im (.int k),.un,.un]) rfl ?_;refine aJ (CP (d:=.non) (by simp only[zz,yy,aA,aB,hsv])) (aJ (cZ ?_ aX) (aJ (aV (d:=.lst ((foldT sd over k T).map sE)) ?_) (aJ (aV (d:=.tup (F++[fA sd over k])) ?_) (bA ?_))))
 ·have hb:(decide ((1:Int)≤(k:Int))&&decide ((k:Int)<((if sd.up then w else h:Nat):Int)))=true:=by
   rw[rj,sh,sh];exact⟨by lia,by exact_mod_cast h2⟩
  simp only[zz,yy,aA,aB,bg,hb,di,tf]
 ·rw[kT,bQ,rY hf (e0 _ _)];simp only[zz,yy,aA,aB,ht]
 ·show ev G _ [.im (aL c r w h T F []),.im (.str sd.str),.im (.bl over),.im (.int k),.im (.lst ((foldT sd over k T).map sE)),.un]=_
  rw[cU,AQ hf (e0 _ _)];simp only[zz,yy,aA,aB,aGe (show F.length + [D.tup [.str sd.str,.bl over,.int k]].length≤1000000 by simp only[uw,List.length_nil];lia)]
  rfl
 ·show ev G _ [.im (aL c r w h T F []),.im (.str sd.str),.im (.bl over),.im (.int k),.im (.lst ((foldT sd over k T).map sE)),.im (.tup (F++[fA sd over k]))]=_
  rw[LM,bQ,lL hf (e0 _ _),bQ,yF hf (e0 _ _)];simp only[zz,yy,aA,aB,jK hf (e0 _ _),em];rfl
noncomputable def gR:IS:=(.seq (.set 3 (.or (.bin .eq (.var 1) (.lit (.int 1))) (.and (.bin .gt (.var 2) (.lit (.int 1))) (.bin .eq (.bin .mod (.var 0) (.lit (.int 2))) (.lit (.int 1)))))) (.seq (.set 4 (.ite (.tr (.var 3)) (.var 2) (.var 1))) (.seq (.set 5 (.ite (.tr (.var 3)) (.lst (.cons (.lit (.str "north")) (.cons (.lit (.str "south")) .nil))) (.lst (.cons (.lit (.str "west")) (.cons (.lit (.str "east")) .nil))))) (.ret false (.tup (.cons (.ix (.var 5) (.bin .mod (.bin .fdiv (.var 0) (.lit (.int 2))) (.lit (.int 2)))) (.cons (.bin .eq (.bin .mod (.bin .fdiv (.var 0) (.lit (.int 4))) (.lit (.int 2))) (.lit (.int 1))) (.cons (.bin .add (.lit (.int 1)) (.bin .mod (.bin .fdiv (.var 0) (.lit (.int 8))) (.bin .sub (.var 4) (.lit (.int 1))))) .nil))))))))
theorem mod2(i:Int):i % 2=0∨i % 2=1:=by lia
theorem zE{cell:Int}(hw:1≤w)(hh:1≤h)(hwh:1<w*h):∃(sd:Side) (over:Bool) (k:Nat),1≤k∧(k<if sd.up then w else h)∧aU G 6 gR [.int cell,.int w,.int h]=some (.ok (fA sd over k)):=by
 have m2:∀i:Int,ah .mod (.int i) (.int 2)=some (.int (i % 2)):=fun i=>kL (by decide)
 have d2:∀i:Int,ah .fdiv (.int i) (.int 2)=some (.int (i / 2)):=fun i=>nU (by decide) (by decide)
 have d4:∀i:Int,ah .fdiv (.int i) (.int 4)=some (.int (i / 4)):=fun i=>nU (by decide) (by decide)
 have d8:∀i:Int,ah .fdiv (.int i) (.int 8)=some (.int (i / 8)):=fun i=>nU (by decide) (by decide)
 have e3:ev G (.or (.bin .eq (.var 1) (.lit (.int 1))) (.and (.bin .gt (.var 2) (.lit (.int 1))) (.bin .eq (.bin .mod (.var 0) (.lit (.int 2))) (.lit (.int 1))))) [.im (.int cell),.im (.int w),.im (.int h),.un,.un,.un]=some (.bl (((w:Int) == 1) || (decide (1<(h:Int))&&(cell % 2 == 1)))):=
  cG (by simp only[zz,yy,aA,aB]) fun _=>CT (by simp only[zz,yy,aA,aB]) fun _=>by simp only[zz,yy,aA,aB,m2]
 have s01:∀{a b:D},atI [a,b] 0=some a:=fun {a b}=>eZ (k:=0) rfl
 have s11:∀{a b:D},atI [a,b] 1=some b:=fun {a b}=>eZ (k:=1) rfl
 have fin:∀(lv:Bool) (ext:Nat) (a b:Side),(((w:Int) == 1) || (decide (1<(h:Int))&&(cell % 2 == 1)))=lv→ext=(if lv then h else w)→2≤ext→(a=if lv then .north else .west)→(b=if lv then .south else .east) →
   ∃(sd:Side) (over:Bool) (k:Nat),1≤k∧(k<if sd.up then w else h)∧aU G 6 gR [.int cell,.int w,.int h]=some (.ok (fA sd over k)):=by
  intro lv ext a b h1 h2 h3 ha hb;have mx:ah .mod (.int (cell / 8)) (.int ((ext:Int)-1))=some (.int (cell / 8 % ((ext:Int)-1))):=kL (by lia)
  have r0:=Int.emod_nonneg (cell / 8) (show ((ext:Int)-1)≠0 by lia)
  have r1:=Int.emod_lt_of_pos (cell / 8) (show (0:Int)<(ext:Int)-1 by lia)
  have hk:(((1+cell / 8 % ((ext:Int)-1)).toNat:Nat):Int)=1+cell / 8 % ((ext:Int)-1):=by lia
  have up_a:(if a.up then w else h)=ext:=by subst ha h2;cases lv<;>rfl
  have up_b:(if b.up then w else h)=ext:=by subst hb h2;cases lv<;>rfl
  have e4:ev G (.ite (.tr (.var 3)) (.var 2) (.var 1)) [.im (.int cell),.im (.int w),.im (.int h),.im (.bl lv),.un,.un]=some (.int ext):=by subst h2;cases lv<;>simp only[zz,yy,aA,aB,di]<;>rfl
  have e5:ev G (.ite (.tr (.var 3)) (.lst (.cons (.lit (.str "north")) (.cons (.lit (.str "south")) .nil))) (.lst (.cons (.lit (.str "west")) (.cons (.lit (.str "east")) .nil)))) [.im (.int cell),.im (.int w),.im (.int h),.im (.bl lv),.im (.int ext),.un]=some (.lst [.str a.str,.str b.str]):=by subst ha hb;cases lv<;>simp only[zz,yy,aA,aB,di]<;>rfl
  rcases mod2 (cell / 2) with q|q
  ·refine⟨a,(cell / 4 % 2 == 1),(1+cell / 8 % ((ext:Int)-1)).toNat,by lia,by rw[up_a];lia,?_⟩
   refine aR (ρ:=[.im (.int cell),.im (.int w),.im (.int h),.un,.un,.un]) rfl (aJ (aV (e3.trans (by rw[h1]))) (aJ (aV e4) (aJ (aV e5) (bA ?_))))
   show ev G _ [.im (.int cell),.im (.int w),.im (.int h),.im (.bl lv),.im (.int ext),.im (.lst [.str a.str,.str b.str])]=_
   simp only[zz,yy,aA,aB,d2,m2,q,s01,d4,d8,mx];unfold fA;rw[hk]
  ·refine⟨b,(cell / 4 % 2 == 1),(1+cell / 8 % ((ext:Int)-1)).toNat,by lia,by rw[up_b];lia,?_⟩
   refine aR (ρ:=[.im (.int cell),.im (.int w),.im (.int h),.un,.un,.un]) rfl (aJ (aV (e3.trans (by rw[h1]))) (aJ (aV e4) (aJ (aV e5) (bA ?_))))
   show ev G _ [.im (.int cell),.im (.int w),.im (.int h),.im (.bl lv),.im (.int ext),.im (.lst [.str a.str,.str b.str])]=_
   simp only[zz,yy,aA,aB,d2,m2,q,s11,d4,d8,mx];unfold fA;rw[hk]
 cases hb:(((w:Int) == 1) || (decide (1<(h:Int))&&(cell % 2 == 1))) with
 |true =>
  refine fin true h .north .south hb rfl ?_ rfl rfl;rw[or_eq_true,rj,u0,sh]at hb
  rcases hb with hb|hb
  ·have:w=1:=by lia
   subst this;lia
  ·lia
 |false =>
  refine fin false w .west .east hb rfl ?_ rfl rfl;rw[Bool.or_eq_false_iff]at hb;have:(w:Int)≠1:=by simpa using hb.1
  lia
end
end Pg
theorem bS{s:Sl}{r:List Sl}:view (s::r)=cV s::view r:=id rfl
theorem LK{G:GS}{ρ:List Sl}{f:Str}{es:IE}{as:List D}{k:Str}(ha:bF (ev G es (view ρ))=some as)(h:G.fn f as=some (.er k))(hx:G.xn k=true):ex G (.drop (.call f es)) ρ=some (.er k):=by
 show (match ev G (.call f es) (view ρ) with|some _=>some (Out.nx ρ)|none=>match gw G (.call f es) (view ρ) with|some (.er k)=>if G.xn k then some (Out.er k) else none|_=>none)=_
 rw[kT,ha];show (match iL (G.fn f as) with|some _=>some (Out.nx ρ)|none=>match (bF (ev G es (view ρ))).bind (G.fn f) with|some (.er k)=>if G.xn k then some (Out.er k) else none|_=>none)=_
 rw[ha,h];show (match G.fn f as with|some (.er k)=>if G.xn k then some (Out.er k) else none|_=>none)=_
 rw[h];exact if_pos hx
namespace Pg
def Full(s:aZ):Prop:=∀h∈s,h≠[]
def jU(T:Table):Prop:=∀s∈T,Full s
theorem getD_mem{s:aZ}{k:Nat}(h:k<s.length):s.getD k []∈s:=by
 rw[q9,qt h];exact ve h
theorem Full.turn{s:aZ}{u:Bool}(h:Full s):Full (dU u s):=by
 intro x hx;unfold dU at hx;obtain⟨y,hy,rfl⟩:=u7.mp hx;unfold eE;intro z;exact h y hy (by simpa using z)
theorem Full.tog{u l:aZ}(h1:Full u)(h2:Full l):Full (tog u l):=by
 intro x hx;unfold Pg.tog at hx;obtain⟨k,hk,rfl⟩:=u7.mp hx;have hk:=v8.mp hk
 intro z;have z:=List.append_eq_nil_iff.mp z
 by_cases e:k<u.length
 ·exact h1 _ (getD_mem e) z.1
 ·exact h2 _ (getD_mem (by lia)) z.2
theorem Full.sub{s t:aZ}(h:Full s)(q:∀x∈t,x∈s):Full t:=fun x hx=>h x (q x hx)
theorem zF{sd:Side}{over:Bool}{c:Nat}{s:aZ}(h:Full s):Full (cY sd over c s):=by
 have a1:Full (s.take c).reverse:=h.sub fun x hx=>mem_of_mem_take (mem_reverse.mp hx)
 have a2:Full (s.drop c):=h.sub fun x hx=>mem_of_mem_drop hx
 have t:∀{u l:aZ},Full u→Full l→Full (bV u l over):=fun {u l} p q=>by
  unfold bV;cases over with
  |true=>exact p.tog q
  |false=>exact q.tog p
 unfold cY;split
 ·exact t a1.turn a2
 ·exact(t a2.turn a1).sub fun x hx=>mem_reverse.mp hx
theorem jU.transp{T:Table}{w h:Nat}(r:Rect T w h)(f:jU T):jU (transp T):=by
 intro s hs;unfold Pg.transp at hs;obtain⟨x,hx,rfl⟩:=u7.mp hs;have hx:=v8.mp hx
 intro y hy;obtain⟨t,ht,rfl⟩:=u7.mp hy;exact f t ht _ (getD_mem (by rw[r.row t ht,←r.width];exact hx))
theorem jU.foldT{T:Table}{w h:Nat}{sd:Side}{over:Bool}{c:Nat}(r:Rect T w h)(f:jU T)(h1:1≤c)(h2:c<if sd.up then w else h):jU (foldT sd over c T):=by
 have g:∀{U:Table},jU U→jU (U.map (cY sd over c)):=fun {U} q s hs=>by
  obtain⟨s',c7,rfl⟩:=u7.mp hs;exact zF (q s' c7)
 unfold Pg.foldT;cases hu:sd.up with
 |true=>exact g f
 |false =>
  rw[hu]at h2;exact(g (f.transp r)).transp (r.transp.fold h1 h2)
theorem FY{c r:Nat}:jU (fB c r):=by
 intro s hs;unfold fB at hs;obtain⟨y,_,rfl⟩:=u7.mp hs;intro h hh;obtain⟨x,_,rfl⟩:=u7.mp hh;exact List.cons_ne_nil _ _
structure Spot where
 x:Nat
 y:Nat
 z:Int
 e:Bool
 n:Bool
noncomputable def aj(T:Table)(x y:Nat):cM:=(T.getD y []).getD x []
noncomputable def bp(sp:List Spot)(k:Int):Int:=match sp[k.toNat]? with
 |some s=>s.z
 |none=>0
structure Lk (T:Table) (sp:List Spot):Prop where
 mem:∀(x y:Nat) (c:Cell),c∈aj T x y↔∃(i:Nat) (s:Spot),sp[i]?=some s∧s.x=x∧s.y=y∧c=((i:Int),s.e,s.n)
 ord:∀x y:Nat,(aj T x y).Pairwise (fun a b=>bp sp b.1<bp sp a.1)
noncomputable def Spot.al(up:Bool)(s:Spot):Nat:=if up then s.x else s.y
noncomputable def Spot.ac(up:Bool)(s:Spot):Nat:=if up then s.y else s.x
noncomputable def sO(c p:Nat):Nat:=if c≤p then p-c else c-1-p
noncomputable def dY(nr:Bool)(c gr p:Nat):Nat:=if nr then sO c p else gr-1-sO c p
noncomputable def moves(nr:Bool)(c p:Nat):Bool:=decide (c≤p) != nr
noncomputable def cX(sd:Side)(over:Bool)(c gr:Nat)(top low:Int)(s:Spot):Spot:=
 {x:=if sd.up then dY sd.near c gr (s.al sd.up) else s.x
  y:=if sd.up then s.y else dY sd.near c gr (s.al sd.up)
  z:=if moves sd.near c (s.al sd.up) then(if over then 2*top+1-s.z else 2*low-1-s.z) else s.z
  e:=if moves sd.near c (s.al sd.up)&&sd.up then !s.e else s.e
  n:=if moves sd.near c (s.al sd.up)&&!sd.up then !s.n else s.n }
theorem kF{sd:Side}{over:Bool}{c gr:Nat}{top low:Int}{s:Spot}:(cX sd over c gr top low s).al sd.up=dY sd.near c gr (s.al sd.up):=by
 unfold cX Spot.al;cases sd.up<;>rfl
theorem nO{sd:Side}{over:Bool}{c gr:Nat}{top low:Int}{s:Spot}:(cX sd over c gr top low s).ac sd.up=s.ac sd.up:=by
 unfold cX Spot.ac;cases sd.up<;>rfl
noncomputable def hA(up:Bool)(T:Table)(p q:Nat):cM:=if up then aj T p q else aj T q p
theorem getD_map{α β:Type}{f:α→β}{l:List α}{k:Nat}{d:β}{d':α}(h:f d'=d):(l.map f).getD k d=f (l.getD k d'):=by
 rw[q9,q9,qu];cases l[k]?<;>simp[h]
theorem getD_none{α:Type}{l:List α}{k:Nat}{d:α}(h:l.length≤k):l.getD k d=d:=by
 rw[q9,List.getElem?_eq_none h];rfl
theorem pQ{u:Bool}:eE u []=[]:=rfl
theorem vE{s:aZ}{c k:Nat}(hc:c≤s.length):(s.take c).reverse.getD k []=if k<c then s.getD (c-1-k) [] else []:=by
 by_cases h:k<c
 ·rw[if_pos h,q9,List.getElem?_reverse (by rw[ud];lia),ud,min_eq_left hc,List.getElem?_take,if_pos (by lia),q9]
 ·rw[if_neg h];exact getD_none (by rw[va,ud];lia)
theorem cQ{s:aZ}{c k:Nat}:(s.drop c).getD k []=s.getD (c+k) []:=by
 rw[q9,getElem?_drop,q9]
theorem HA{u l:aZ}{k:Nat}:(tog u l).getD k []=u.getD k []++l.getD k []:=by
 by_cases h:k<max u.length l.length
 ·unfold tog;rw[q9,qu,uv h];rfl
 ·rw[getD_none (by rw[rO];lia),getD_none (by lia),getD_none (by lia)];rfl
noncomputable def qH(over:Bool)(m s:cM):cM:=if over then m++s else s++m
theorem lZ{m s:aZ}{over:Bool}{k:Nat}:(bV m s over).getD k []=qH over (m.getD k []) (s.getD k []):=by
 unfold bV qH;cases over
 ·exact HA
 ·exact HA
theorem uS{u:Bool}{p:aZ}{k:Nat}:(dU u p).getD k []=eE u (p.getD k []):=by unfold dU;exact getD_map pQ
noncomputable def dj(c g:Nat)(s:Nat→cM):cM:=if g<c then s (c-1-g) else []
noncomputable def yJ(sd:Side)(over:Bool)(c g:Nat)(s:Nat→cM):cM:=qH over (eE sd.up (if sd.near then dj c g s else s (c+g))) (if sd.near then s (c+g) else dj c g s)
theorem KY{sd:Side}{over:Bool}{c:Nat}{s:aZ}(hc:c≤s.length){k:Nat}(hk:k<max c (s.length-c)) :
  (cY sd over c s).getD k []=yJ sd over c (if sd.near then k else max c (s.length-c)-1-k) fun j=>s.getD j []:=by
 unfold cY yJ dj;cases hn:sd.near with
 |true =>
  simp only[if_true];rw[lZ,uS,vE hc,cQ]
 |false =>
  simp only[r8,if_false];have hl:(bV (dU sd.up (s.drop c)) (s.take c).reverse over).length=max c (s.length-c):=by
   rw[gU,gM,va,ud,vd,min_eq_left hc,Nat.max_comm]
  rw[q9,List.getElem?_reverse (by rw[hl];exact hk),hl,←q9,lZ,uS,vE hc,cQ]
theorem pS{T:Table}{w h:Nat}(r:Rect T w h){x y:Nat}:aj (transp T) x y=aj T y x:=by
 unfold aj
 by_cases hy:y<w
 ·have e1:(transp T).getD y []=T.map fun s=>s.getD y []:=by
   unfold transp;rw[r.width,q9,qu,uv hy];rfl
  rw[e1];exact getD_map (f:=fun s:aZ=>s.getD y []) (by simp)
 ·rw[show (transp T).getD y []=[] from getD_none (by unfold transp;rw[qv,sj,r.width];lia)]
  rw[show ([]:aZ).getD x []=[] by simp]
  by_cases hx:x<T.length
  ·have hm:T.getD x []∈T:=by rw[q9,qt hx];exact ve hx
   rw[getD_none (by rw[r.row _ hm];lia)]
  ·rw[getD_none (l:=T) (by lia)];simp
noncomputable def ext(sd:Side)(w h:Nat):Nat:=if sd.up then w else h
theorem zA{T:Table}{w h:Nat}(r:Rect T w h){sd:Side}{p q:Nat}(hp:ext sd w h≤p):hA sd.up T p q=[]:=by
 unfold hA;unfold ext at hp;unfold aj;cases hu:sd.up with
 |true =>
  rw[hu]at hp;simp only[if_true]at hp ⊢
  by_cases hq:q<T.length
  ·have hm:T.getD q []∈T:=by rw[q9,qt hq];exact ve hq
   exact getD_none (by rw[r.row _ hm];exact hp)
  ·rw[getD_none (l:=T) (by lia)];simp
 |false =>
  rw[hu]at hp;simp only[r8,if_false]at hp ⊢;rw[getD_none (l:=T) (by rw[r.len];exact hp)];simp
theorem BH{T:Table}{w h:Nat}(r:Rect T w h){sd:Side}{over:Bool}{c:Nat}(h1:1≤c)(h2:c<ext sd w h){p q:Nat}(hp:p<max c (ext sd w h-c)) :
  hA sd.up (foldT sd over c T) p q=yJ sd over c (if sd.near then p else max c (ext sd w h-c)-1-p) fun j=>hA sd.up T j q:=by
 have key:∀{U:Table} {w h:Nat},Rect U w h→c<w→∀{p q:Nat},p<max c (w-c)→aj (U.map (cY sd over c)) p q=yJ sd over c (if sd.near then p else max c (w-c)-1-p) fun j=>aj U j q:=by
  intro U w h r h2 p q hp;unfold aj
  by_cases hq:q<U.length
  ·have hm:U.getD q []∈U:=by rw[q9,qt hq];exact ve hq
   have hw:=r.row _ hm
   have e1:(U.map (cY sd over c)).getD q []=cY sd over c (U.getD q []):=by
    rw[q9,qu,q9,qt hq];rfl
   rw[e1,KY (by lia) (by rw[hw];exact hp),hw]
  ·rw[getD_none (l:=U.map (cY sd over c)) (by rw[qv];lia),getD_none (l:=U) (by lia)]
   unfold yJ dj qH;simp[pQ]
 unfold hA foldT;unfold ext at h2 hp ⊢;cases hu:sd.up with
 |true =>
  rw[hu]at h2 hp;simp only[if_true]at h2 hp ⊢;exact key r h2 hp
 |false =>
  rw[hu]at h2 hp;simp only[r8,if_false]at h2 hp ⊢;rw[pS (r.transp.fold h1 h2),key r.transp h2 hp]
  congr 1
  funext j
  exact pS r
theorem zC{c p ex:Nat}(h1:1≤c)(hp:p<ex):sO c p<max c (ex-c):=by
 unfold sO;split<;>lia
theorem place_lt{nr:Bool}{c p ex:Nat}(h1:1≤c)(hp:p<ex):dY nr c (max c (ex-c)) p<max c (ex-c):=by
 have:=zC h1 hp
 unfold dY;split<;>lia
theorem rN{u:Bool}{c:Cell}:(fZ u c).1=c.1:=by unfold fZ;cases u<;>rfl
theorem vW{u:Bool}{h:cM}{c:Cell}:c∈eE u h↔fZ u c∈h:=by
 have inv:∀d:Cell,fZ u (fZ u d)=d:=fun d=>by unfold fZ;cases u<;>simp
 unfold eE;rw[u7];constructor
 ·rintro⟨d,hd,rfl⟩;rw[inv];exact mem_reverse.mp hd
 ·intro hc;exact⟨_,mem_reverse.mpr hc,inv c⟩
theorem zQ{sp:List Spot}{f:Spot→Spot}{i:Nat}{s:Spot}(h:sp[i]?=some s):bp (sp.map f) (i:Int)=(f s).z:=by
 unfold bp;rw[Int.toNat_natCast,qu,h];rfl
theorem rF{sp:List Spot}{i:Nat}{s:Spot}(h:sp[i]?=some s):bp sp (i:Int)=s.z:=by
 unfold bp;rw[Int.toNat_natCast,h]
section
variable {T:Table}{w h:Nat}{sp:List Spot}
theorem Lk.memA(L:Lk T sp)(up:Bool){p q:Nat}{c:Cell}:c∈hA up T p q↔∃(i:Nat) (s:Spot),sp[i]?=some s∧s.al up=p∧s.ac up=q∧c=((i:Int),s.e,s.n):=by
 unfold hA Spot.al Spot.ac;cases up with
 |true=>exact L.mem p q c
 |false =>
  refine(L.mem q p c).trans ⟨fun⟨i,s,a,b,d,e⟩=>⟨i,s,a,d,b,e⟩,fun⟨i,s,a,b,d,e⟩=>⟨i,s,a,d,b,e⟩⟩
theorem Lk.of{up:Bool}(h1:∀(p q:Nat) (c:Cell),c∈hA up T p q↔∃(i:Nat) (s:Spot),sp[i]?=some s∧s.al up=p∧s.ac up=q∧c=((i:Int),s.e,s.n))(h2:∀p q:Nat,(hA up T p q).Pairwise (fun a b=>bp sp b.1<bp sp a.1)):Lk T sp:=by
 cases up with
 |true=>exact⟨h1,h2⟩
 |false=>exact⟨fun x y c=>(h1 y x c).trans ⟨fun⟨i,s,a,b,d,e⟩=>⟨i,s,a,d,b,e⟩,fun⟨i,s,a,b,d,e⟩=>⟨i,s,a,d,b,e⟩⟩,fun x y=>h2 y x⟩
theorem Lk.al_lt(L:Lk T sp)(r:Rect T w h)(sd:Side){i:Nat}{s:Spot}(e:sp[i]?=some s):s.al sd.up<ext sd w h:=by
 refine Nat.lt_of_not_le fun z=>?_
 have:=(L.memA sd.up (p:=s.al sd.up) (q:=s.ac sd.up) (c:=((i:Int),s.e,s.n))).mpr ⟨i,s,e,rfl,rfl,rfl⟩
 rw[zA r z]at this;cases this
theorem Lk.fold(L:Lk T sp)(r:Rect T w h){sd:Side}{over:Bool}{c:Nat}{top low:Int}(h1:1≤c)(h2:c<ext sd w h)(ht:∀s∈sp,s.z≤top)(hl:∀s∈sp,low≤s.z) :
  Lk (foldT sd over c T) (sp.map (cX sd over c (max c (ext sd w h-c)) top low)):=by
 have get:∀{i:Nat} {s':Spot},(sp.map (cX sd over c (max c (ext sd w h-c)) top low))[i]?=some s'→∃s,sp[i]?=some s∧s'=cX sd over c (max c (ext sd w h-c)) top low s:=fun {i s'} e=>by
  rw[qu]at e;obtain⟨s,a,b⟩:=rq.mp e;exact⟨s,a,b.symm⟩
 have mvP:∀{p' p:Nat},p'<ext sd w h→dY sd.near c (max c (ext sd w h-c)) p'=p→moves sd.near c p'=true→p<max c (ext sd w h-c) →
   p'=(if sd.near then c-1-p else c+(max c (ext sd w h-c)-1-p))∧(sd.near=true→p<c):=by
  intro p' p q0 q1 q2 q3;have:=zC h1 q0
  unfold moves at q2;unfold dY at q1;cases hn:sd.near with
  |true =>
   rw[hn]at q1 q2;simp only[if_true]at q1 ⊢;simp only[bne_iff_ne,ne_eq,sh]at q2;unfold sO at q1;rw[if_neg q2]at q1;exact⟨by lia,fun _=>by lia⟩
  |false =>
   rw[hn]at q1 q2;simp only[r8,if_false]at q1 ⊢;simp only[bne_iff_ne,ne_eq,decide_eq_false_iff_not,Classical.not_not]at q2;unfold sO at q1 this;rw[if_pos q2]at q1 this;exact⟨by lia,fun z=>absurd z (by decide)⟩
 have stP:∀{p' p:Nat},p'<ext sd w h→dY sd.near c (max c (ext sd w h-c)) p'=p→moves sd.near c p'=false→p<max c (ext sd w h-c) →
   p'=(if sd.near then c+p else c-1-(max c (ext sd w h-c)-1-p))∧(sd.near=false→max c (ext sd w h-c)-1-p<c):=by
  intro p' p q0 q1 q2 q3;have:=zC h1 q0
  unfold moves at q2;unfold dY at q1;cases hn:sd.near with
  |true =>
   rw[hn]at q1 q2;simp only[if_true]at q1 ⊢;simp only[bne_eq_false_iff_eq,sh]at q2;unfold sO at q1;rw[if_pos q2]at q1;exact⟨by lia,fun z=>absurd z (by decide)⟩
  |false =>
   rw[hn]at q1 q2;simp only[r8,if_false]at q1 ⊢;simp only[bne_eq_false_iff_eq,decide_eq_false_iff_not]at q2;unfold sO at q1 this;rw[if_neg q2]at q1 this;exact⟨by lia,fun _=>by lia⟩
 have bk:∀{p' p:Nat},p<max c (ext sd w h-c)→p'<ext sd w h→(p'=(if sd.near then c-1-p else c+(max c (ext sd w h-c)-1-p))∧(sd.near=true→p<c)→moves sd.near c p'=true∧dY sd.near c (max c (ext sd w h-c)) p'=p) ∧
   (p'=(if sd.near then c+p else c-1-(max c (ext sd w h-c)-1-p))∧(sd.near=false→max c (ext sd w h-c)-1-p<c)→moves sd.near c p'=false∧dY sd.near c (max c (ext sd w h-c)) p'=p):=by
  intro p' p q3 q0;unfold moves dY sO;cases hn:sd.near with
  |true =>
   simp only[if_true];refine⟨fun⟨a,b⟩=>?_,fun⟨a,b⟩=>?_⟩
   ·have:=b trivial
    have z:¬c≤p':=by lia
    rw[qy z,if_neg z];exact⟨rfl,by lia⟩
   ·have z:c≤p':=by lia
    rw[tw z,if_pos z];exact⟨rfl,by lia⟩
  |false =>
   simp only[r8,if_false];refine⟨fun⟨a,b⟩=>?_,fun⟨a,b⟩=>?_⟩
   ·have z:c≤p':=by lia
    rw[tw z,if_pos z];exact⟨rfl,by lia⟩
   ·have:=b trivial
    have z:¬c≤p':=by lia
    rw[qy z,if_neg z];exact⟨rfl,by lia⟩
 have mvI:∀{p q:Nat} {d:Cell},p<max c (ext sd w h-c)→(d∈(if sd.near then dj c (if sd.near then p else max c (ext sd w h-c)-1-p) (fun j=>hA sd.up T j q) else hA sd.up T (c+(if sd.near then p else max c (ext sd w h-c)-1-p)) q) ↔
   ∃(i:Nat) (s:Spot),sp[i]?=some s∧moves sd.near c (s.al sd.up)=true∧dY sd.near c (max c (ext sd w h-c)) (s.al sd.up)=p∧s.ac sd.up=q∧d=((i:Int),s.e,s.n)):=by
  intro p q d hp;constructor
  ·intro hd;have:∃p',d∈hA sd.up T p' q∧p'=(if sd.near then c-1-p else c+(max c (ext sd w h-c)-1-p))∧(sd.near=true→p<c):=by
    cases hn:sd.near with
    |true =>
     rw[hn]at hd;simp only[if_true,dj]at hd
     by_cases hq:p<c
     ·rw[if_pos hq]at hd;exact⟨_,hd,rfl,fun _=>hq⟩
     ·rw[if_neg hq]at hd;cases hd
    |false =>
     rw[hn]at hd;simp only[r8,if_false]at hd;exact⟨_,hd,rfl,fun z=>absurd z (by decide)⟩
   obtain⟨p',hd,e1,e2⟩:=this;obtain⟨i,s,a1,a2,a3,a4⟩:=(L.memA sd.up).mp hd;have b:=(bk (p':=p') hp (by rw[←a2];exact L.al_lt r sd a1)).1 ⟨e1,e2⟩
   rw[←a2]at b;exact⟨i,s,a1,b.1,b.2,a3,a4⟩
  ·rintro⟨i,s,a1,a2,a3,a4,a5⟩;have b:=mvP (L.al_lt r sd a1) a3 a2 hp
   have hd:=(L.memA sd.up (p:=s.al sd.up) (q:=q) (c:=d)).mpr ⟨i,s,a1,rfl,a4,a5⟩
   rw[b.1]at hd;cases hn:sd.near with
   |true =>
    rw[hn]at hd b;simp only[if_true,dj]at hd ⊢;rw[if_pos (b.2 rfl)];exact hd
   |false =>
    rw[hn]at hd;simp only[r8,if_false]at hd ⊢;exact hd
 have stI:∀{p q:Nat} {d:Cell},p<max c (ext sd w h-c)→(d∈(if sd.near then hA sd.up T (c+(if sd.near then p else max c (ext sd w h-c)-1-p)) q else dj c (if sd.near then p else max c (ext sd w h-c)-1-p) (fun j=>hA sd.up T j q)) ↔
   ∃(i:Nat) (s:Spot),sp[i]?=some s∧moves sd.near c (s.al sd.up)=false∧dY sd.near c (max c (ext sd w h-c)) (s.al sd.up)=p∧s.ac sd.up=q∧d=((i:Int),s.e,s.n)):=by
  intro p q d hp;constructor
  ·intro hd;have:∃p',d∈hA sd.up T p' q∧p'=(if sd.near then c+p else c-1-(max c (ext sd w h-c)-1-p))∧(sd.near=false→max c (ext sd w h-c)-1-p<c):=by
    cases hn:sd.near with
    |true =>
     rw[hn]at hd;simp only[if_true]at hd;exact⟨_,hd,rfl,fun z=>absurd z (by decide)⟩
    |false =>
     rw[hn]at hd;simp only[r8,if_false,dj]at hd
     by_cases hq:max c (ext sd w h-c)-1-p<c
     ·rw[if_pos hq]at hd;exact⟨_,hd,rfl,fun _=>hq⟩
     ·rw[if_neg hq]at hd;cases hd
   obtain⟨p',hd,e1,e2⟩:=this;obtain⟨i,s,a1,a2,a3,a4⟩:=(L.memA sd.up).mp hd;have b:=(bk (p':=p') hp (by rw[←a2];exact L.al_lt r sd a1)).2 ⟨e1,e2⟩
   rw[←a2]at b;exact⟨i,s,a1,b.1,b.2,a3,a4⟩
  ·rintro⟨i,s,a1,a2,a3,a4,a5⟩;have b:=stP (L.al_lt r sd a1) a3 a2 hp
   have hd:=(L.memA sd.up (p:=s.al sd.up) (q:=q) (c:=d)).mpr ⟨i,s,a1,rfl,a4,a5⟩
   rw[b.1]at hd;cases hn:sd.near with
   |true =>
    rw[hn]at hd;simp only[if_true]at hd ⊢;exact hd
   |false =>
    rw[hn]at hd b;simp only[r8,if_false,dj]at hd ⊢;rw[if_pos (b.2 rfl)];exact hd
 refine Lk.of (up:=sd.up) (fun p q d=>?_) fun p q=>?_
 ·by_cases hp:p<max c (ext sd w h-c)
  ·rw[BH r h1 h2 hp];unfold yJ qH;have sw:∀a b:cM,d∈(if over then a++b else b++a)↔d∈a∨d∈b:=fun a b=>by cases over<;>simp[or_comm]
   rw[sw,vW,mvI hp,stI hp];constructor
   ·rintro (⟨i,s,a1,a2,a3,a4,a5⟩|⟨i,s,a1,a2,a3,a4,a5⟩)
    ·refine⟨i,cX sd over c (max c (ext sd w h-c)) top low s,by rw[qu,a1];rfl,by rw[kF];exact a3,by rw[nO];exact a4,?_⟩
     have inv:d=fZ sd.up (fZ sd.up d):=by unfold fZ;cases sd.up<;>simp
     rw[inv,a5];unfold fZ cX;dsimp only;rw[a2];cases sd.up<;>rfl
    ·refine⟨i,cX sd over c (max c (ext sd w h-c)) top low s,by rw[qu,a1];rfl,by rw[kF];exact a3,by rw[nO];exact a4,?_⟩
     rw[a5];unfold cX;dsimp only;rw[a2];rfl
   ·rintro⟨i,s',a1,a2,a3,a4⟩;obtain⟨s,e1,rfl⟩:=get a1;rw[kF]at a2;rw[nO]at a3;cases hm:moves sd.near c (s.al sd.up) with
    |true =>
     refine .inl ⟨i,s,e1,hm,a2,a3,?_⟩;rw[a4];unfold fZ cX;dsimp only;rw[hm];cases sd.up<;>simp
    |false =>
     refine .inr ⟨i,s,e1,hm,a2,a3,?_⟩;rw[a4];unfold cX;dsimp only;rw[hm];rfl
  ·constructor
   ·intro hd;have r':=r.foldT (over:=over) h1 h2
    rw[zA r' (by unfold ext;unfold ext at hp;cases hu:sd.up<;>rw[hu]at hp<;>simp only[if_true,r8,if_false]at hp ⊢<;>lia)]at hd
    cases hd
   ·rintro⟨i,s',a1,a2,a3,a4⟩;obtain⟨s,e1,rfl⟩:=get a1;rw[kF]at a2;exact absurd (a2 ▸ place_lt h1 (L.al_lt r sd e1)) hp
 ·by_cases hp:p<max c (ext sd w h-c)
  ·rw[BH r h1 h2 hp];unfold yJ;have ordA:∀j,(hA sd.up T j q).Pairwise (fun a b=>bp sp b.1<bp sp a.1):=fun j=>by
    unfold hA;cases sd.up
    ·exact L.ord q j
    ·exact L.ord j q
   have ordL:∀g,(dj c g fun j=>hA sd.up T j q).Pairwise (fun a b=>bp sp b.1<bp sp a.1):=fun g=>by
    unfold dj;split
    ·exact ordA _
    ·exact List.Pairwise.nil
   have mvZ:∀{d:Cell},d∈(if sd.near then dj c (if sd.near then p else max c (ext sd w h-c)-1-p) (fun j=>hA sd.up T j q) else hA sd.up T (c+(if sd.near then p else max c (ext sd w h-c)-1-p)) q) →
     bp (sp.map (cX sd over c (max c (ext sd w h-c)) top low)) d.1=(if over then 2*top+1-bp sp d.1 else 2*low-1-bp sp d.1)∧bp sp d.1≤top∧low≤bp sp d.1:=fun {d} hd=>by
    obtain⟨i,s,a1,a2,a3,a4,a5⟩:=(mvI hp).mp hd;rw[a5];dsimp only;rw[zQ a1,rF a1];refine⟨?_,ht s (qq a1),hl s (qq a1)⟩;unfold cX;dsimp only;rw[a2];rfl
   have stZ:∀{d:Cell},d∈(if sd.near then hA sd.up T (c+(if sd.near then p else max c (ext sd w h-c)-1-p)) q else dj c (if sd.near then p else max c (ext sd w h-c)-1-p) (fun j=>hA sd.up T j q)) →
     bp (sp.map (cX sd over c (max c (ext sd w h-c)) top low)) d.1=bp sp d.1∧bp sp d.1≤top∧low≤bp sp d.1:=fun {d} hd=>by
    obtain⟨i,s,a1,a2,a3,a4,a5⟩:=(stI hp).mp hd;rw[a5];dsimp only;rw[zQ a1,rF a1];refine⟨?_,ht s (qq a1),hl s (qq a1)⟩;unfold cX;dsimp only;rw[a2];rfl
   have mvO:(if sd.near then dj c (if sd.near then p else max c (ext sd w h-c)-1-p) (fun j=>hA sd.up T j q) else hA sd.up T (c+(if sd.near then p else max c (ext sd w h-c)-1-p)) q).Pairwise (fun a b=>bp sp b.1<bp sp a.1):=by
    split
    ·exact ordL _
    ·exact ordA _
   have stO:(if sd.near then hA sd.up T (c+(if sd.near then p else max c (ext sd w h-c)-1-p)) q else dj c (if sd.near then p else max c (ext sd w h-c)-1-p) (fun j=>hA sd.up T j q)).Pairwise (fun a b=>bp sp b.1<bp sp a.1):=by
    split
    ·exact ordA _
    ·exact ordL _
   generalize (if sd.near then dj c (if sd.near then p else max c (ext sd w h-c)-1-p) (fun j=>hA sd.up T j q) else hA sd.up T (c+(if sd.near then p else max c (ext sd w h-c)-1-p)) q)=mv at *
   generalize (if sd.near then hA sd.up T (c+(if sd.near then p else max c (ext sd w h-c)-1-p)) q else dj c (if sd.near then p else max c (ext sd w h-c)-1-p) (fun j=>hA sd.up T j q))=st at *
   have mvO':(eE sd.up mv).Pairwise (fun a b=>bp (sp.map (cX sd over c (max c (ext sd w h-c)) top low)) b.1<bp (sp.map (cX sd over c (max c (ext sd w h-c)) top low)) a.1):=by
    unfold eE;rw[pairwise_map,List.pairwise_reverse];refine mvO.imp_of_mem fun {a b} ha hb k=>?_
    rw[rN,rN,(mvZ ha).1,(mvZ hb).1];split<;>lia
   have stO':st.Pairwise (fun a b=>bp (sp.map (cX sd over c (max c (ext sd w h-c)) top low)) b.1<bp (sp.map (cX sd over c (max c (ext sd w h-c)) top low)) a.1):=
    stO.imp_of_mem fun {a b} ha hb k=>by rw[(stZ ha).1,(stZ hb).1];exact k
   have mvM:∀{d:Cell},d∈eE sd.up mv→bp (sp.map (cX sd over c (max c (ext sd w h-c)) top low)) d.1=(if over then 2*top+1-bp sp d.1 else 2*low-1-bp sp d.1)∧bp sp d.1≤top∧low≤bp sp d.1:=fun {d} hd=>by
    have:=mvZ (vW.mp hd)
    rw[rN]at this;exact this
   unfold qH;cases over with
   |true =>
    refine vg.mpr ⟨mvO',stO',fun a ha b hb=>?_⟩
    have k1:=mvM ha
    have k2:=stZ hb
    rw[k1.1,k2.1];simp only[if_true];lia
   |false =>
    refine vg.mpr ⟨stO',mvO',fun a ha b hb=>?_⟩
    have k1:=mvM hb
    have k2:=stZ ha
    rw[k1.1,k2.1];simp only[r8,if_false];lia
  ·have r':=r.foldT (over:=over) h1 h2
   rw[zA r' (by unfold ext;unfold ext at hp;cases hu:sd.up<;>rw[hu]at hp<;>simp only[if_true,r8,if_false]at hp ⊢<;>lia)]
   exact List.Pairwise.nil
end
end Pg
theorem dJ{x y:Int×Int}:cw x y=true↔x.1<y.1∨(x.1=y.1∧x.2<y.2):=by
 unfold cw;simp only[or_eq_true,rj,sh,u0]
theorem mX{x y:Int×Int}:cw x y=false↔¬(x.1<y.1∨(x.1=y.1∧x.2<y.2)):=by rw[←dJ,Bool.not_eq_true]
theorem lQ(x:Int×Int):∀l:List (Int×Int),(yY x l).Perm (x::l)
 |[]=>List.Perm.refl _
 |y::r=>by
  unfold yY;split
  ·exact List.Perm.refl _
  ·exact((lQ x r).cons y).trans (List.Perm.swap x y r)
theorem gW:∀l:List (Int×Int),(iO l).Perm l
 |[]=>List.Perm.refl _
 |x::r=>(lQ x _).trans ((gW r).cons x)
theorem mO{x:Int×Int}:∀{l:List (Int×Int)},l.Pairwise (fun a b=>cw a b=true)→x∉l→(yY x l).Pairwise (fun a b=>cw a b=true)
 |[],_,_=>by unfold yY;simp
 |y::r,h,n=>by
  obtain⟨h1,h2⟩:=vf.mp h;unfold yY;split
  ·rename_i e;refine vf.mpr ⟨fun z hz=>?_,h⟩
   rcases sv.mp hz with rfl|hz
   ·exact e
   ·have:=h1 z hz
    rw[dJ]at this e ⊢;lia
  ·rename_i e;rw[Bool.not_eq_true]at e;refine vf.mpr ⟨fun z hz=>?_,mO h2 fun z=>n (rg _ z)⟩
   rcases sv.mp ((lQ x r).mem_iff.mp hz) with rfl|hz
   ·have d6:z≠y:=fun q=>n (by rw[q];simp)
    rw[mX]at e;rw[dJ];have:¬(z.1=y.1∧z.2=y.2):=fun q=>d6 (Prod.ext q.1 q.2)
    lia
   ·exact h1 z hz
theorem kG:∀{l:List (Int×Int)},l.Nodup→(iO l).Pairwise (fun a b=>cw a b=true)
 |[],_=>List.Pairwise.nil
 |x::r,h=>by
  obtain⟨h1,h2⟩:=nodup_cons.mp h;exact mO (kG h2) fun z=>h1 ((gW r).mem_iff.mp z)
theorem nP{l m:List (Int×Int)}(p:m.Perm l)(h:m.Pairwise (fun a b=>cw a b=true)):m=iO l:=by
 have nd:m.Nodup:=h.imp fun {a b} e q=>by subst q;rw[dJ]at e;lia
 exact List.Perm.eq_of_pairwise (fun a b _ _ e1 e2=>by rw[dJ]at e1 e2;lia) h (kG (p.nodup_iff.mp nd)) (p.trans (gW l).symm)
theorem qF:∀(r:List Int) (m:Int),(lN m r=m∨lN m r∈r)∧m≤lN m r∧∀a∈r,a≤lN m r
 |[],m=>⟨.inl rfl,Int.le_refl _,fun a h=>by simp at h⟩
 |x::r,m=>by
  obtain⟨h1,h2,h3⟩:=qF r (if x > m then x else m)
  show (lN (if x > m then x else m) r=m∨_)∧m≤lN (if x > m then x else m) r∧_
  have e:lN m (x::r)=lN (if x > m then x else m) r:=rfl
  rw[e];refine⟨?_,?_,fun a ha=>?_⟩
  ·rcases h1 with h|h
   ·split at h
    ·rename_i hx;rw[if_pos hx,h];exact .inr (by simp)
    ·rename_i hx;rw[if_neg hx,h];exact .inl rfl
   ·exact .inr (rg _ h)
  ·split at h2
   ·rename_i hx;rw[if_pos hx];lia
   ·rename_i hx;rw[if_neg hx];exact h2
  ·rcases sv.mp ha with rfl|ha
   ·split at h2
    ·rename_i hx;rw[if_pos hx];exact h2
    ·rename_i hx;rw[if_neg hx];lia
   ·exact h3 a ha
namespace Pg
noncomputable def iX(c r:Nat):List Spot:=(List.range (c*r)).map fun k=>⟨k % c,k / c,0,false,false⟩
section
variable {G:GS}
theorem BI{c r x y:Nat}:aj (fB c r) x y=if x<c∧y<r then [(((y*c+x:Nat):Int),false,false)] else []:=by
 unfold aj fB
 by_cases hy:y<r
 ·have e1:((List.range r).map fun y=>(List.range c).map fun x=>[(((y*c+x:Nat):Int),false,false)]).getD y []=(List.range c).map fun x=>[(((y*c+x:Nat):Int),false,false)]:=by
   rw[q9,qu,uv hy];rfl
  rw[e1]
  by_cases hx:x<c
  ·rw[if_pos ⟨hx,hy⟩,q9,qu,uv hx];rfl
  ·rw[if_neg (fun z=>hx z.1)]
   exact getD_none (by rw[qv,sj];lia)
 ·rw[if_neg (fun z=>hy z.2),getD_none (l:=List.map _ _) (by rw[qv,sj];lia)]
  simp
theorem SY{c r:Nat}(hc:1≤c):Lk (fB c r) (iX c r):=by
 have get:∀{i:Nat} {s:Spot},(iX c r)[i]?=some s↔i<c*r∧s=⟨i % c,i / c,0,false,false⟩:=fun {i s}=>by
  unfold iX;rw[qu]
  by_cases hi:i<c*r
  ·rw[uv hi];simp only[um,qp,hi,true_and];exact eq_comm
  ·rw[List.getElem?_eq_none (by rw[sj];lia)]
   simp[hi]
 refine⟨fun x y d=>?_,fun x y=>?_⟩
 ·rw[BI];constructor
  ·intro h;split at h
   ·rename_i fh;have e:d=(((y*c+x:Nat):Int),false,false):=by simpa using h
    have h1:(y*c+x) % c=x:=by rw[add_comm,Nat.add_mul_mod_self_right];exact Nat.mod_eq_of_lt fh.1
    have h2:(y*c+x) / c=y:=by rw[add_comm,Nat.add_mul_div_right _ _ (by lia),Nat.div_eq_of_lt fh.1];lia
    refine⟨y*c+x,_,get.mpr ⟨?_,rfl⟩,h1,h2,e⟩;have:(y+1)*c≤r*c:=Nat.mul_le_mul_right c (by lia)
    rw[Nat.add_mul,Nat.one_mul]at this;rw[Nat.mul_comm c r];lia
   ·cases h
  ·rintro⟨i,s,a1,rfl,rfl,a4⟩;obtain⟨hi,rfl⟩:=get.mp a1;have h1:i % c<c:=Nat.mod_lt _ (by lia)
   have h2:i / c<r:=by rw[Nat.div_lt_iff_lt_mul (by lia),Nat.mul_comm];exact hi
   rw[if_pos ⟨h1,h2⟩,a4];have:=Nat.div_add_mod i c
   rw[Nat.mul_comm]at this;simp[this]
 ·rw[BI];split
  ·simp
  ·exact List.Pairwise.nil
theorem oH{c r:Nat}:(iX c r).length=c*r:=by unfold iX;simp
theorem LP{a b:Bool}:ah .eq (.bl a) (.bl b)=some (.bl (a == b)):=by cases a<;>cases b<;>rfl
theorem aAP{ρ:List Sl}{x:Nat}{k e:IE}{d:D}{i:Int}{ds:List D}{j:Nat}(h1:ev G e ρ=some d)(h2:ev G k ρ=some (.int i))(h3:ρ[x]?=some (.mu (.lst ds)))(h4:ixN ds.length i=some j):ex G (.put x k e) ρ=some (.nx (ρ.set x (.mu (.lst (ds.set j d))))):=by
 show (dO G e ρ).bind (fun d=>(intOf (dO G k ρ)).bind fun i=>_)=_
 rw[jZ h1,jZ h2];show (match ρ[x]? with|some (.mu o)=>_|_=>_)=_
 rw[h3];show Option.map _ (Option.map _ (ixN ds.length i))=_
 rw[h4];rfl
end
section
variable {G:GS}
theorem ints_map{α:Type}{f:α→Int}:∀{l:List α},gQ (l.map fun a=>D.int (f a))=some (l.map f)
 |[]=>rfl
 |a::l=>by
  simp only[tu,gQ];rw[ints_map];rfl
theorem zN{α:Type}{a b c:α}:atI [a,b,c] 0=some a∧atI [a,b,c] 1=some b∧atI [a,b,c] 2=some c:=⟨rfl,rfl,rfl⟩
noncomputable def isAt(x y:Nat)(s:Spot):Bool:=(s.x == x)&&(s.y == y)
noncomputable def sC(sp:List Spot)(x y i:Nat):Option (Int×Int):=match sp[i]? with
 |some s=>if isAt x y s then some (0-s.z,(i:Int)) else none
 |none=>none
noncomputable def lay(sp:List Spot)(x y k:Nat):List (Int×Int):=(List.range k).filterMap (sC sp x y)
theorem JS{sp:List Spot}{x y k:Nat}:lay sp x y (k+1)=lay sp x y k++(sC sp x y k).toList:=by
 unfold lay;rw[List.range_succ,List.filterMap_append]
 congr 1
noncomputable def FK(sp:List Spot)(c:Cell):Int×Int:=(0-bp sp c.1,c.1)
theorem SG{sp:List Spot}{x y:Nat}{p:Int×Int}:p∈lay sp x y sp.length↔∃(i:Nat) (s:Spot),sp[i]?=some s∧s.x=x∧s.y=y∧p=(0-s.z,(i:Int)):=by
 unfold lay;rw[mem_filterMap];constructor
 ·rintro⟨i,hi,e⟩;unfold sC at e;split at e
  ·rename_i s hs;split at e
   ·rename_i fh;cases e;unfold isAt at fh;rw[rj,u0,u0]at fh;exact⟨i,s,hs,fh.1,fh.2,rfl⟩
   ·cases e
  ·cases e
 ·rintro⟨i,s,hs,rfl,rfl,rfl⟩;refine⟨i,v8.mpr (q8.mp hs).1,?_⟩;unfold sC isAt;rw[hs];simp
theorem FG{sp:List Spot}{x y k:Nat}:(lay sp x y k).Nodup:=by
 have h2:∀{i:Nat} {p:Int×Int},sC sp x y i=some p→p.2=i:=fun {i p} e=>by
  unfold sC at e;split at e
  ·split at e
   ·cases e;rfl
   ·cases e
  ·cases e
 induction k with
 |zero=>exact List.nodup_nil
 |succ k ih =>
  rw[JS];refine nodup_append.mpr ⟨ih,?_,fun a ha b hb=>?_⟩
  ·cases sC sp x y k<;>simp
  ·have dg:sC sp x y k=some b:=by simpa using hb
   unfold lay at ha;obtain⟨i,hi,e⟩:=mem_filterMap.mp ha;intro z;have q1:=h2 e
   have q2:=h2 dg
   rw[z]at q1;have:=v8.mp hi
   lia
theorem JT{T:Table}{sp:List Spot}(L:Lk T sp){x y:Nat}:iO (lay sp x y sp.length)=(aj T x y).map (FK sp):=by
 have pw:((aj T x y).map (FK sp)).Pairwise (fun a b=>cw a b=true):=by
  rw[pairwise_map];refine(L.ord x y).imp fun {a b} h=>?_
  rw[dJ];unfold FK;exact .inl (by dsimp only;lia)
 have nd:((aj T x y).map (FK sp)).Nodup:=pw.imp fun {a b} e q=>by subst q;rw[dJ]at e;lia
 refine(nP ?_ pw).symm;refine(List.perm_ext_iff_of_nodup nd FG).mpr fun p=>?_
 rw[SG,u7];constructor
 ·rintro⟨c,hc,rfl⟩;obtain⟨i,s,a1,a2,a3,a4⟩:=(L.mem x y c).mp hc;refine⟨i,s,a1,a2,a3,?_⟩;subst a4;unfold FK;dsimp only;rw[rF a1]
 ·rintro⟨i,s,a1,a2,a3,rfl⟩;refine⟨((i:Int),s.e,s.n),(L.mem x y _).mpr ⟨i,s,a1,a2,a3,rfl⟩,?_⟩;unfold FK;dsimp only;rw[rF a1]
theorem SH{T:Table}{sp:List Spot}(L:Lk T sp){x y:Nat}:(lay sp x y sp.length).length=(aj T x y).length:=by
 rw[←(gW _).length_eq,JT L,qv]
theorem lT{ρ:List Sl}{x:Nat}{e:IE}{d:D}{ds:List D}(h1:ev G e ρ=some d)(h2:ρ[x]?=some (.mu (.lst ds)))(h3:ds.length<1000000):ex G (.app x e) ρ=some (.nx (ρ.set x (.mu (.lst (ds++[d]))))):=by
 show (dO G e ρ).bind _=_
 rw[jZ h1];show (match ρ[x]? with|some (.mu (.lst ds))=>_|_=>_)=_
 rw[h2];exact if_pos h3
theorem ne_self{d:D}(h1:plain d=true)(h2:b7 d d=true):ah .ne d d=some (.bl false):=by
 show oNe d d=_
 unfold oNe;rw[h1,h2];rfl
theorem cD{b:Bool}:di (.bl b)=some b:=rfl
structure Fold where
 sd:Side
 over:Bool
 k:Nat
noncomputable def Fold.d(f:Fold):D:=fA f.sd f.over f.k
end
structure Sits (T:Table) (w h:Nat) (sp:List Spot):Prop where
 lk:Lk T sp
 rect:Rect T w h
 full:jU T
 w64:w≤64
 h64:h≤64
 len:sp.length≤64
section
variable {G:GS}{T:Table}{w h:Nat}{sp:List Spot}
theorem Sits.xlt(S:Sits T w h sp){s:Spot}(hs:s∈sp):s.x<w:=by
 obtain⟨i,hi,rfl⟩:=getElem_of_mem hs;exact S.lk.al_lt S.rect .west (qt hi)
theorem Sits.ylt(S:Sits T w h sp){s:Spot}(hs:s∈sp):s.y<h:=by
 obtain⟨i,hi,rfl⟩:=getElem_of_mem hs;exact S.lk.al_lt S.rect .north (qt hi)
theorem Sits.some_at(S:Sits T w h sp){x y:Nat}(hx:x<w)(hy:y<h):∃s∈sp,s.x=x∧s.y=y:=by
 have bY:y<T.length:=by rw[S.rect.len];exact hy
 have hm:T.getD y []∈T:=by rw[q9,qt bY];exact ve bY
 have d6:aj T x y≠[]:=S.full _ hm _ (getD_mem (by rw[S.rect.row _ hm];exact hx))
 cases e:aj T x y with
 |nil=>exact absurd e d6
 |cons c r =>
  obtain⟨i,s,a1,a2,a3,_⟩:=(S.lk.mem x y c).mp (by rw[e];simp)
  exact⟨s,qq a1,a2,a3⟩
theorem Sits.ne(S:Sits T w h sp):sp≠[]:=by
 have:=S.rect.w1
 have:=S.rect.h1
 obtain⟨s,hs,_⟩:=S.some_at (x:=0) (y:=0) (by lia) (by lia)
 intro z;rw[z]at hs;cases hs
theorem Lk.short(L:Lk T sp){x y:Nat}:(aj T x y).length≤sp.length:=by
 rw[←SH L];unfold lay;have:=List.length_filterMap_le (sC sp x y) (List.range sp.length)
 rwa [sj]at this
theorem Sits.few(S:Sits T w h sp):pM 64 T:=by
 intro s hs hp hm;obtain⟨y,hy,rfl⟩:=getElem_of_mem hs;obtain⟨x,hx,rfl⟩:=getElem_of_mem hm;have e:aj T x y=T[y][x]:=by
  unfold aj;rw[q9 (l:=T),qt hy];simp[hx]
 rw[←e];exact sr S.lk.short S.len
theorem Sits.fold(S:Sits T w h sp){sd:Side}{over:Bool}{c:Nat}{top low:Int}(h1:1≤c)(h2:c<ext sd w h)(ht:∀s∈sp,s.z≤top)(hl:∀s∈sp,low≤s.z) :
  Sits (foldT sd over c T) (if sd.up then max c (w-c) else w) (if sd.up then h else max c (h-c)) (sp.map (cX sd over c (max c (ext sd w h-c)) top low)):=by
 have a:=S.w64
 have b:=S.h64
 have mj:c<if sd.up then w else h:=h2
 refine⟨S.lk.fold S.rect h1 h2 ht hl,S.rect.foldT h1 h2,S.full.foldT S.rect h1 h2,?_,?_,by rw[qv];exact S.len⟩
 ·split
  ·rename_i hu;rw[if_pos hu]at mj;lia
  ·exact a
 ·split
  ·exact b
  ·rename_i hu;rw[if_neg hu]at mj;lia
theorem FW{c r:Nat}(hc:1≤c)(hr:1≤r)(bg:c*r≤64):Sits (fB c r) c r (iX c r):=
 ⟨SY hc,FX hc hr,FY,sr (Nat.le_mul_of_pos_right c hr) bg,sr (Nat.le_mul_of_pos_left r hc) bg,by rw[oH];exact bg⟩
end
end Pg
theorem dS{i k:Int}{d:D}{r:List (Int×D)}:cC ((i,d)::r) k=if i=k then some d else cC r k:=by
 unfold cC
 by_cases e:i=k
 ·rw[List.find?_cons_of_pos (by simpa using e),if_pos e];rfl
 ·rw[List.find?_cons_of_neg (by simpa using e),if_neg e]
theorem uQ{k:Int}:∀{kvs:List (Int×D)},(kvs.any fun kv=>decide (kv.1=k))=(cC kvs k).isSome
 |[]=>rfl
 | (i,d)::r=>by
  rw[any_cons,dS,uQ (kvs:=r)]
  by_cases e:i=k
  ·rw[if_pos e,tw e];rfl
  ·rw[if_neg e,qy e];rfl
theorem nH{k j:Int}{d:D}:∀{kvs:List (Int×D)},cC (kvs.map fun kv=>if kv.1=k then(kv.1,d) else kv) j=if j=k then(cC kvs j).map fun _=>d else cC kvs j
 |[]=>by
  show none=_
  split<;>rfl
 | (i,e)::r=>by
  rw[tu]
  by_cases h:i=k
  ·rw[if_pos h,dS,dS,nH (kvs:=r)]
   by_cases g:i=j
   ·rw[if_pos g,if_pos g,if_pos (g.symm.trans h)];rfl
   ·rw[if_neg g,if_neg g]
  ·rw[if_neg h,dS,dS,nH (kvs:=r)]
   by_cases g:i=j
   ·rw[if_pos g,if_pos g,if_neg (fun z=>h (g.trans z))]
   ·rw[if_neg g,if_neg g]
theorem pP{k j:Int}{d:D}:∀{kvs:List (Int×D)},cC (kvs++[(k,d)]) j=(cC kvs j).or (if k=j then some d else none)
 |[]=>by
  rw[nil_append,dS];split<;>rfl
 | (i,e)::r=>by
  rw[List.cons_append,dS,dS,pP (kvs:=r)];split<;>rfl
theorem uP{kvs:List (Int×D)}{k j:Int}{d:D}:cC (jW kvs k d) j=if j=k then some d else cC kvs j:=by
 unfold jW;rw[uQ]
 by_cases h:(cC kvs k).isSome=true
 ·rw[if_pos h,nH]
  by_cases e:j=k
  ·subst e;rw[if_pos rfl,if_pos rfl];obtain⟨x,hx⟩:=Option.isSome_iff_exists.mp h;rw[hx];rfl
  ·rw[if_neg e,if_neg e]
 ·rw[if_neg h,pP]
  by_cases e:j=k
  ·subst e;rw[if_pos rfl,if_pos rfl,Option.not_isSome_iff_eq_none.mp h];rfl
  ·rw[if_neg e,if_neg (Ne.symm e)];cases cC kvs j<;>rfl
theorem IC{kvs:List (Int×D)}{k:Int}{d:D}:(jW kvs k d).length≤kvs.length+1:=by
 unfold jW;split
 ·rw[qv];lia
 ·rw[t9];exact qw _
theorem CO{G:GS}{ρ:List Sl}{x:Nat}{k e:IE}{d:D}{i:Int}{kvs:List (Int×D)}(h1:ev G e ρ=some d)(h2:ev G k ρ=some (.int i))(h3:ρ[x]?=some (.mu (.dct kvs)))(h4:kvs.length<1000000):ex G (.put x k e) ρ=some (.nx (ρ.set x (.mu (.dct (jW kvs i d))))):=by
 show (dO G e ρ).bind (fun d=>(intOf (dO G k ρ)).bind fun i=>_)=_
 rw[jZ h1,jZ h2];show (match ρ[x]? with|some (.mu o)=>_|_=>_)=_
 rw[h3];show Option.map _ (if kvs.length<big then some (D.dct (jW kvs i d)) else none)=_
 rw[if_pos (by unfold big;exact h4)];rfl
theorem CN{G:GS}{ρ:List Sl}{x:Nat}:ex G (.setd x) ρ=some (.nx (ρ.set x (.mu (.dct [])))):=id rfl
theorem kS{G:GS}{ρ:List Sl}{x:Nat}{d:D}(h:ρ[x]?=some (.mu d)):ex G (.retm x) ρ=some (.rt d):=by
 show (match ρ[x]? with|some (.mu d)=>some (Out.rt d)|_=>none)=_
 rw[h]
namespace Pg
section
variable {G:GS}{T:Table}{w h:Nat}{sp:List Spot}
noncomputable def CY(s:Spot):Int:=if s.e then s.x else s.x+1
noncomputable def AU(s:Spot):Int:=if s.n then s.y else s.y+1
noncomputable def iR(s:Spot):D:=.tup [.int (CY s),.int (AU s)]
noncomputable def zM:IS:=(.put 1 (.var 4) (.tup (.cons (.ite (.tr (.var 5)) (.var 3) (.bin .add (.var 3) (.lit (.int 1)))) (.cons (.ite (.tr (.var 6)) (.var 2) (.bin .add (.var 2) (.lit (.int 1)))) .nil))))
noncomputable def DK:IS:=(.loop [4,5,6] true .seq (.meth (.var 0) "heap" (.cons (.var 3) (.cons (.var 2) .nil))) zM)
noncomputable def uH:IS:=(.loop [3] false .rng (.tup (.cons (.fld (.var 0) "wide") .nil)) DK)
noncomputable def fI:IS:=(.seq (.setd 1) (.seq (.loop [2] false .rng (.tup (.cons (.fld (.var 0) "high") .nil)) uH) (.retm 1)))
structure Lines (sp:List Spot) (kvs:List (Int×D)) (n:Nat) (P:Nat→Spot→Prop):Prop where
 ok:∀(k:Int) (d:D),cC kvs k=some d→∃(i:Nat) (s:Spot),k=i∧sp[i]?=some s∧d=iR s
 has:∀(i:Nat) (s:Spot),sp[i]?=some s→P i s→(cC kvs i).isSome=true
 len:kvs.length≤n
theorem Lines.put{kvs:List (Int×D)}{n:Nat}{P Q:Nat→Spot→Prop}(L:Lines sp kvs n P){i:Nat}{s:Spot}(hs:sp[i]?=some s)(h:∀j t,sp[j]?=some t→Q j t→P j t∨j=i):Lines sp (jW kvs i (iR s)) (n+1) Q:=by
 refine⟨fun k d e=>?_,fun j t ht hq=>?_,sr IC (Nat.succ_le_succ L.len)⟩
 ·rw[uP]at e
  by_cases z:k=i
  ·rw[if_pos z]at e;cases e;exact⟨i,s,z,hs,rfl⟩
  ·rw[if_neg z]at e;exact L.ok k d e
 ·rw[uP]
  by_cases z:(j:Int)=i
  ·rw[if_pos z];rfl
  ·rw[if_neg z]
   rcases h j t ht hq with g|g
   ·exact L.has j t ht g
   ·exact absurd (by rw[g]) z
theorem Lines.mono{kvs:List (Int×D)}{n m:Nat}{P Q:Nat→Spot→Prop}(L:Lines sp kvs n P)(hm:n≤m)(h:∀j t,sp[j]?=some t→Q j t→P j t):Lines sp kvs m Q:=
 ⟨L.ok,fun i s hs hq=>L.has i s hs (h i s hs hq),sr L.len hm⟩
theorem Lines.at_{kvs:List (Int×D)}{n:Nat}{P:Nat→Spot→Prop}(L:Lines sp kvs n P){i:Nat}{s:Spot}(hs:sp[i]?=some s)(hp:P i s):cC kvs i=some (iR s):=by
 obtain⟨d,hd⟩:=Option.isSome_iff_exists.mp (L.has i s hs hp);obtain⟨j,t,e,ht,rfl⟩:=L.ok _ _ hd;have:j=i:=by exact_mod_cast e.symm
 subst this;rw[hs]at ht;cases ht;exact hd
noncomputable def eu(P:D)(kvs:List (Int×D))(a b c d e:Sl):List Sl:=[.im P,.mu (.dct kvs),a,b,c,d,e]
theorem pI(hf:G.fl "Pile" = cx)
  (hhp:∀(c r w h:Nat) (T:Table) (F S:List D) (x y:Nat),Rect T w h→x<w→y<h→G.me "Pile" "heap" [aL c r w h T F S,.int x,.int y]=some (.ok (hE (aj T x y))))
  {c r:Nat} {F C:List D} (S:Sits T w h sp):∃kvs,aU G 7 fI [aL c r w h T F C]=some (.ok (.dct kvs))∧∀(i:Nat) (s:Spot),sp[i]?=some s→cC kvs i=some (iR s):=by
 have w64:=S.w64
 have h64:=S.h64
 have e0:∀r',ev G (.var 0) (.im (aL c r w h T F C)::r')=some (bN c r w h (T.map sE) F C):=fun _=>by simp only[zz,yy];rfl
 have cells:∀(x y n:Nat) (kvs:List (Int×D)) (P:Nat→Spot→Prop) (s4 s5 s6:Sl),x<w→y<h→n+64<1000000→Lines sp kvs n P →
   ∃ρ',eV (bJ [4,5,6] true) (ex G zM) ((aj T x y).map dm) (eu (aL c r w h T F C) kvs (.im (.int y)) (.im (.int x)) s4 s5 s6)=some (.nx ρ')∧∃ak t4 t5 t6,ρ'=eu (aL c r w h T F C) ak (.im (.int y)) (.im (.int x)) t4 t5 t6∧Lines sp ak (n+64) (fun i s=>P i s∨(s.x=x∧s.y=y)):=by
  intro x y n kvs P s4 s5 s6 hx hy hn L;have hl:(aj T x y).length≤64:=sr S.lk.short S.len
  obtain⟨ρ',a,ak,t4,t5,t6,b,L'⟩:=eL (bind:=bJ [4,5,6] true) (body:=ex G zM) (fun k ρ=>∃ak t4 t5 t6,ρ=eu (aL c r w h T F C) ak (.im (.int y)) (.im (.int x)) t4 t5 t6∧Lines sp ak (n+k) (fun i s=>P i s∨((i:Int),s.e,s.n)∈(aj T x y).take k))
   (ds:=(aj T x y).map dm) (k:=0) (ρ:=eu (aL c r w h T F C) kvs (.im (.int y)) (.im (.int x)) s4 s5 s6) ⟨kvs,s4,s5,s6,rfl,L.mono (by lia) fun j t _ q=>q.elim id fun z=>by simp at z⟩ (by
    rintro k d ρ hd ⟨ak,t4,t5,t6,rfl,L'⟩;rw[qu]at hd;obtain⟨cl,az,rfl⟩:=rq.mp hd;have hk:k<(aj T x y).length:=(q8.mp az).1
    obtain⟨i,s,hs,sx,sy,rfl⟩:=(S.lk.mem x y cl).mp (qq az);refine⟨eu (aL c r w h T F C) ak (.im (.int y)) (.im (.int x)) (.im (.int i)) (.im (.bl s.e)) (.im (.bl s.n)),rfl,_,CO (kvs:=ak) (i:=i) (d:=iR s) ?_ ?_ rfl (by have:=L'.len;lia),jW ak i (iR s),_,_,_,rfl,?_⟩
    ·unfold eu iR CY AU;rw[sx,sy];cases s.e<;>cases s.n<;>(simp only[zz,yy,aA,aB,cD];rfl)
    ·unfold eu;simp only[zz,yy]
    ·refine(L'.put hs fun j t ht q=>?_).mono (by lia) fun _ _ _ q=>q
     rcases q with q|q
     ·exact .inl (.inl q)
     ·rw[t8,uy,az]at q
      rcases vh.mp q with q|q
      ·exact .inl (.inr (by rw[t8];exact q))
      ·refine .inr ?_;have q:((j:Int),t.e,t.n)=((i:Int),s.e,s.n):=by simpa using q
       have q:(j:Int)=i:=congrArg (·.1) q
       exact_mod_cast q)
  refine⟨ρ',a,ak,t4,t5,t6,b,L'.mono (by rw[qv];lia) fun j t ht q=>q.imp id fun⟨q1,q2⟩=>?_⟩
  rw[qv,t8,vb];exact(S.lk.mem x y _).mpr ⟨j,t,ht,q1,q2,rfl⟩
 have row:∀(y n:Nat) (kvs:List (Int×D)) (P:Nat→Spot→Prop) (s3 s4 s5 s6:Sl),y<h→n+64*64+64<1000000→Lines sp kvs n P →
   ∃ρ',ex G uH (eu (aL c r w h T F C) kvs (.im (.int y)) s3 s4 s5 s6)=some (.nx ρ')∧∃ak t3 t4 t5 t6,ρ'=eu (aL c r w h T F C) ak (.im (.int y)) t3 t4 t5 t6∧Lines sp ak (n+64*64) (fun i s=>P i s∨s.y=y):=by
  intro y n kvs P s3 s4 s5 s6 hy hn L;obtain⟨ρ',a,ak,t3,t4,t5,t6,b,L'⟩:=eL (bind:=bJ [3] false) (body:=ex G DK) (fun k ρ=>∃ak t3 t4 t5 t6,ρ=eu (aL c r w h T F C) ak (.im (.int y)) t3 t4 t5 t6∧Lines sp ak (n+k*64) (fun i s=>P i s∨(s.y=y∧s.x<k)))
   (ds:=(List.range w).map fun (k:Nat)=>D.int k) (k:=0) (ρ:=eu (aL c r w h T F C) kvs (.im (.int y)) s3 s4 s5 s6) ⟨kvs,s3,s4,s5,s6,rfl,L.mono (by lia) fun j t _ q=>q.elim id fun z=>by lia⟩ (by
    rintro x d ρ hd ⟨ak,t3,t4,t5,t6,rfl,L'⟩;rw[qu]at hd;obtain⟨x',dw,rfl⟩:=rq.mp hd;have hx:x<w:=by have:=(q8.mp dw).1;rwa [sj]at this
    obtain rfl:x=x':=by rw[uv hx]at dw;exact rn dw
    rw[t8]at L';have bx:n+x*64+64<1000000:=by have:x*64≤64*64:=Nat.mul_le_mul_right 64 (by lia);lia
    obtain⟨ρ2,l2,kvs2,u4,u5,u6,rfl,L2⟩:=cells x y _ ak _ t4 t5 t6 hx hy bx L';refine⟨eu (aL c r w h T F C) ak (.im (.int y)) (.im (.int x)) t4 t5 t6,rfl,_,(dN (d:=hE (aj T x y)) ?_ eJ).trans l2,kvs2,_,u4,u5,u6,rfl,L2.mono (by lia) fun j t ht q=>?_⟩
    ·exact yG (c:=c) (r:=r) (w:=w) (h:=h) (T:=T.map sE) (F:=F) (S:=C) (ds:=[.int x,.int y]) rfl (e0 _) (by simp only[zz,yy,aA,aB]) (hhp c r w h T F C x y S.rect hx hy)
    ·rcases q with q|⟨q1,q2⟩
     ·exact .inl (.inl q)
     ·by_cases z:t.x=x
      ·exact .inr ⟨z,q1⟩
      ·exact .inl (.inr ⟨q1,by lia⟩))
  refine⟨ρ',(dN (d:=.tup [.int ((w:Nat):Int)]) ?_ (fC (by lia))).trans a,ak,t3,t4,t5,t6,b,L'.mono ?_ fun j t ht q=>q.imp id fun q=>⟨q,?_⟩⟩
  ·unfold eu;rw[tU,bQ,hJ hf (e0 _)];simp only[zz,yy,aA,aB]
  ·rw[qv,sj];have:(0+w)*64≤64*64:=Nat.mul_le_mul_right 64 (by lia)
   lia
  ·rw[qv,sj,t8];exact S.xlt (qq ht)
 obtain⟨ρ',a,ak,t2,t3,t4,t5,t6,rfl,L'⟩:=eL (bind:=bJ [2] false) (body:=ex G uH) (fun k ρ=>∃ak t2 t3 t4 t5 t6,ρ=eu (aL c r w h T F C) ak t2 t3 t4 t5 t6∧Lines sp ak (k*(64*64)) (fun i s=>s.y<k))
  (ds:=(List.range h).map fun (k:Nat)=>D.int k) (k:=0) (ρ:=eu (aL c r w h T F C) [] .un .un .un .un .un) ⟨[],.un,.un,.un,.un,.un,rfl,⟨fun _ _ z=>(nomatch (show none=some _ from z)),fun _ _ _ z=>absurd z (Nat.not_lt_zero _),v9 _⟩⟩ (by
   rintro y d ρ hd ⟨ak,t2,t3,t4,t5,t6,rfl,L'⟩;rw[qu]at hd;obtain⟨y',bY,rfl⟩:=rq.mp hd;have hy:y<h:=by have:=(q8.mp bY).1;rwa [sj]at this
   obtain rfl:y=y':=by rw[uv hy]at bY;exact rn bY
   rw[t8]at L';have by_:y*(64*64)+64*64+64<1000000:=by have:y*(64*64)≤64*(64*64):=Nat.mul_le_mul_right _ (by lia);lia
   obtain⟨ρ2,l2,kvs2,u3,u4,u5,u6,rfl,L2⟩:=row y _ ak _ t3 t4 t5 t6 hy by_ L';exact⟨eu (aL c r w h T F C) ak (.im (.int y)) t3 t4 t5 t6,rfl,_,l2,kvs2,_,u3,u4,u5,u6,rfl,L2.mono (by lia) fun j t ht q=>by lia⟩)
 refine⟨ak,aR (ρ:=[.im (aL c r w h T F C),.un,.un,.un,.un,.un,.un]) rfl (aJ CN (aJ ((dN (d:=.tup [.int ((h:Nat):Int)]) ?_ (fC (by lia))).trans a) (kS rfl))),fun i s hs=>L'.at_ hs ?_⟩
 ·simp only[List.set];rw[tU,bQ,hU hf (e0 _)];simp only[zz,yy,aA,aB]
 ·rw[qv,sj,t8];exact S.ylt (qq hs)
end
end Pg
theorem HM{α:Type}{l:List α}{x:Nat}{a:α}(h:l[x]?=some a):l.set x a=l:=by
 apply List.ext_getElem?;intro i
 by_cases e:x=i
 ·subst e;rw[sk (q8.mp h).1,h]
 ·rw[so e]
theorem wO{G:GS}{ρ:List Sl}{x:Nat}{t e:IE}{b:Bool}{d:D}{ds:List D}(ht:ev G t (view ρ)=some (.bl b))(he:ev G e ρ=some d)(hx:ρ[x]?=some (.mu (.lst ds)))(hl:ds.length<1000000):ex G (.iff t (.app x e) .nop) ρ=some (.nx (ρ.set x (.mu (.lst (ds++if b then [d] else []))))):=by
 cases b with
 |true=>exact jQ ht (Pg.lT he hx hl)
 |false =>
  rw[cZ ht aX,if_neg (by decide),tj,HM hx]
theorem FS{bind:D→List Sl→Option (List Sl)}{body:List Sl→Option Out}(P:Nat→List Sl→Prop){n:Nat}{ρ:List Sl}(h0:P 0 ρ)(st:∀k,k<n→∀ρ,P k ρ→∃ρ1,bind (.int (k:Nat)) ρ=some ρ1∧∃ρ2,body ρ1=some (.nx ρ2)∧P (k+1) ρ2) :
  ∃ρ',eV bind body ((List.range n).map fun (k:Nat)=>D.int k) ρ=some (.nx ρ')∧P n ρ':=by
 obtain⟨ρ',a,b⟩:=eL (bind:=bind) (body:=body) P (ds:=(List.range n).map fun (k:Nat)=>D.int k) (k:=0) h0 fun k d ρ hd hp=>by
  rw[qu]at hd;obtain⟨k',gf,rfl⟩:=rq.mp hd;have hk:k<n:=by have:=(q8.mp gf).1;rwa [sj]at this
  obtain rfl:k=k':=by rw[uv hk]at gf;exact rn gf
  rw[t8]at hp ⊢;exact st k hk ρ hp
 exact⟨ρ',a,by rw[qv,sj,t8]at b;exact b⟩
theorem gS{α:Type}{enc:α→D}{bind:D→List Sl→Option (List Sl)}{body:List Sl→Option Out}(P:Nat→List Sl→Prop){L:List α}{ρ:List Sl}(h0:P 0 ρ)(st:∀k a,L[k]?=some a→∀ρ,P k ρ→∃ρ1,bind (enc a) ρ=some ρ1∧∃ρ2,body ρ1=some (.nx ρ2)∧P (k+1) ρ2) :
  ∃ρ',eV bind body (L.map enc) ρ=some (.nx ρ')∧P L.length ρ':=by
 obtain⟨ρ',a,b⟩:=eL (bind:=bind) (body:=body) P (ds:=L.map enc) (k:=0) h0 fun k d ρ hd hp=>by
  rw[qu]at hd;obtain⟨x,hx,rfl⟩:=rq.mp hd;rw[t8]at hp ⊢;exact st k x hx ρ hp
 exact⟨ρ',a,by rw[qv,t8]at b;exact b⟩
namespace Pg
section
variable {G:GS}{T:Table}{w h:Nat}{sp:List Spot}
noncomputable def b9(c n k:Nat):List (Nat×Nat×Bool):=(if decide (k % c<c-1) then [(k,k+1,false)] else [])++(if decide (k+c<n) then [(k,k+c,true)] else [])
noncomputable def ef(c n k:Nat):List (Nat×Nat×Bool):=(List.range k).flatMap (b9 c n)
theorem vQ{c n k:Nat}:ef c n (k+1)=ef c n k++b9 c n k:=by
 unfold ef;rw[List.range_succ,List.flatMap_append,List.flatMap_cons,List.flatMap_nil,tj]
theorem RW{c n k:Nat}:(b9 c n k).length≤2:=by
 unfold b9;rw[t9];split<;>split<;>simp
theorem mZ{c n:Nat}:∀k,(ef c n k).length≤2*k
 | 0=>v9 _
 |k+1=>by
  rw[vQ,t9];have:=mZ (c:=c) (n:=n) k
  have:=RW (c:=c) (n:=n) (k:=k)
  lia
theorem aAe{c n k:Nat}{j:Nat×Nat×Bool}(h:j∈ef c n k):j.1<k:=by
 unfold ef at h;obtain⟨i,hi,hj⟩:=mem_flatMap.mp h;have hi:=v8.mp hi
 unfold b9 at hj
 rcases vh.mp hj with q|q<;>(split at q<;>first|(simp only[su]at q;rw[q];exact hi)|(simp at q))
theorem mW{α:Type}{a b:α}:atI [a,b] 0=some a∧atI [a,b] 1=some b:=⟨rfl,rfl⟩
noncomputable def jm(j:Nat×Nat×Bool):D:=.tup [.int j.1,.int j.2.1,.bl j.2.2]
noncomputable def SE(sp:List Spot)(k:Nat)(l:Bool):Int:=match sp[k]? with
 |some s=>if l then AU s else CY s
 |none=>0
noncomputable def jD(sp:List Spot)(j:Nat×Nat×Bool):D:=.tup [.int j.1,.int j.2.1,.bl j.2.2,.int (SE sp j.1 j.2.2)]
noncomputable def jsE(sp:List Spot)(c r:Nat):D:=.lst ((ef c (c*r) (c*r)).map (jD sp))
theorem RV{c n k:Nat}{α:Type}{f:Nat×Nat×Bool→α}:(b9 c n k).map f=(if decide (k % c<c-1) then [f (k,k+1,false)] else [])++(if decide (k+c<n) then [f (k,k+c,true)] else []):=by
 unfold b9;rw[ux];cases decide (k % c<c-1)<;>cases decide (k+c<n)<;>rfl
noncomputable def fG:IS:=(.seq (.set 2 (.bin .mul (.var 0) (.var 1))) (.seq (.setm 3 (.lst .nil)) (.seq (.loop [4] false .rng (.tup (.cons (.var 2) .nil)) (.seq (.iff (.bin .lt (.bin .mod (.var 4) (.var 0)) (.bin .sub (.var 0) (.lit (.int 1)))) (.app 3 (.tup (.cons (.var 4) (.cons (.bin .add (.var 4) (.lit (.int 1))) (.cons (.lit (.bl false)) .nil))))) .nop) (.iff (.bin .lt (.bin .add (.var 4) (.var 0)) (.var 2)) (.app 3 (.tup (.cons (.var 4) (.cons (.bin .add (.var 4) (.var 0)) (.cons (.lit (.bl true)) .nil))))) .nop))) (.retm 3))))
theorem SC{a b:Nat}(h:0<b):ah .mod (.int (a:Int)) (.int (b:Int))=some (.int ((a % b:Nat):Int)):=(kL (by lia)).trans (by rw[Int.natCast_emod])
theorem nA{a b:Nat}(h:a≤1000000):ah .mul (.int (a:Int)) (.int (b:Int))=some (.int ((a*b:Nat):Int)):=(mH (by lia) (by lia)).trans (by rw[Int.natCast_mul])
theorem UB{a b:Nat}(hb:1≤b):decide ((a:Int)<(b:Int)-1)=decide (a<b-1):=decide_eq_decide.mpr (by lia)
theorem pF{c r:Nat}(hc:1≤c)(bg:c*r≤64)(iN:c≤64):aU G 5 fG [.int c,.int r]=some (.ok (.lst ((ef c (c*r) (c*r)).map jm))):=by
 refine aR (ρ:=[.im (.int c),.im (.int r),.un,.un,.un]) rfl ?_;refine aJ (aV (d:=.int ((c*r:Nat):Int)) (by simp only[zz,yy,aA,aB,nA (show c≤1000000 by lia)])) (aJ (kR (ds:=[]) (by simp only[zz,yy,aB])) ?_)
 simp only[List.set];obtain⟨ρ',l,s4,rfl⟩:=FS (bind:=bJ [4] false) (body:=ex G (.seq (.iff (.bin .lt (.bin .mod (.var 4) (.var 0)) (.bin .sub (.var 0) (.lit (.int 1)))) (.app 3 (.tup (.cons (.var 4) (.cons (.bin .add (.var 4) (.lit (.int 1))) (.cons (.lit (.bl false)) .nil))))) .nop) (.iff (.bin .lt (.bin .add (.var 4) (.var 0)) (.var 2)) (.app 3 (.tup (.cons (.var 4) (.cons (.bin .add (.var 4) (.var 0)) (.cons (.lit (.bl true)) .nil))))) .nop)))
  (fun k ρ=>∃s4,ρ=[.im (.int c),.im (.int r),.im (.int ((c*r:Nat):Int)),.mu (.lst ((ef c (c*r) k).map jm)),s4]) (n:=c*r) (ρ:=[.im (.int c),.im (.int r),.im (.int ((c*r:Nat):Int)),.mu (.lst []),.un]) ⟨_,rfl⟩ (by
   rintro k hk ρ ⟨s4,rfl⟩;have hl:=mZ (c:=c) (n:=c*r) k
   refine⟨_,rfl,_,aJ (wO (b:=decide (k % c<c-1)) (d:=jm (k,k+1,false)) ?_ ?_ rfl (by rw[qv];lia)) (wO (b:=decide (k+c<c*r)) (d:=jm (k,k+c,true)) ?_ ?_ rfl ?_),.im (.int k),?_⟩
   ·simp only[List.set];simp only[zz,yy,aA,aB,SC hc,UB hc]
   ·simp only[List.set];simp only[zz,yy,aA,aB];rfl
   ·simp only[List.set];simp only[zz,yy,aA,aB];exact congrArg (fun b=>some (D.bl b)) (decide_eq_decide.mpr (by lia))
   ·simp only[List.set];simp only[zz,yy,aA,aB];rfl
   ·rw[t9,qv];split<;>simp<;>lia
   ·simp only[List.set,vQ,ux,se,RV])
 exact aJ ((dN (d:=.tup [.int ((c*r:Nat):Int)]) (by simp only[zz,yy,aA,aB]) (fC (by lia))).trans l) (kS rfl)
noncomputable def aFE:IS:=(.app 2 (.tup (.cons (.var 3) (.cons (.var 4) (.cons (.var 5) (.cons (.ite (.tr (.var 5)) (.ix (.ix (.var 1) (.var 3)) (.lit (.int 1))) (.ix (.ix (.var 1) (.var 3)) (.lit (.int 0)))) .nil))))))
noncomputable def fJ:IS:=(.seq (.set 1 (.call "edge_lines" (.cons (.var 0) .nil))) (.seq (.setm 2 (.lst .nil)) (.seq (.loop [3,4,5] true .seq (.call "neighbours" (.cons (.fld (.var 0) "columns") (.cons (.fld (.var 0) "rows") .nil))) aFE) (.retm 2))))
theorem SD{k:Nat}{s:Spot}{l:Bool}(h:sp[k]?=some s):SE sp k l=if l then AU s else CY s:=by unfold SE;rw[h]
theorem pL(hf:G.fl "Pile" = cx){c r:Nat}{F C:List D}{kvs:List (Int×D)}(hel:G.fn "edge_lines" [aL c r w h T F C]=some (.ok (.dct kvs)))(hk:∀(i:Nat) (s:Spot),sp[i]?=some s→cC kvs i=some (iR s))
  (hnb:G.fn "neighbours" [.int c,.int r]=some (.ok (.lst ((ef c (c*r) (c*r)).map jm)))) (bg:c*r≤64) (bq:sp.length=c*r):aU G 6 fJ [aL c r w h T F C]=some (.ok (jsE sp c r)):=by
 have e0:∀r',ev G (.var 0) (.im (aL c r w h T F C)::r')=some (bN c r w h (T.map sE) F C):=fun _=>by simp only[zz,yy];rfl
 refine aR (ρ:=[.im (aL c r w h T F C),.un,.un,.un,.un,.un]) rfl ?_;refine aJ (aV (d:=.dct kvs) (by simp only[zz,yy,aA,aB,hel])) (aJ (kR (ds:=[]) (by simp only[zz,yy,aB])) ?_)
 simp only[List.set];have hl:=mZ (c:=c) (n:=c*r) (c*r)
 obtain⟨ρ',l,s3,s4,s5,rfl⟩:=gS (enc:=jm) (bind:=bJ [3,4,5] true) (body:=ex G aFE) (fun k ρ=>∃s3 s4 s5,ρ=[.im (aL c r w h T F C),.im (.dct kvs),.mu (.lst (((ef c (c*r) (c*r)).take k).map (jD sp))),s3,s4,s5])
  (L:=ef c (c*r) (c*r)) (ρ:=[.im (aL c r w h T F C),.im (.dct kvs),.mu (.lst []),.un,.un,.un]) ⟨_,_,_,rfl⟩ (by
   rintro k j hj ρ ⟨s3,s4,s5,rfl⟩;have ha:j.1<sp.length:=by rw[bq];exact aAe (qq hj)
   have hs:=qt ha
   refine⟨[.im (aL c r w h T F C),.im (.dct kvs),.mu (.lst (((ef c (c*r) (c*r)).take k).map (jD sp))),.im (.int j.1),.im (.int j.2.1),.im (.bl j.2.2)],rfl,_,lT (d:=jD sp j) ?_ rfl (by rw[qv,ud];lia),.im (.int j.1),.im (.int j.2.1),.im (.bl j.2.2),?_⟩
   ·have hv:=hk j.1 _ hs
    unfold jD;rw[SD hs];cases hb:j.2.2
    ·simp only[zz,yy,aA,aB,cD,hv,iR,mW.1,mW.2];rfl
    ·simp only[zz,yy,aA,aB,cD,hv,iR,mW.1,mW.2];rfl
   ·rw[uy,hj,ux];rfl)
 rw[vb]at l;refine aJ ((dN (d:=.lst ((ef c (c*r) (c*r)).map jm)) ?_ eJ).trans l) (kS rfl);rw[kT,bQ,lL hf (e0 _),bQ,yF hf (e0 _)];simp only[zz,yy,aA,aB,hnb]
noncomputable def kM:IS:=(.ret true (.comp 3 [(2,0)] [1] false .seq (.call "all_joints" (.cons (.var 0) .nil)) (.bin .notin (.sl (.var 1) false (.lit .non) true (.lit (.int 2))) (.fld (.var 2) "severed")) (.var 1)))
end
end Pg
theorem xE{α:Type}{f:D→Option (Option D)}{enc g:α→D}{p:α→Bool}:∀{L:List α},(∀a∈L,f (enc a)=some (if p a then some (g a) else none))→bU f (L.map enc)=some ((L.filter p).map g)
 |[],_=>rfl
 |a::r,e=>by
  rw[tu];unfold bU;rw[e a (ur),xE fun x hx=>e x (rg _ hx)]
  cases h:p a
  ·rw[List.filter_cons_of_neg (by simp[h])];rfl
  ·rw[List.filter_cons_of_pos (by simp[h])];rfl
theorem wR{α:Type}{G:GS}{ρ:List Sl}{n:Nat}{fr:List (Nat×Nat)}{tg:List Nat}{tp:Bool}{k:Src}{src test elt:IE}{s:D}{L:List α}(enc g:α→D)(p:α→Bool)(h1:ev G src ρ=some s)(h2:items k s=some (L.map enc))
  (h3:∀a∈L,∃ρ1,bJ tg tp (enc a) (frame n fr ρ)=some ρ1∧ev G test ρ1=some (.bl (p a))∧ev G elt ρ1=some (g a)):ev G (.comp n fr tg tp k src test elt) ρ=some (.lst ((L.filter p).map g)):=by
 rw[tW,h1,uo,h2,uo,xE (g:=g) (p:=p)]
 ·rfl
 ·intro a ha;obtain⟨ρ1,e1,e2,e3⟩:=h3 a ha;rw[e1,uo,e2,uo];cases p a
  ·rfl
  ·show Option.map some (ev G elt ρ1)=_
   rw[e3];rfl
theorem wX{α:Type}{f:α→D}:∀{L:List α},(∀a,b7 (f a) (f a)=true)→kU (L.map f) (L.map f)=true
 |[],_=>by rw[map_nil,kU]
 |a::r,h=>by rw[tu,kU,h a,wX (L:=r) h];rfl
theorem EO{α:Type}{f:α→D}{L:List α}(h:∀a,flat 7 (f a)=true):plain (.lst (L.map f))=true:=by
 show (L.map f).all (flat 7)=true
 rw[List.all_map];exact all_eq_true.mpr fun a _=>h a
theorem UA{xs ys:List D}:b7 (.lst xs) (.lst ys)=kU xs ys:=by rw[b7]
namespace Pg
section
variable {G:GS}
noncomputable def BE:IS:=(.seq (.set 3 (.ite (.tr (.var 1)) (.fld (.var 0) "high") (.fld (.var 0) "wide"))) (.seq (.iff (.or (.bin .lt (.var 2) (.lit (.int 0))) (.bin .gt (.var 2) (.var 3))) (.rse "NoPlace") .nop) (.seq (.set 4 (.comp 4 [(2,1),(3,2)] [1] false .seq (.call "joints" (.cons (.var 0) .nil)) (.bin .eq (.sl (.var 1) true (.lit (.int 2)) false (.lit .non)) (.tup (.cons (.var 2) (.cons (.var 3) .nil)))) (.sl (.var 1) false (.lit .non) true (.lit (.int 2))))) (.ret false (.mk "Pile" (.cons (.fld (.var 0) "columns") (.cons (.fld (.var 0) "rows") (.cons (.fld (.var 0) "table") (.cons (.fld (.var 0) "folds") (.cons (.bin .add (.fld (.var 0) "severed") (.bcall .tuple (.cons (.var 4) .nil))) .nil))))))))))
theorem pT{a b c d:D}:cut [a,b,c,d] (some 2) none=[c,d]:=rfl
theorem TZ{a b:Bool}{i j:Int}:ah .eq (.tup [.bl a,.int i]) (.tup [.bl b,.int j])=some (.bl ((a == b)&&(i == j))):=by
 show oEq _ _=_
 unfold oEq;rw[show (plain (.tup [.bl a,.int i])&&plain (.tup [.bl b,.int j]))=true from rfl]
 simp[b7,kU]
noncomputable def HE(p:Table×Nat×Nat)(f:Fold):Table×Nat×Nat:=(foldT f.sd f.over f.k p.1,if f.sd.up then max f.k (p.2.1-f.k) else p.2.1,if f.sd.up then p.2.2 else max f.k (p.2.2-f.k))
noncomputable def runs(c r:Nat)(fs:List Fold):Table×Nat×Nat:=fs.foldl HE (fB c r,c,r)
theorem lF{c r:Nat}{fs:List Fold}{f:Fold}:runs c r (fs++[f])=HE (runs c r fs) f:=by unfold runs;rw[List.foldl_append];rfl
noncomputable def dP(c r:Nat)(fs:List Fold):D:=aL c r (runs c r fs).2.1 (runs c r fs).2.2 (runs c r fs).1 (fs.map Fold.d) []
structure Stg (c r:Nat) (fs:List Fold) (sp:List Spot):Prop where
 sits:Sits (runs c r fs).1 (runs c r fs).2.1 (runs c r fs).2.2 sp
 len:sp.length=c*r
def Fits(c r:Nat)(fs:List Fold)(f:Fold):Prop:=1≤f.k∧f.k<ext f.sd (runs c r fs).2.1 (runs c r fs).2.2
theorem Stg.fold{c r:Nat}{fs:List Fold}{sp:List Spot}(S:Stg c r fs sp){f:Fold}{top low:Int}(ok:Fits c r fs f)(ht:∀s∈sp,s.z≤top)(hl:∀s∈sp,low≤s.z) :
  Stg c r (fs++[f]) (sp.map (cX f.sd f.over f.k (max f.k (ext f.sd (runs c r fs).2.1 (runs c r fs).2.2-f.k)) top low)):=by
 refine⟨?_,by rw[qv];exact S.len⟩
 rw[lF];exact S.sits.fold ok.1 ok.2 ht hl
structure Stgs (c r:Nat) (fs:List Fold) (sps:List (List Spot)):Prop where
 len:sps.length=fs.length+1
 at_:∀i sp,sps[i]?=some sp→Stg c r (fs.take i) sp
 ok:∀i f,fs[i]?=some f→Fits c r (fs.take i) f
theorem FU(o8:∀(c r w h:Nat) (T:Table) (F:List D) (sd:Side) (over:Bool) (k:Nat),Rect T w h→w≤1000→h≤1000→pM 400000 T→1≤k→(k<if sd.up then w else h)→F.length≤1000 →
   G.fn "folded" [aL c r w h T F [],.str sd.str,.bl over,.int k]=some (.ok (aL c r (if sd.up then max k (w-k) else w) (if sd.up then h else max k (h-k)) (foldT sd over k T) (F++[fA sd over k]) [])))
  {c r:Nat} {fs:List Fold} {sp:List Spot} (S:Stg c r fs sp) {f:Fold} (ok:Fits c r fs f) (hl:fs.length≤1000):G.fn "folded" [dP c r fs,.str f.sd.str,.bl f.over,.int f.k]=some (.ok (dP c r (fs++[f]))):=by
 have a:=S.sits.w64
 have b:=S.sits.h64
 unfold dP;rw[o8 c r _ _ _ _ f.sd f.over f.k S.sits.rect (by lia) (by lia) (fun s hs x hx=>sr (S.sits.few s hs x hx) (by decide)) ok.1 ok.2 (by rw[qv];exact hl),lF,ux]
 rfl
end
section
variable {G:GS}
noncomputable def pD(p:Nat×Nat):D:=.tup [.int p.1,.int p.2]
noncomputable def pairOf(j:Nat×Nat×Bool):Nat×Nat:=(j.1,j.2.1)
noncomputable def left(c n:Nat)(ao:List (Nat×Nat)):List (Nat×Nat×Bool):=(ef c n n).filter fun j=>!ao.contains (pairOf j)
noncomputable def JA(sp:List Spot)(l:Bool)(n:Int)(j:Nat×Nat×Bool):Bool:=(j.2.2 == l)&&(SE sp j.1 j.2.2 == n)
noncomputable def iJ(c n:Nat)(sp:List Spot)(ao:List (Nat×Nat))(l:Bool)(k:Int):List (Nat×Nat):=((left c n ao).filter (JA sp l k)).map pairOf
theorem aBc{p q:Nat×Nat}:b7 (pD p) (pD q)=(p == q):=by
 unfold pD;obtain⟨a,b⟩:=p;obtain⟨c,d⟩:=q;simp only[b7,kU,Bool.and_true];rw[Bool.eq_iff_iff];simp;lia
theorem EZ{p:Nat×Nat}{ao:List (Nat×Nat)}:ah .notin (pD p) (.tup (ao.map pD))=some (.bl (!ao.contains p)):=by
 show (if (plain (pD p)&&(ao.map pD).all plain)=true then some (D.bl (!(ao.map pD).any fun y=>b7 y (pD p))) else none)=_
 rw[if_pos]
 ·congr 2
  rw[List.any_map]
  congr 1
  rw[List.contains_eq_any_beq]
  congr 1
  funext q
  show b7 (pD q) (pD p)=(p == q)
  rw[aBc,Bool.beq_comm]
 ·rw[rj];exact⟨rfl,all_eq_true.mpr fun x hx=>by obtain⟨y,_,rfl⟩:=u7.mp hx;rfl⟩
theorem yT(hf:G.fl "Pile" = cx){c r w h:Nat}{T:Table}{F:List D}{sp:List Spot}{ao:List (Nat×Nat)}(haj:G.fn "all_joints" [aL c r w h T F (ao.map pD)]=some (.ok (jsE sp c r))) :
  aU G 1 kM [aL c r w h T F (ao.map pD)]=some (.ok (.lst ((left c (c*r) ao).map (jD sp)))):=by
 refine aR (ρ:=[.im (aL c r w h T F (ao.map pD))]) rfl (bA ?_);refine wR (jD sp) (jD sp) (fun j=>!ao.contains (pairOf j)) (s:=jsE sp c r) (by simp only[zz,yy,aA,aB,haj]) eJ fun j _=>⟨[.un,.im (jD sp j),.im (aL c r w h T F (ao.map pD))],rfl,?_,by simp only[zz,yy]⟩
 rw[cU,jK (c:=c) (r:=r) (w:=w) (h:=h) (T:=T.map sE) (F:=F) (S:=ao.map pD) hf (by simp only[zz,yy];rfl),CQ,oO]
 unfold jD;simp only[zz,yy,aA,aB,part,intOf];exact EZ (p:=pairOf j)
theorem UC(hf:G.fl "Pile" = cx){c r w h:Nat}{T:Table}{F:List D}{sp:List Spot}{ao:List (Nat×Nat)}(R:Rect T w h)(hjo:G.fn "joints" [aL c r w h T F (ao.map pD)]=some (.ok (.lst ((left c (c*r) ao).map (jD sp)))))
  (kc:∀(c r:Int) (T row:List D) (F S:List D),T[0]?=some (.lst row)→G.mo "Pile" [.int c,.int r,.lst T,.tup F,.tup S]=some (.ok (bN c r row.length T.length T F S)))
  {l:Bool} {n:Int} (h0:0≤n) (h1:n≤((if l then h else w:Nat):Int)) (hlen:ao.length+c*r*2≤1000000) :
  aU G 5 BE [aL c r w h T F (ao.map pD),.bl l,.int n]=some (.ok (aL c r w h T F ((ao++iJ c (c*r) sp ao l n).map pD))):=by
 have e0:∀r',ev G (.var 0) (.im (aL c r w h T F (ao.map pD))::r')=some (bN c r w h (T.map sE) F (ao.map pD)):=fun _=>by simp only[zz,yy];rfl
 have em:=kc c r (T.map sE) ((T.getD 0 []).map hE) F ((ao++iJ c (c*r) sp ao l n).map pD) (by
  have:=R.len;have:=R.h1
  rw[qu,q9,qt (by lia)];rfl)
 rw[qv,qv,R.len,show (T.getD 0 []).length=_ from R.width]at em
 refine aR (ρ:=[.im (aL c r w h T F (ao.map pD)),.im (.bl l),.im (.int n),.un,.un]) rfl ?_;refine aJ (aV (d:=.int ((if l then h else w:Nat):Int)) ?_) (aJ (cZ ?_ aX) (aJ (aV (d:=.lst ((iJ c (c*r) sp ao l n).map pD)) ?_) (bA ?_)))
 ·rw[tV];cases l
  ·simp only[zz,yy,aA,aB,cD,hJ hf (e0 _)];rfl
  ·simp only[zz,yy,aA,aB,cD,hU hf (e0 _)];rfl
 ·simp only[List.set];simp only[zz,yy,aA,aB];rw[qy (show ¬n<0 by lia),qy (show ¬((if l then h else w:Nat):Int)<n by lia)]
 ·simp only[List.set];have e:=wR (G:=G) (L:=left c (c*r) ao) (jD sp) (fun j=>pD (pairOf j)) (JA sp l n) (n:=4) (fr:=[(2,1),(3,2)]) (tg:=[1]) (tp:=false) (k:=.seq) (src:=.call "joints" (.cons (.var 0) .nil))
   (test:=.bin .eq (.sl (.var 1) true (.lit (.int 2)) false (.lit .non)) (.tup (.cons (.var 2) (.cons (.var 3) .nil)))) (elt:=.sl (.var 1) false (.lit .non) true (.lit (.int 2))) (ρ:=[.im (aL c r w h T F (ao.map pD)),.im (.bl l),.im (.int n),.im (.int ((if l then h else w:Nat):Int)),.un]) (s:=.lst ((left c (c*r) ao).map (jD sp)))
   (by simp only[zz,yy,aA,aB,hjo]) eJ fun j _=>⟨[.un,.im (jD sp j),.im (.bl l),.im (.int n)],rfl,by
    unfold jD;rw[cU,CQ,oO];simp only[zz,yy,aA,aB,part,intOf];exact TZ,by
    unfold jD;rw[CQ,oO];simp only[zz,yy,aA,aB,part,intOf];rfl⟩
  rw[e];unfold iJ;rw[v3];rfl
 ·simp only[List.set];rw[LM,bQ,lL hf (e0 _),bQ,yF hf (e0 _),bQ,rY hf (e0 _),bQ,AQ hf (e0 _),bQ,cU,jK hf (e0 _)];simp only[zz,yy,aA,aB];rw[show bf .tuple [.lst ((iJ c (c*r) sp ao l n).map pD)]=some (.tup ((iJ c (c*r) sp ao l n).map pD)) from rfl]
  have az:(iJ c (c*r) sp ao l n).length≤c*r*2:=by
   unfold iJ left;rw[qv];refine sr (List.length_filter_le _ _) (sr (List.length_filter_le _ _) ?_);have:=mZ (c:=c) (n:=c*r) (c*r)
   lia
  simp only[aA,aGe (a:=ao.map pD) (b:=(iJ c (c*r) sp ao l n).map pD) (by rw[qv,qv];lia),←ux,zz,yy,em]
  rfl
end
section
variable {G:GS}
theorem md{i n:Int}(h:0<n):ah .mod (.int i) (.int n)=some (.int (i % n)):=kL h
theorem dv{i n:Int}(h:0<n)(h':n<1000000):ah .fdiv (.int i) (.int n)=some (.int (i / n)):=nU h h'
theorem rZ(i:Int)(n:Nat)(h:0<n):∃k:Nat,k<n∧i % (n:Int)=k:=by
 have h0:=Int.emod_nonneg i (show (n:Int)≠0 by lia)
 have h1:=Int.emod_lt_of_pos i (show (0:Int)<n by lia)
 exact⟨(i % (n:Int)).toNat,by lia,by lia⟩
end
end Pg
namespace K02
open Pg
section
variable {G:GS}
end
end K02
namespace Pg
section
variable {G:GS}
theorem uL:∀sp:List Spot,∃top low:Int,(∀s∈sp,s.z≤top)∧(∀s∈sp,low≤s.z)
 |[]=>⟨0,0,fun _ h=>(nomatch h),fun _ h=>(nomatch h)⟩
 |s::sp=>by
  obtain⟨t,l,h1,h2⟩:=uL sp;refine⟨max t s.z,min l s.z,fun u hu=>?_,fun u hu=>?_⟩
  ·rcases sv.mp hu with e|hu
   ·rw[e];lia
   ·have:=h1 u hu;lia
  ·rcases sv.mp hu with e|hu
   ·rw[e];lia
   ·have:=h2 u hu;lia
theorem Stg.fold'{c r:Nat}{fs:List Fold}{sp:List Spot}(S:Stg c r fs sp){f:Fold}(ok:Fits c r fs f):∃lj,Stg c r (fs++[f]) lj:=by
 obtain⟨t,l,h1,h2⟩:=uL sp;exact⟨_,S.fold ok h1 h2⟩
noncomputable def zL:IS:=(.iff (.bin .gt (.bin .mul (.fld (.var 3) "wide") (.fld (.var 3) "high")) (.lit (.int 1))) (.seq (.set 5 (.bin .add (.call "_law_cell_at" (.cons (.var 2) (.cons (.bin .add (.lit (.int 3)) (.bin .mod (.var 4) (.lit (.int 12)))) .nil))) (.bin .mul (.lit (.int 11)) (.bin .fdiv (.var 4) (.lit (.int 12)))))) (.seq (.set 6 (.call "_law_fold_by" (.cons (.var 5) (.cons (.fld (.var 3) "wide") (.cons (.fld (.var 3) "high") .nil))))) (.set 3 (.call "folded" (.cons (.var 3) (.cons (.ix (.var 6) (.lit (.int 0))) (.cons (.ix (.var 6) (.lit (.int 1))) (.cons (.ix (.var 6) (.lit (.int 2))) .nil)))))))) .nop)
noncomputable def sG:IS:=(.seq (.set 3 (.call "laid" (.cons (.var 0) (.cons (.var 1) .nil)))) (.seq (.loop [4] false .rng (.tup (.cons (.bin .add (.var 0) (.var 1)) .nil)) zL) (.ret false (.var 3))))
noncomputable def ic(ns:List Int)(c r:Nat)(fs:List Fold)(s4 s5 s6:Sl):List Sl:=[.im (.int c),.im (.int r),.im (.frz (ns.map .int)),.im (dP c r fs),s4,s5,s6]
theorem PJ(hf:G.fl "Pile" = cx){ns:List Int}{c r:Nat}(hc:1≤c)(hr:1≤r)(bg:c*r≤64)(pj:∀k:Nat,G.fn "_law_cell_at" [.frz (ns.map .int),.int k]=some (.ok (.int (bw ns k))))
  (hl:G.fn "laid" [.int c,.int r]=some (.ok (aL c r c r (fB c r) [] [])))
  (hfb:∀(w h:Nat) (cell:Int),1≤w→1≤h→1<w*h→∃(sd:Side) (over:Bool) (k:Nat),1≤k∧(k<if sd.up then w else h)∧G.fn "_law_fold_by" [.int cell,.int w,.int h]=some (.ok (fA sd over k)))
  (hfp:∀(fs:List Fold) (sp:List Spot) (f:Fold),Stg c r fs sp→Fits c r fs f→fs.length≤1000→G.fn "folded" [dP c r fs,.str f.sd.str,.bl f.over,.int f.k]=some (.ok (dP c r (fs++[f])))) :
  ∃fs sp,Stg c r fs sp∧(runs c r fs).2.1=1∧(runs c r fs).2.2=1∧aU G 7 sG [.int c,.int r,.frz (ns.map .int)]=some (.ok (dP c r fs)):=by
 have c64:c≤64:=sr (Nat.le_mul_of_pos_right c hr) bg
 have r64:r≤64:=sr (Nat.le_mul_of_pos_left r hc) bg
 have S0:Stg c r [] (iX c r):=⟨FW hc hr bg,oH⟩
 have go:∀(k:Nat),k<c+r→∀ρ,(∃fs sp s4 s5 s6,Stg c r fs sp∧fs.length≤k∧(((runs c r fs).2.1=1∧(runs c r fs).2.2=1)∨(runs c r fs).2.1+(runs c r fs).2.2+k≤c+r)∧ρ=ic ns c r fs s4 s5 s6) →
   ∃ρ1,bJ [4] false (.int (k:Nat)) ρ=some ρ1∧∃ρ2,ex G zL ρ1=some (.nx ρ2)∧∃fs sp s4 s5 s6,Stg c r fs sp∧fs.length≤k+1∧(((runs c r fs).2.1=1∧(runs c r fs).2.2=1)∨(runs c r fs).2.1+(runs c r fs).2.2+(k+1)≤c+r)∧ρ2=ic ns c r fs s4 s5 s6:=by
  rintro k hk ρ ⟨fs,sp,s4,s5,s6,S,hlen,hw,rfl⟩;refine⟨ic ns c r fs (.im (.int (k:Nat))) s5 s6,rfl,?_⟩;have w1:=S.sits.rect.w1
  have h1:=S.sits.rect.h1
  have w64:=S.sits.w64
  have h64:=S.sits.h64
  have ew:∀{ρ:List Sl} {a:IE},ev G a ρ=some (dP c r fs)→ev G (.fld a "wide") ρ=some (.int (runs c r fs).2.1):=fun e=>hJ hf e
  have eh:∀{ρ:List Sl} {a:IE},ev G a ρ=some (dP c r fs)→ev G (.fld a "high") ρ=some (.int (runs c r fs).2.2):=fun e=>hU hf e
  have et:ev G (.bin .gt (.bin .mul (.fld (.var 3) "wide") (.fld (.var 3) "high")) (.lit (.int 1))) (view (ic ns c r fs (.im (.int (k:Nat))) s5 s6))=some (.bl (decide (1<(runs c r fs).2.1*(runs c r fs).2.2))):=by
   rw[cU,cU,ew rfl,eh rfl];simp only[zz,yy,aA,aB,nA (show (runs c r fs).2.1≤1000000 by lia)]
   exact congrArg (fun b=>some (D.bl b)) (decide_eq_decide.mpr (by lia))
  by_cases hb:1<(runs c r fs).2.1*(runs c r fs).2.2
  ·obtain⟨cell,hcell⟩:∃cell,cell=bw ns (3+k % 12)+11*((k:Int) / 12):=⟨_,rfl⟩;obtain⟨sd,over,kk,k1,k2,efb⟩:=hfb _ _ cell w1 h1 hb;have ok:Fits c r fs ⟨sd,over,kk⟩:=⟨k1,k2⟩
   have efp:=hfp fs sp ⟨sd,over,kk⟩ S ok (by lia)
   obtain⟨lj,S'⟩:=S.fold' ok;have ec:G.fn "_law_cell_at" [.frz (ns.map .int),.int (3+(k:Int) % 12)]=some (.ok (.int (bw ns (3+k % 12)))):=pj (3+k % 12)
   refine⟨ic ns c r (fs++[⟨sd,over,kk⟩]) (.im (.int (k:Nat))) (.im (.int cell)) (.im (fA sd over kk)),jQ (et.trans (by rw[tw hb])) (aJ (aV (d:=.int cell) ?_) (aJ (aV (d:=fA sd over kk) ?_) ((aV (d:=dP c r (fs++[⟨sd,over,kk⟩])) ?_).trans rfl))),fs++[⟨sd,over,kk⟩],lj,_,_,_,S',by rw[t9];exact Nat.succ_le_succ hlen,?_,rfl⟩
   ·unfold ic;rw[hcell];simp only[zz,yy,aA,aB,kL (i:=(k:Int)) (j:=12) (by decide),nU (i:=(k:Int)) (j:=12) (by decide) (by decide),ec,mH (i:=11) (by decide) (by decide)]
   ·rw[kT,bQ,bQ,ew rfl,bQ,eh rfl];unfold ic;simp only[List.set];simp only[zz,yy,aA,aB,efb]
   ·unfold ic;simp only[List.set];simp only[zz,yy,aA,aB,fA,zN.1,zN.2.1,zN.2.2,efp]
   ·rw[lF];have kg:kk<if sd.up then(runs c r fs).2.1 else(runs c r fs).2.2:=k2
    have l7:1≤kk:=k1
    refine .inr ?_;unfold HE;dsimp only
    rcases hw with ⟨e1,e2⟩|hw
    ·rw[e1,e2]at hb;lia
    ·cases hu:sd.up with
     |true=>rw[hu]at kg;simp only[if_true]at kg ⊢;lia
     |false=>rw[hu]at kg;simp only[r8,if_false]at kg ⊢;lia
  ·refine⟨_,cZ (et.trans (by rw[qy hb])) aX,fs,sp,_,_,_,S,le_succ_of_le hlen,.inl ?_,rfl⟩
   have a:(runs c r fs).2.1≤(runs c r fs).2.1*(runs c r fs).2.2:=Nat.le_mul_of_pos_right _ h1
   have b:(runs c r fs).2.2≤(runs c r fs).2.1*(runs c r fs).2.2:=Nat.le_mul_of_pos_left _ w1
   exact⟨by lia,by lia⟩
 obtain⟨ρ',l,fs,sp,s4,s5,s6,S,hlen,hw,rfl⟩:=gS (enc:=fun k:Nat=>D.int k) (bind:=bJ [4] false) (body:=ex G zL) (fun k ρ=>∃fs sp s4 s5 s6,Stg c r fs sp∧fs.length≤k∧(((runs c r fs).2.1=1∧(runs c r fs).2.2=1)∨(runs c r fs).2.1+(runs c r fs).2.2+k≤c+r)∧ρ=ic ns c r fs s4 s5 s6) (L:=List.range (c+r)) (ρ:=ic ns c r [] .un .un .un) ⟨[],iX c r,_,_,_,S0,qw _,.inr (qw _),rfl⟩
  (fun k a hk ρ h=>by
   have h1:=(q8.mp hk).1
   rw[sj]at h1;have h2:a=k:=by rw[uv h1]at hk;exact(rn hk).symm
   subst h2;exact go a h1 ρ h)
 rw[sj]at hw;have w1:=S.sits.rect.w1
 have h1:=S.sits.rect.h1
 have jn:(runs c r fs).2.1=1∧(runs c r fs).2.2=1:=hw.elim id fun z=>by lia
 refine⟨fs,sp,S,jn.1,jn.2,aR (ρ:=[.im (.int c),.im (.int r),.im (.frz (ns.map .int)),.un,.un,.un,.un]) rfl (aJ (aV (d:=dP c r []) ?_) (aJ ((dN (d:=.tup [.int ((c+r:Nat):Int)]) ?_ (fC (by lia))).trans l) (bA (by unfold ic;simp only[zz,yy]))))⟩
 ·simp only[zz,yy,aA,aB,hl];rfl
 ·simp only[List.set];simp only[zz,yy,aA,aB];rfl
theorem iE{T:Table}{sp:List Spot}(S:Sits T 1 1 sp):(aj T 0 0).length=sp.length∧mC ((aj T 0 0).map fun c=>D.int c.1)=some ((List.range sp.length).map fun (k:Nat)=>D.int k):=by
 have nk:((aj T 0 0).map fun c=>(c.1,(0:Int))).Nodup:=by
  rw[List.nodup_iff_pairwise_ne,pairwise_map];refine(S.lk.ord 0 0).imp fun {a b} h e=>?_
  have:a.1=b.1:=(Prod.mk.inj e).1
  rw[this]at h;lia
 have pm:((List.range sp.length).map fun (k:Nat)=>((k:Int),(0:Int))).Pairwise (fun a b=>cw a b=true):=by
  rw[pairwise_map];refine List.pairwise_lt_range.imp fun {a b} h=>?_
  rw[dJ];exact .inl (by dsimp only;lia)
 have nm:((List.range sp.length).map fun (k:Nat)=>((k:Int),(0:Int))).Nodup:=pm.imp fun {a b} e q=>by subst q;rw[dJ]at e;lia
 have pe:((List.range sp.length).map fun (k:Nat)=>((k:Int),(0:Int))).Perm ((aj T 0 0).map fun c=>(c.1,(0:Int))):=by
  refine(List.perm_ext_iff_of_nodup nm nk).mpr fun p=>?_
  rw[u7,u7];constructor
  ·rintro⟨k,hk,rfl⟩;have hk:=v8.mp hk
   have hs:=qt hk
   have hm:=ve hk
   have:=S.xlt hm
   have:=S.ylt hm
   exact⟨((k:Int),(sp[k]).e,(sp[k]).n),(S.lk.mem 0 0 _).mpr ⟨k,sp[k],hs,by lia,by lia,rfl⟩,rfl⟩
  ·rintro⟨c,hc,rfl⟩;obtain⟨i,s,h1,_,_,rfl⟩:=(S.lk.mem 0 0 c).mp hc;exact⟨i,v8.mpr (q8.mp h1).1,rfl⟩
 have hl:(aj T 0 0).length=sp.length:=by
  have:=pe.length_eq
  simpa using this.symm
 refine⟨hl,?_⟩;have h1:1≤sp.length:=Nat.pos_of_ne_zero fun z=>S.ne (tm.mp z)
 have np:lK ((aj T 0 0).map fun c=>D.int c.1)=none:=by
  cases hh:aj T 0 0 with
  |nil=>rw[hh]at hl;simp at hl;lia
  |cons c r=>rfl
 have cs:gG (((aj T 0 0).map fun c=>c.1).map fun i=>(i,(0:Int)))=true:=by
  unfold gG;rw[rj,sh,sh,v3];refine⟨?_,nk⟩;rw[qv,hl];exact S.len
 unfold mC;rw[np];show (match gQ ((aj T 0 0).map fun c=>D.int c.1) with|some is=>(if gG (is.map fun i=>(i,0)) then some ((iO (is.map fun i=>(i,0))).map fun (p:Int×Int)=>D.int p.1) else none)|none=>none)=_
 rw[ints_map];show (if gG (((aj T 0 0).map fun c=>c.1).map fun i=>(i,(0:Int))) then some ((iO (((aj T 0 0).map fun c=>c.1).map fun i=>(i,(0:Int)))).map fun p=>D.int p.1) else none)=_
 rw[if_pos cs,v3,show ((fun i=>(i,(0:Int))) ∘ fun (c:Cell)=>c.1)=fun c=>(c.1,(0:Int)) from rfl,←nP pe pm,v3]
 rfl
noncomputable def MQ:IS:=(.seq (.iff (.or (.not (.tr (.isi (.var 3) "tuple"))) (.or (.bin .ne (.bcall .len (.cons (.var 3) .nil)) (.lit (.int 3))) (.not (.tr (.call "_law_whole" (.cons (.ix (.var 3) (.lit (.int 0))) .nil)))))) (.ret false (.lit .non)) .nop) (.iff (.or (.not (.tr (.isi (.ix (.var 3) (.lit (.int 1))) "bool"))) (.not (.tr (.isi (.ix (.var 3) (.lit (.int 2))) "bool")))) (.ret false (.lit .non)) .nop))
noncomputable def sH:IS:=(.seq (.iff (.or (.bin .ne (.fld (.var 0) "wide") (.lit (.int 1))) (.bin .ne (.fld (.var 0) "high") (.lit (.int 1)))) (.ret false (.lit .non)) .nop) (.seq (.set 2 (.meth (.var 0) "heap" (.cons (.lit (.int 0)) (.cons (.lit (.int 0)) .nil)))) (.seq (.iff (.or (.not (.tr (.isi (.var 2) "list"))) (.bin .ne (.bcall .len (.cons (.var 2) .nil)) (.var 1))) (.ret false (.lit .non)) .nop) (.seq (.loop [3] false .seq (.var 2) MQ) (.seq (.iff (.bin .ne (.bcall .sorted (.cons (.comp 2 [] [1] false .seq (.var 2) (.lit (.bl true)) (.ix (.var 1) (.lit (.int 0)))) .nil)) (.walk .rng (.tup (.cons (.var 1) .nil)))) (.ret false (.lit .non)) .nop) (.ret false (.var 2)))))))
theorem SF(hf:G.fl "Pile" = cx)(hw:∀i:Int,G.fn "_law_whole" [.int i]=some (.ok (.bl true))){c r:Nat}{T:Table}{F S:List D}{sp:List Spot}(St:Sits T 1 1 sp)(hs:sp.length=c*r)(hh:G.me "Pile" "heap" [aL c r 1 1 T F S,.int 0,.int 0]=some (.ok (hE (aj T 0 0)))) :
  aU G 4 sH [aL c r 1 1 T F S,.int ((c*r:Nat):Int)]=some (.ok (hE (aj T 0 0))):=by
 obtain⟨hl,hsort⟩:=iE St;have n64:=St.len
 refine aR (ρ:=[.im (aL c r 1 1 T F S),.im (.int ((c*r:Nat):Int)),.un,.un]) rfl ?_;have e0:∀{s1 s2 s3:Sl},ev G (.var 0) [.im (aL c r 1 1 T F S),s1,s2,s3]=some (bN c r (1:Nat) (1:Nat) (T.map sE) F S):=fun {_ _ _}=>rfl
 obtain⟨ρ',h1,s3,rfl⟩:=lS (bind:=bJ [3] false) (body:=ex G MQ) (fun ρ=>∃s3,ρ=[.im (aL c r 1 1 T F S),.im (.int ((c*r:Nat):Int)),.im (hE (aj T 0 0)),s3]) (ds:=(aj T 0 0).map dm) (ρ:=[.im (aL c r 1 1 T F S),.im (.int ((c*r:Nat):Int)),.im (hE (aj T 0 0)),.un]) ⟨.un,rfl⟩ (by
  rintro d hd ρ ⟨s3,rfl⟩;obtain⟨q,hq,rfl⟩:=u7.mp hd;refine⟨_,rfl,_,aJ (cZ ?_ aX) (cZ ?_ aX),_,rfl⟩
  ·show ev G _ (view [.im (aL c r 1 1 T F S),.im (.int ((c*r:Nat):Int)),.im (hE (aj T 0 0)),.im (dm q)])=_
   simp only[bS,cV,aS];unfold dm;refine cG (x:=false) (y:=false) (by simp only[zz,yy,aA,aB,AZ,cD,tf]) fun _=>cG (x:=false) (y:=false) ?_ fun _=>?_
   ·simp only[zz,yy,aA,aB];rfl
   ·simp only[zz,yy,aA,aB,zN.1,hw,cD,tf]
  ·show ev G _ (view [.im (aL c r 1 1 T F S),.im (.int ((c*r:Nat):Int)),.im (hE (aj T 0 0)),.im (dm q)])=_
   simp only[bS,cV,aS];unfold dm;exact cG (x:=false) (y:=false) (by simp only[zz,yy,aA,aB,zN.2.1,iU,cD,tf]) fun _=>by simp only[zz,yy,aA,aB,zN.2.2,iU,cD,tf])
 refine aJ (cZ ?_ aX) (aJ (aV (d:=hE (aj T 0 0)) ?_) (aJ (cZ ?_ aX) (aJ ((dN (d:=hE (aj T 0 0)) ?_ eJ).trans h1) (aJ (cZ ?_ aX) (bA ?_)))))
 ·simp only[bS,cV,aS];refine cG (x:=false) (y:=false) ?_ fun _=>?_
  ·rw[cU,hJ hf e0];simp only[zz,yy,aA,aB];rfl
  ·rw[cU,hU hf e0];simp only[zz,yy,aA,aB];rfl
 ·exact yG rfl e0 (by simp only[zz,yy,aA,aB]) hh
 ·simp only[List.set,bS,cV,aS];refine cG (x:=false) (y:=false) (by unfold hE;simp only[zz,yy,aA,aB,BA,cD,tf]) fun _=>?_
  unfold hE;simp only[zz,yy,aA,aB,qv,hl,hs];simp
 ·simp only[List.set];simp only[zz,yy]
 ·simp only[bS,cV,aS];have e1:∀{ρ:List Sl},ev G (.var 2) ρ=some (hE (aj T 0 0))→ev G (.comp 2 [] [1] false .seq (.var 2) (.lit (.bl true)) (.ix (.var 1) (.lit (.int 0)))) ρ=some (.lst ((aj T 0 0).map fun c=>D.int c.1)):=fun {ρ} h =>
   dH (L:=aj T 0 0) dm (fun c=>D.int c.1) (s:=hE (aj T 0 0)) h eJ fun c _=>⟨[.un,.im (dm c)],rfl,by simp only[zz,yy],by unfold dm;simp only[zz,yy,aA,aB,zN.1]⟩
  rw[cU,wV,bQ,e1 rfl];show ((Option.map D.lst (mC ((aj T 0 0).map fun c=>D.int c.1))).bind fun x=>(ev G (.walk .rng (.tup (.cons (.var 1) .nil))) _).bind fun y=>ah .ne x y)=_
  rw[hsort];simp only[zz,yy,aA,aB,fC (n:=c*r) (by lia),hs]
  exact ne_self (EO fun _=>rfl) (by rw[UA];exact wX fun a=>by rw[b7];exact beq_self_eq_true _)
 ·simp only[zz,yy]
noncomputable def jv(lv:Bool)(c:Cell):List (Int×Bool):=[(if c.2.1 == c.2.2 then 2*c.1 else 2*c.1+1,c.2.2),(if c.2.1 == c.2.2 then 2*c.1+1 else 2*c.1,if lv then !c.2.2 else c.2.2)]
noncomputable def br(lv:Bool)(h:cM):List (Int×Bool):=h.flatMap (jv lv)
noncomputable def fD(p:Int×Bool):D:=.tup [.int p.1,.bl p.2]
theorem wF{lv:Bool}{h:cM}{k:Nat}{c:Cell}(e:h[k]?=some c):br lv (h.take (k+1))=br lv (h.take k)++jv lv c:=by
 unfold br;rw[uy,e,List.flatMap_append];simp
theorem nF{lv:Bool}:∀{h:cM},(br lv h).length=2*h.length
 |[]=>rfl
 |c::h=>by
  show (jv lv c++br lv h).length=_
  rw[t9,nF];show 2+2*h.length=2*(h.length+1)
  lia
noncomputable def aFB:IS:=(.seq (.set 6 (.ite (.bin .eq (.var 4) (.var 5)) (.bin .mul (.lit (.int 2)) (.var 3)) (.bin .add (.bin .mul (.lit (.int 2)) (.var 3)) (.lit (.int 1))))) (.seq (.set 7 (.ite (.bin .eq (.var 4) (.var 5)) (.bin .add (.bin .mul (.lit (.int 2)) (.var 3)) (.lit (.int 1))) (.bin .mul (.lit (.int 2)) (.var 3)))) (.seq (.app 2 (.tup (.cons (.var 6) (.cons (.var 5) .nil)))) (.app 2 (.tup (.cons (.var 7) (.cons (.ite (.bin .isin (.var 1) (.glo "LEVEL_SIDES")) (.not (.tr (.var 5))) (.var 5)) .nil)))))))
noncomputable def SQ:IS:=(.seq (.setm 2 (.lst .nil)) (.seq (.loop [3,4,5] true .seq (.meth (.var 0) "heap" (.cons (.lit (.int 0)) (.cons (.lit (.int 0)) .nil))) aFB) (.retm 2)))
theorem aCm(hlv:G.cst "LEVEL_SIDES" = some cLV){sd:Side}{c r:Nat}{T:Table}{F S:List D}(hh:G.me "Pile" "heap" [aL c r 1 1 T F S,.int 0,.int 0]=some (.ok (hE (aj T 0 0))))(hl:(aj T 0 0).length≤1000) :
  aU G 8 SQ [aL c r 1 1 T F S,.str sd.str]=some (.ok (.lst ((br (!sd.up) (aj T 0 0)).map fD))):=by
 generalize aj T 0 0=h at *;have e0:∀{s1 s2 s3 s4 s5 s6 s7:Sl},ev G (.var 0) [.im (aL c r 1 1 T F S),s1,s2,s3,s4,s5,s6,s7]=some (bN c r (1:Nat) (1:Nat) (T.map sE) F S):=fun {_ _ _ _ _ _ _}=>rfl
 obtain⟨ρ',l,s3,s4,s5,s6,s7,rfl⟩:=gS (enc:=dm) (bind:=bJ [3,4,5] true) (body:=ex G aFB) (fun k ρ=>∃s3 s4 s5 s6 s7,ρ=[.im (aL c r 1 1 T F S),.im (.str sd.str),.mu (.lst ((br (!sd.up) (h.take k)).map fD)),s3,s4,s5,s6,s7]) (L:=h) (ρ:=[.im (aL c r 1 1 T F S),.im (.str sd.str),.mu (.lst []),.un,.un,.un,.un,.un]) ⟨_,_,_,_,_,rfl⟩ (by
  rintro k q hk ρ ⟨s3,s4,s5,s6,s7,rfl⟩;have hkl:=(q8.mp hk).1
  obtain⟨qc,qe,qn⟩:=q;have ll:(br (!sd.up) (h.take k)).length≤2000:=by rw[nF,ud];lia
  refine⟨[.im (aL c r 1 1 T F S),.im (.str sd.str),.mu (.lst ((br (!sd.up) (h.take k)).map fD)),.im (.int qc),.im (.bl qe),.im (.bl qn),s6,s7],rfl,_,aJ (aV (d:=.int (if qe == qn then 2*qc else 2*qc+1)) ?_) (aJ (aV (d:=.int (if qe == qn then 2*qc+1 else 2*qc)) ?_) (aJ (lT (d:=fD (if qe == qn then 2*qc else 2*qc+1,qn)) (ds:=(br (!sd.up) (h.take k)).map fD) ?_ rfl ?_) (lT (d:=fD (if qe == qn then 2*qc+1 else 2*qc,if !sd.up then !qn else qn)) (ds:=(br (!sd.up) (h.take k)).map fD++[fD (if qe == qn then 2*qc else 2*qc+1,qn)]) ?_ rfl ?_))),.im (.int qc),.im (.bl qe),.im (.bl qn),.im (.int (if qe == qn then 2*qc else 2*qc+1)),.im (.int (if qe == qn then 2*qc+1 else 2*qc)),?_⟩
  ·cases hb:(qe == qn)<;>simp only[zz,yy,aA,aB,LP,hb,mH (i:=2) (by decide) (by decide),if_true,if_false,r8]
  ·simp only[List.set];cases hb:(qe == qn)<;>simp only[zz,yy,aA,aB,LP,hb,mH (i:=2) (by decide) (by decide),if_true,if_false,r8]
  ·simp only[List.set];simp only[zz,yy,aA,aB];rfl
  ·rw[qv];lia
  ·simp only[List.set];cases hb:sd.up<;>(have iv:=KM (sd:=sd);rw[hb]at iv;simp only[zz,yy,aA,aB,hlv,iv,cD,tf,Bool.not_false];rfl)
  ·rw[t9,qv];show _+1<_
   lia
  ·rw[wF hk,ux];simp only[List.set,se];rfl)
 refine aR (ρ:=[.im (aL c r 1 1 T F S),.im (.str sd.str),.un,.un,.un,.un,.un,.un]) rfl (aJ (kR (ds:=[]) (by simp only[zz,yy,aA,aB])) (aJ ((dN (d:=hE h) ?_ eJ).trans l) (kS ?_)))
 ·exact yG rfl e0 (by simp only[zz,yy,aA,aB]) hh
 ·show some (Sl.mu (.lst ((br (!sd.up) (h.take h.length)).map fD)))=_
  rw[vb]
noncomputable def MS:IS:=(.seq (.set 6 (.bin .eq (.var 4) (.var 5))) (.seq (.set 7 (.var 5)) (.seq (.app 2 (.tup (.cons (.ite (.tr (.var 6)) (.bin .mul (.lit (.int 2)) (.var 3)) (.bin .add (.bin .mul (.lit (.int 2)) (.var 3)) (.lit (.int 1)))) (.cons (.var 7) .nil)))) (.seq (.iff (.bin .isin (.var 1) (.tup (.cons (.lit (.str "north")) (.cons (.lit (.str "south")) .nil)))) (.set 7 (.not (.tr (.var 5)))) .nop) (.app 2 (.tup (.cons (.ite (.tr (.var 6)) (.bin .add (.bin .mul (.lit (.int 2)) (.var 3)) (.lit (.int 1))) (.bin .mul (.lit (.int 2)) (.var 3))) (.cons (.var 7) .nil))))))))
noncomputable def sM:IS:=(.seq (.setm 2 (.lst .nil)) (.seq (.loop [3,4,5] true .seq (.var 0) MS) (.retm 2)))
theorem SZ{sd:Side}{h:cM}(hl:h.length≤1000):aU G 8 sM [hE h,.str sd.str]=some (.ok (.lst ((br (!sd.up) h).map fD))):=by
 obtain⟨ρ',l,s3,s4,s5,s6,s7,rfl⟩:=gS (enc:=dm) (bind:=bJ [3,4,5] true) (body:=ex G MS) (fun k ρ=>∃s3 s4 s5 s6 s7,ρ=[.im (hE h),.im (.str sd.str),.mu (.lst ((br (!sd.up) (h.take k)).map fD)),s3,s4,s5,s6,s7]) (L:=h) (ρ:=[.im (hE h),.im (.str sd.str),.mu (.lst []),.un,.un,.un,.un,.un]) ⟨_,_,_,_,_,rfl⟩ (by
  rintro k q hk ρ ⟨s3,s4,s5,s6,s7,rfl⟩;have hkl:=(q8.mp hk).1
  obtain⟨qc,qe,qn⟩:=q;have ll:(br (!sd.up) (h.take k)).length≤2000:=by rw[nF,ud];lia
  have es:∀m:List D,ex G (.iff (.bin .isin (.var 1) (.tup (.cons (.lit (.str "north")) (.cons (.lit (.str "south")) .nil)))) (.set 7 (.not (.tr (.var 5)))) .nop) [.im (hE h),.im (.str sd.str),.mu (.lst m),.im (.int qc),.im (.bl qe),.im (.bl qn),.im (.bl (qe == qn)),.im (.bl qn)]=some (.nx [.im (hE h),.im (.str sd.str),.mu (.lst m),.im (.int qc),.im (.bl qe),.im (.bl qn),.im (.bl (qe == qn)),.im (.bl (if !sd.up then !qn else qn))]):=fun m=>by
   have et:ev G (.bin .isin (.var 1) (.tup (.cons (.lit (.str "north")) (.cons (.lit (.str "south")) .nil)))) (view [.im (hE h),.im (.str sd.str),.mu (.lst m),.im (.int qc),.im (.bl qe),.im (.bl qn),.im (.bl (qe == qn)),.im (.bl qn)])=some (.bl (!sd.up)):=by
    simp only[bS,cV,aS];simp only[zz,yy,aA,aB];exact KM
   cases hb:sd.up with
   |true=>rw[hb]at et;exact cZ et aX
   |false =>
    rw[hb]at et;refine(jQ et (aV (d:=.bl (!qn)) ?_)).trans rfl;simp only[zz,yy,aA,aB,cD]
  refine⟨[.im (hE h),.im (.str sd.str),.mu (.lst ((br (!sd.up) (h.take k)).map fD)),.im (.int qc),.im (.bl qe),.im (.bl qn),s6,s7],rfl,_,aJ (aV (d:=.bl (qe == qn)) ?_) (aJ (aV (d:=.bl qn) ?_) (aJ (lT (d:=fD (if qe == qn then 2*qc else 2*qc+1,qn)) (ds:=(br (!sd.up) (h.take k)).map fD) ?_ rfl ?_) (aJ (es _) (lT (d:=fD (if qe == qn then 2*qc+1 else 2*qc,if !sd.up then !qn else qn)) (ds:=(br (!sd.up) (h.take k)).map fD++[fD (if qe == qn then 2*qc else 2*qc+1,qn)]) ?_ rfl ?_)))),.im (.int qc),.im (.bl qe),.im (.bl qn),.im (.bl (qe == qn)),.im (.bl (if !sd.up then !qn else qn)),?_⟩
  ·simp only[zz,yy,aA,aB,LP]
  ·simp only[List.set];simp only[zz,yy,aA,aB]
  ·simp only[List.set];cases hb:(qe == qn)<;>(simp only[zz,yy,aA,aB,cD,mH (i:=2) (by decide) (by decide),if_true,if_false,r8];rfl)
  ·rw[qv];lia
  ·cases hb:(qe == qn)<;>(simp only[zz,yy,aA,aB,cD,mH (i:=2) (by decide) (by decide),if_true,if_false,r8];rfl)
  ·rw[t9,qv];show _+1<_
   lia
  ·rw[wF hk,ux];simp only[List.set,se];rfl)
 refine aR (ρ:=[.im (hE h),.im (.str sd.str),.un,.un,.un,.un,.un,.un]) rfl (aJ (kR (ds:=[]) (by simp only[zz,yy,aA,aB])) (aJ ((dN (d:=hE h) ?_ eJ).trans l) (kS ?_)))
 ·simp only[List.set];simp only[zz,yy]
 ·show some (Sl.mu (.lst ((br (!sd.up) (h.take h.length)).map fD)))=_
  rw[vb]
noncomputable def qN:IS:=(.seq (.iff (.or (.bin .gt (.fld (.var 0) "wide") (.lit (.int 1))) (.bin .gt (.fld (.var 0) "high") (.lit (.int 1)))) (.rse "Ajar") .nop) (.iff (.inC true "SPINE_LINES" (.var 1)) (.rse "NoPlace") .nop))
noncomputable def kx:List (Str×D):=[("west",.tup [.bl false,.int 0]),("east",.tup [.bl false,.int 1]),("north",.tup [.bl true,.int 0]),("south",.tup [.bl true,.int 1])]
theorem LN{neg:Bool}{x:Str}{a:IE}{ρ:List Sl}{s:Str}{kvs:List (Str×D)}(e:ev G a ρ=some (.str s))(hk:G.dk x=some kvs):ev G (.inC neg x a) ρ=some (.bl (neg != (kvs.lookup s).isSome)):=by
 show (ev G a ρ).bind _=_
 rw[e];show (G.dk x).map _=_
 rw[hk];rfl
theorem XB(hf:G.fl "Pile" = cx)(hk:G.dk "SPINE_LINES" = some kx){sd:Side}{c r:Nat}{T:Table}{F S:List D}:aU G 2 qN [aL c r 1 1 T F S,.str sd.str]=some (.ok .non):=by
 have e0:ev G (.var 0) [.im (aL c r 1 1 T F S),.im (.str sd.str)]=some (bN c r (1:Nat) (1:Nat) (T.map sE) F S):=rfl
 refine AA (ρ:=[.im (aL c r 1 1 T F S),.im (.str sd.str)]) rfl (aJ (cZ ?_ aX) (cZ ?_ aX))
 ·simp only[bS,cV,aS];refine cG (x:=false) (y:=false) ?_ fun _=>?_
  ·rw[cU,hJ hf e0];simp only[zz,yy,aA,aB];rfl
  ·rw[cU,hU hf e0];simp only[zz,yy,aA,aB];rfl
 ·simp only[bS,cV,aS];rw[LN (s:=sd.str) rfl hk];cases sd<;>rfl
theorem EA(hf:G.fl "Pile" = cx)(hk:G.dk "SPINE_LINES" = some kx)(hx:G.xn "NoPlace" = true){x:Str}(hn:kx.lookup x=none){c r:Nat}{T:Table}{F S:List D}:aU G 2 qN [aL c r 1 1 T F S,.str x]=some (.er "NoPlace"):=by
 have e0:ev G (.var 0) [.im (aL c r 1 1 T F S),.im (.str x)]=some (bN c r (1:Nat) (1:Nat) (T.map sE) F S):=rfl
 refine rT (ρ:=[.im (aL c r 1 1 T F S),.im (.str x)]) rfl (aJ (cZ ?_ aX) (jQ ?_ (LH hx)))
 ·simp only[bS,cV,aS];refine cG (x:=false) (y:=false) ?_ fun _=>?_
  ·rw[cU,hJ hf e0];simp only[zz,yy,aA,aB];rfl
  ·rw[cU,hU hf e0];simp only[zz,yy,aA,aB];rfl
 ·simp only[bS,cV,aS];rw[LN (s:=x) rfl hk,hn];rfl
theorem GW(hf:G.fl "Pile" = cx)(hx:G.xn "Ajar" = true){d:D}{c r w h:Nat}(hw:1<w*h)(hw1:1≤w)(hh1:1≤h){T:Table}{F S:List D}:aU G 2 qN [aL c r w h T F S,d]=some (.er "Ajar"):=by
 have e0:ev G (.var 0) [.im (aL c r w h T F S),.im d]=some (bN c r w h (T.map sE) F S):=rfl
 refine rT (ρ:=[.im (aL c r w h T F S),.im d]) rfl (gT (jQ ?_ (LH hx)) fun _ z=>by cases z)
 simp only[bS,cV,aS];have e1:ev G (.bin .gt (.fld (.var 0) "wide") (.lit (.int 1))) [.im (aL c r w h T F S),.im d]=some (.bl (decide ((1:Int)<w))):=by
  rw[cU,hJ hf e0];simp only[zz,yy,aA,aB]
 have e2:ev G (.bin .gt (.fld (.var 0) "high") (.lit (.int 1))) [.im (aL c r w h T F S),.im d]=some (.bl (decide ((1:Int)<h))):=by
  rw[cU,hU hf e0];simp only[zz,yy,aA,aB]
 rw[cG e1 fun _=>e2]
 refine congrArg (fun b=>some (D.bl b)) ?_
 rw[or_eq_true,sh,sh]
 by_cases z:1<w
 ·exact .inl (by lia)
 ·refine .inr ?_;have:w=1:=by lia
  rw[this,Nat.one_mul]at hw;lia
noncomputable def fV:IS:=(.seq (.set 1 (.bin .mod (.var 0) (.lit (.int 8)))) (.seq (.set 2 (.bin .fdiv (.var 0) (.lit (.int 8)))) (.seq (.iff (.bin .lt (.var 1) (.lit (.int 4))) (.ret false (.tup (.cons (.bin .add (.lit (.int 1)) (.bin .mod (.var 2) (.lit (.int 5)))) (.cons (.bin .add (.lit (.int 1)) (.bin .mod (.bin .fdiv (.var 2) (.lit (.int 5))) (.lit (.int 4)))) .nil)))) .nop) (.seq (.iff (.bin .eq (.var 1) (.lit (.int 4))) (.ret false (.tup (.cons (.bin .add (.lit (.int 1)) (.bin .mod (.var 2) (.lit (.int 24)))) (.cons (.lit (.int 1)) .nil)))) .nop) (.seq (.iff (.bin .eq (.var 1) (.lit (.int 5))) (.ret false (.tup (.cons (.bin .add (.lit (.int 1)) (.bin .mod (.var 2) (.lit (.int 2)))) (.cons (.bin .add (.lit (.int 1)) (.bin .mod (.bin .fdiv (.var 2) (.lit (.int 2))) (.lit (.int 12)))) .nil)))) .nop) (.seq (.iff (.bin .eq (.var 1) (.lit (.int 6))) (.ret false (.tup (.cons (.bin .add (.lit (.int 1)) (.bin .mod (.var 2) (.lit (.int 8)))) (.cons (.bin .add (.lit (.int 1)) (.bin .mod (.bin .fdiv (.var 2) (.lit (.int 8))) (.lit (.int 8)))) .nil)))) .nop) (.ret false (.ix (.lst (.cons (.tup (.cons (.lit (.int 8)) (.cons (.lit (.int 8)) .nil))) (.cons (.tup (.cons (.lit (.int 16)) (.cons (.lit (.int 4)) .nil))) (.cons (.tup (.cons (.lit (.int 3)) (.cons (.lit (.int 21)) .nil))) (.cons (.tup (.cons (.lit (.int 64)) (.cons (.lit (.int 1)) .nil))) .nil))))) (.bin .mod (.var 2) (.lit (.int 4)))))))))))
theorem EF{cell:Int}:∃c r:Nat,1≤c∧1≤r∧c*r≤64∧aU G 3 fV [.int cell]=some (.ok (.tup [.int c,.int r])):=by
 have e1:ev G (.bin .mod (.var 0) (.lit (.int 8))) [.im (.int cell),.un,.un]=some (.int (cell % 8)):=by simp only[zz,yy,aA,aB,md (show (0:Int)<8 by decide)]
 have e2:ev G (.bin .fdiv (.var 0) (.lit (.int 8))) [.im (.int cell),.im (.int (cell % 8)),.un]=some (.int (cell / 8)):=by simp only[zz,yy,aA,aB,dv (show (0:Int)<8 by decide) (show (8:Int)<1000000 by decide)]
 have t1:ev G (.bin .lt (.var 1) (.lit (.int 4))) (view [.im (.int cell),.im (.int (cell % 8)),.im (.int (cell / 8))])=some (.bl (decide (cell % 8<4))):=by simp only[zz,yy,aA,aB]
 have tq:∀n:Int,ev G (.bin .eq (.var 1) (.lit (.int n))) (view [.im (.int cell),.im (.int (cell % 8)),.im (.int (cell / 8))])=some (.bl (cell % 8 == n)):=fun n=>by simp only[zz,yy,aA,aB]
 have start:∀{o:D},(∃x,ex G x [.im (.int cell),.im (.int (cell % 8)),.im (.int (cell / 8))]=some (.rt o)∧fV=(.seq (.set 1 (.bin .mod (.var 0) (.lit (.int 8)))) (.seq (.set 2 (.bin .fdiv (.var 0) (.lit (.int 8)))) x)))→aU G 3 fV [.int cell]=some (.ok o):=by
  rintro o ⟨x,hx,e⟩;rw[e];exact aR (ρ:=[.im (.int cell),.un,.un]) rfl (aJ (aV e1) (aJ (aV e2) hx))
 have nr:∀(d:D) ρ',Out.rt d≠.nx ρ':=fun _ _ z=>by cases z
 have f:∀(i:Int) (n:Nat),0<n→∃k:Nat,k<n∧i % (n:Int)=k:=rZ
 cases h1:decide (cell % 8<4) with
 |true =>
  obtain⟨a,ha,ea⟩:=f (cell / 8) 5 (by decide)
  obtain⟨b,hb,eb⟩:=f (cell / 8 / 5) 4 (by decide)
  have ea:cell / 8 % 5=a:=ea
  have eb:cell / 8 / 5 % 4=b:=eb
  refine⟨1+a,1+b,by lia,by lia,?_,start ⟨_,gT (jQ (t1.trans (by rw[h1])) (bA ?_)) (nr _),rfl⟩⟩
  ·have:(1+a)*(1+b)≤5*4:=Nat.mul_le_mul (by lia) (by lia)
   lia
  ·simp only[zz,yy,aA,aB,md (show (0:Int)<5 by decide),dv (show (0:Int)<5 by decide) (show (5:Int)<1000000 by decide),md (show (0:Int)<4 by decide),ea,eb]
   push_cast
   rfl
 |false =>
  have n1:=cZ (a:=.ret false (.tup (.cons (.bin .add (.lit (.int 1)) (.bin .mod (.var 2) (.lit (.int 5)))) (.cons (.bin .add (.lit (.int 1)) (.bin .mod (.bin .fdiv (.var 2) (.lit (.int 5))) (.lit (.int 4)))) .nil)))) (t1.trans (by rw[h1])) (aX (G:=G))
  cases h2:(cell % 8 == 4) with
  |true =>
   obtain⟨a,ha,ea⟩:=f (cell / 8) 24 (by decide)
   have ea:cell / 8 % 24=a:=ea
   refine⟨1+a,1,by lia,by lia,by lia,start ⟨_,aJ n1 (gT (jQ ((tq 4).trans (by rw[h2])) (bA ?_)) (nr _)),rfl⟩⟩
   simp only[zz,yy,aA,aB,md (show (0:Int)<24 by decide),ea]
   push_cast
   rfl
  |false =>
   cases h3:(cell % 8 == 5) with
   |true =>
    obtain⟨a,ha,ea⟩:=f (cell / 8) 2 (by decide)
    obtain⟨b,hb,eb⟩:=f (cell / 8 / 2) 12 (by decide)
    have ea:cell / 8 % 2=a:=ea
    have eb:cell / 8 / 2 % 12=b:=eb
    refine⟨1+a,1+b,by lia,by lia,?_,start ⟨_,aJ n1 (aJ (cZ ((tq 4).trans (by rw[h2])) aX) (gT (jQ ((tq 5).trans (by rw[h3])) (bA ?_)) (nr _))),rfl⟩⟩
    ·have:(1+a)*(1+b)≤2*12:=Nat.mul_le_mul (by lia) (by lia)
     lia
    ·simp only[zz,yy,aA,aB,md (show (0:Int)<2 by decide),dv (show (0:Int)<2 by decide) (show (2:Int)<1000000 by decide),md (show (0:Int)<12 by decide),ea,eb]
     push_cast
     rfl
   |false =>
    cases h4:(cell % 8 == 6) with
    |true =>
     obtain⟨a,ha,ea⟩:=f (cell / 8) 8 (by decide)
     obtain⟨b,hb,eb⟩:=f (cell / 8 / 8) 8 (by decide)
     have ea:cell / 8 % 8=a:=ea
     have eb:cell / 8 / 8 % 8=b:=eb
     refine⟨1+a,1+b,by lia,by lia,?_,start ⟨_,aJ n1 (aJ (cZ ((tq 4).trans (by rw[h2])) aX) (aJ (cZ ((tq 5).trans (by rw[h3])) aX) (gT (jQ ((tq 6).trans (by rw[h4])) (bA ?_)) (nr _)))),rfl⟩⟩
     ·have:(1+a)*(1+b)≤8*8:=Nat.mul_le_mul (by lia) (by lia)
      lia
     ·simp only[zz,yy,aA,aB,md (show (0:Int)<8 by decide),dv (show (0:Int)<8 by decide) (show (8:Int)<1000000 by decide),ea,eb]
      push_cast
      rfl
    |false =>
     obtain⟨a4,b4,f4⟩:=f (cell / 8) 4 (by decide)
     have f4:cell / 8 % 4=a4:=f4
     have key:∀(c r:Nat),1≤c→1≤r→c*r≤64→([.tup [.int 8,.int 8],.tup [.int 16,.int 4],.tup [.int 3,.int 21],.tup [.int 64,.int 1]]:List D)[a4]?=some (.tup [.int c,.int r])→∃c r:Nat,1≤c∧1≤r∧c*r≤64∧aU G 3 fV [.int cell]=some (.ok (.tup [.int c,.int r])):=by
      intro c r hc hr bg he;refine⟨c,r,hc,hr,bg,start ⟨_,aJ n1 (aJ (cZ ((tq 4).trans (by rw[h2])) aX) (aJ (cZ ((tq 5).trans (by rw[h3])) aX) (aJ (cZ ((tq 6).trans (by rw[h4])) aX) (bA ?_)))),rfl⟩⟩
      simp only[zz,yy,aA,aB,md (show (0:Int)<4 by decide),f4]
      exact eZ he
     have:a4=0∨a4=1∨a4=2∨a4=3:=by lia
     rcases this with rfl|rfl|rfl|rfl
     ·exact key 8 8 (by decide) (by decide) (by decide) rfl
     ·exact key 16 4 (by decide) (by decide) (by decide) rfl
     ·exact key 3 21 (by decide) (by decide) (by decide) rfl
     ·exact key 64 1 (by decide) (by decide) (by decide) rfl
theorem aEC{a:Bool}:ah .ne (.bl a) (.bl a)=some (.bl false):=by cases a<;>rfl
theorem ne_int{i:Int}:ah .ne (.int i) (.int i)=some (.bl false):=by rw[aDX,beq_self_eq_true];rfl
noncomputable def UW:Nat→Side
 | 0=>.west
 | 1=>.east
 | 2=>.north
 |_=>.south
theorem MT{k:Nat}(h:k<4):atI ([.str "west",.str "east",.str "north",.str "south"]:List D) (k:Int)=some (.str (UW k).str):=by
 have:k=0∨k=1∨k=2∨k=3:=by lia
 rcases this with rfl|rfl|rfl|rfl<;>rfl
theorem ne_str{a b:Str}(h1:oi a=true)(h2:oi b=true)(h:(a == b)=true):ah .ne (.str a) (.str b)=some (.bl false):=by
 show (if plain (.str a)&&plain (.str b) then some (D.bl (!b7 (.str a) (.str b))) else none)=_
 rw[if_pos (by rw[rj];exact⟨h1,h2⟩),b7,h];rfl
end
end Pg
namespace K09
open Pg
section
variable {G:GS}
theorem aAX{x:Nat}{b:IE}{ρ:List Sl}:ev G (.ixd x b) ρ=(mE ρ x).bind fun kvs=>(intOf (ev G b ρ)).bind fun k=>cC kvs k:=id rfl
theorem TY{x:Nat}{ρ:List Sl}:ev G (.lend x) ρ=(mE ρ x).bind fun kvs=>some (.int kvs.length):=id rfl
theorem enum_zip:∀(fs:List (Int×Bool)) (k:Nat),oP k (fs.map fD)=(fs.zipIdx k).map fun q=>D.tup [.int (q.2:Nat),fD q.1]
 |[],_=>rfl
 |f::r,k=>by
  rw[tu,List.zipIdx_cons,tu,←enum_zip r (k+1)];rfl
noncomputable def en(q:(Int×Bool)×Nat):Int×D:=(q.1.1,.tup [.int (q.2:Nat),.bl q.1.2])
theorem IB{kvs:List (Int×D)}{k:Int}{d:D}(h:∀kv∈kvs,kv.1≠k):jW kvs k d=kvs++[(k,d)]:=by
 unfold jW;refine if_neg fun z=>?_
 obtain⟨kv,h1,h2⟩:=List.any_eq_true.mp z;exact h kv h1 (of_decide_eq_true h2)
theorem GU:∀{kvs:List (Int×D)} {m:Nat} {k:Int} {d:D},(kvs.map (·.1)).Nodup→kvs[m]?=some (k,d)→cC kvs k=some d
 | (i,e)::r,0,k,d,_,h=>by
  cases h;unfold cC;rw[List.find?_cons_of_pos (by simp)];rfl
 | (i,e)::r,m+1,k,d,nd,h=>by
  have h':r[m]?=some (k,d):=h
  have nd:=nodup_cons.mp nd
  have ne:i≠k:=fun z=>nd.1 (by rw[z];exact u7.mpr ⟨(k,d),qq h',rfl⟩)
  unfold cC;rw[List.find?_cons_of_neg (by simpa using ne)]
  exact GU nd.2 h'
theorem RU{l:List Int}(nd:l.Nodup){k:Nat}{a:Int}(h:l[k]?=some a):∀b∈l.take k,b≠a:=fun b hb z=>by
 have e:l=l.take k++a::l.drop (k+1):=by
  obtain⟨hi,ea⟩:=q8.mp h;rw[←ea,←List.drop_eq_getElem_cons hi,take_append_drop]
 rw[e]at nd;exact(nodup_append.mp nd).2.2 b hb a ur z
structure Full (fs:List (Int×Bool)):Prop where
 nd:(fs.map (·.1)).Nodup
 inn:∀f∈fs,0≤f.1∧f.1.toNat<fs.length
 all:∀j:Nat,j<fs.length→∃f∈fs,f.1=(j:Int)
noncomputable def iz(fs:List (Int×Bool)):List (Int×D):=fs.zipIdx.map en
noncomputable def prs(fs:List (Int×Bool)):List D:=(List.range fs.length).map fun (k:Nat)=>(cC (iz fs) (k:Int)).getD .non
theorem oQ{fs:List (Int×Bool)}:(iz fs).map (·.1)=fs.map (·.1):=by
 unfold iz;rw[v3,show ((fun x:Int×D=>x.1) ∘ en)=(fun f:Int×Bool=>f.1) ∘ Prod.fst from rfl,←v3,List.zipIdx_map_fst]
theorem CW{fs:List (Int×Bool)}(hF:Full fs){m:Nat}{f:Int×Bool}(h:fs[m]?=some f):cC (iz fs) f.1=some (.tup [.int (m:Nat),.bl f.2]):=by
 refine GU (m:=m) (by rw[oQ];exact hF.nd) ?_
 unfold iz;rw[qu,List.getElem?_zipIdx,h];simp[en]
theorem ZA{fs:List (Int×Bool)}(hF:Full fs){m:Nat}{f:Int×Bool}(h:fs[m]?=some f):atI (prs fs) f.1=some (.tup [.int (m:Nat),.bl f.2]):=by
 obtain⟨h0,h1⟩:=hF.inn f (qq h);have e:(f.1.toNat:Int)=f.1:=Int.toNat_of_nonneg h0
 have:=eZ (xs:=prs fs) (k:=f.1.toNat) (x:=(cC (iz fs) (f.1.toNat:Int)).getD .non) (by unfold prs;rw[qu,uv h1];rfl)
 rw[e,CW hF h]at this;exact this
noncomputable def MP:IS:=(.put 2 (.ix (.var 4) (.lit (.int 0))) (.tup (.cons (.var 3) (.cons (.ix (.var 4) (.lit (.int 1))) .nil))))
noncomputable def oA:IS:=(.seq (.drop (.call "refuse_unbound" (.cons (.var 0) (.cons (.var 1) .nil)))) (.seq (.setd 2) (.seq (.loop [3,4] true .enum (.call "upright_pages" (.cons (.var 0) (.cons (.var 1) .nil))) MP) (.ret true (.comp 3 [(2,2)] [1] false .rng (.tup (.cons (.lend 2) .nil)) (.lit (.bl true)) (.ixd 2 (.var 1)))))))
theorem QR{p:D}{x:Str}{fs:List (Int×Bool)}(hu:G.fn "refuse_unbound" [p,.str x]=some (.ok .non))(oy:G.fn "upright_pages" [p,.str x]=some (.ok (.lst (fs.map fD))))(hF:Full fs)(hl:fs.length≤1000):aU G 5 oA [p,.str x]=some (.ok (.lst (prs fs))):=by
 have lz:fs.zipIdx.length=fs.length:=List.length_zipIdx
 obtain⟨ρ',l,s3,s4,rfl⟩:=gS (enc:=fun q:(Int×Bool)×Nat=>D.tup [.int (q.2:Nat),fD q.1]) (bind:=bJ [3,4] true) (body:=ex G MP) (fun k ρ=>∃s3 s4,ρ=[.im p,.im (.str x),.mu (.dct ((fs.zipIdx.take k).map en)),s3,s4]) (L:=fs.zipIdx) (ρ:=[.im p,.im (.str x),.mu (.dct []),.un,.un]) ⟨_,_,rfl⟩ (by
  rintro k q hk ρ ⟨s3,s4,rfl⟩;have gf:(fs.map (·.1))[k]?=some q.1.1:=by
   rw[←oQ];unfold iz;rw[v3,qu,hk];rfl
  have hn:=RU hF.nd gf
  have i9:∀kv∈(fs.zipIdx.take k).map en,kv.1≠q.1.1:=fun kv hkv=>by
   refine hn kv.1 ?_;rw[←oQ];unfold iz;rw[←map_take,←map_take];exact u7.mpr ⟨kv,hkv,rfl⟩
  refine⟨[.im p,.im (.str x),.mu (.dct ((fs.zipIdx.take k).map en)),.im (.int (q.2:Nat)),.im (fD q.1)],rfl,_,CO (d:=.tup [.int (q.2:Nat),.bl q.1.2]) (i:=q.1.1) ?_ ?_ rfl ?_,.im (.int (q.2:Nat)),.im (fD q.1),?_⟩
  ·unfold fD;simp only[zz,yy,aA,aB,mW.2]
  ·unfold fD;simp only[zz,yy,aA,aB,mW.1]
  ·rw[qv,ud];lia
  ·rw[IB i9,uy,hk,ux];rfl)
 rw[vb]at l;refine aR (ρ:=[.im p,.im (.str x),.un,.un,.un]) rfl (aJ (CP (d:=.non) ?_) (aJ CN (aJ ((dN (d:=.lst (fs.map fD)) ?_ (ds:=fs.zipIdx.map fun q=>D.tup [.int (q.2:Nat),fD q.1]) ?_).trans l) (bA ?_))))
 ·simp only[bS,cV,aS];simp only[zz,yy,aA,aB,hu]
 ·simp only[List.set];simp only[zz,yy,aA,aB,oy]
 ·show some (oP 0 (fs.map fD))=_
  rw[enum_zip]
 ·refine dH (L:=List.range fs.length) (fun (k:Nat)=>D.int k) (fun (k:Nat)=>(cC (iz fs) (k:Int)).getD .non) (s:=.tup [.int (fs.length:Nat)]) ?_ (fC (by lia)) fun k hk=>?_
  ·rw[tU,bQ,TY];show some (D.tup [.int ((fs.zipIdx.map en).length:Nat)])=_
   rw[qv,lz]
  ·obtain⟨f,hf,e⟩:=hF.all k (v8.mp hk);obtain⟨m,hm⟩:=List.mem_iff_getElem?.mp hf;refine⟨[.un,.im (.int (k:Nat)),.mu (.dct (iz fs))],rfl,by simp only[zz,yy],?_⟩
   rw[aAX];show cC (iz fs) (k:Int)=_
   rw[←e,CW hF hm];rfl
theorem AH{p:D}{x:Str}{k:Str}(hu:G.fn "refuse_unbound" [p,.str x]=some (.er k))(hx:G.xn k=true):aU G 5 oA [p,.str x]=some (.er k):=by
 refine rT (ρ:=[.im p,.im (.str x),.un,.un,.un]) rfl (gT (LK ?_ hu hx) fun _ z=>by cases z)
 simp only[bS,cV,aS];simp only[zz,yy,aA,aB]
noncomputable def nE:IS:=(.seq (.tryx (.call "plan" (.cons (.var 0) (.cons (.var 1) .nil))) "LeafError" (some 2) (.word "_law_word_of")) (.ret false (.lit (.str "done"))))
theorem uT{p:D}{x:Str}{k:Str}{y:Str}(hp:G.fn "plan" [p,.str x]=some (.er k))(h1:G.xn k=true)(h2:G.xn "LeafError" = true)(h3:G.sub k "LeafError" = true)(h4:G.wd "_law_word_of" k=some y):aU G 3 nE [p,.str x]=some (.ok (.str y)):=by
 refine aR (ρ:=[.im p,.im (.str x),.un]) rfl (gT (o:=.rt (.str y)) ?_ (fun _ z=>by cases z))
 have e:gw G (.call "plan" (.cons (.var 0) (.cons (.var 1) .nil))) (view [.im p,.im (.str x),.un])=some (.er k):=by
  simp only[gw,bS,cV,aS];simp only[zz,yy,aA,aB,hp]
 rw[TR e];simp only[h1,h2,h3,ij,h4,Bool.and_self,if_true,um]
noncomputable def MR:IS:=(.seq (.set 3 (.ix (.var 0) (.ix (.ix (.var 1) (.var 2)) (.lit (.int 0))))) (.seq (.iff (.or (.not (.tr (.isi (.var 3) "tuple"))) (.or (.bin .ne (.bcall .len (.cons (.var 3) .nil)) (.lit (.int 2))) (.or (.not (.tr (.call "_law_whole" (.cons (.ix (.var 3) (.lit (.int 0))) .nil)))) (.bin .ne (.ix (.var 3) (.lit (.int 0))) (.var 2))))) (.ret false (.lit (.bl false))) .nop) (.iff (.or (.not (.tr (.isi (.ix (.var 3) (.lit (.int 1))) "bool"))) (.bin .ne (.ix (.var 3) (.lit (.int 1))) (.ix (.ix (.var 1) (.var 2)) (.lit (.int 1))))) (.ret false (.lit (.bl false))) .nop)))
noncomputable def sL:IS:=(.seq (.iff (.or (.not (.tr (.isi (.var 0) "list"))) (.bin .ne (.bcall .len (.cons (.var 0) .nil)) (.bcall .len (.cons (.var 1) .nil)))) (.ret false (.lit (.bl false))) .nop) (.seq (.loop [2] false .rng (.tup (.cons (.bcall .len (.cons (.var 1) .nil)) .nil)) MR) (.ret false (.lit (.bl true)))))
theorem SU(hw:∀i:Int,G.fn "_law_whole" [.int i]=some (.ok (.bl true))){fs:List (Int×Bool)}(hF:Full fs)(hl:fs.length≤1000):aU G 4 sL [.lst (prs fs),.lst (fs.map fD)]=some (.ok (.bl true)):=by
 have lp:(prs fs).length=fs.length:=by unfold prs;rw[qv,sj]
 obtain⟨ρ',h1,s2,s3,rfl⟩:=lS (bind:=bJ [2] false) (body:=ex G MR) (fun ρ=>∃s2 s3,ρ=[.im (.lst (prs fs)),.im (.lst (fs.map fD)),s2,s3]) (ds:=(List.range fs.length).map fun (k:Nat)=>D.int k) (ρ:=[.im (.lst (prs fs)),.im (.lst (fs.map fD)),.un,.un]) ⟨_,_,rfl⟩ (by
  rintro d hd ρ ⟨s2,s3,rfl⟩;obtain⟨k,hk,rfl⟩:=u7.mp hd;have hk:=v8.mp hk
  obtain⟨f,hf⟩:∃f,fs[k]?=some f:=⟨_,qt hk⟩;have e2:atI (fs.map fD) (k:Int)=some (fD f):=eZ (by rw[qu,hf];rfl)
  have e1:=ZA hF hf
  refine⟨[.im (.lst (prs fs)),.im (.lst (fs.map fD)),.im (.int (k:Nat)),s3],rfl,[.im (.lst (prs fs)),.im (.lst (fs.map fD)),.im (.int (k:Nat)),.im (.tup [.int (k:Nat),.bl f.2])],aJ (aV (d:=.tup [.int (k:Nat),.bl f.2]) ?_) (aJ (cZ ?_ aX) (cZ ?_ aX)),_,_,rfl⟩
  ·simp only[zz,yy,aA,aB,e2];unfold fD;simp only[zz,yy,aA,aB,mW.1,e1]
  ·show ev G _ (view [.im (.lst (prs fs)),.im (.lst (fs.map fD)),.im (.int (k:Nat)),.im (.tup [.int (k:Nat),.bl f.2])])=_
   simp only[bS,cV,aS];refine cG (x:=false) (y:=false) (by simp only[zz,yy,aA,aB,AZ,cD,tf]) fun _=>cG (x:=false) (y:=false) ?_ fun _=>cG (x:=false) (y:=false) (by simp only[zz,yy,aA,aB,mW.1,hw,cD,tf]) fun _=>?_
   ·simp only[zz,yy,aA,aB];rfl
   ·simp only[zz,yy,aA,aB,mW.1];rw[beq_self_eq_true];rfl
  ·show ev G _ (view [.im (.lst (prs fs)),.im (.lst (fs.map fD)),.im (.int (k:Nat)),.im (.tup [.int (k:Nat),.bl f.2])])=_
   simp only[bS,cV,aS];refine cG (x:=false) (y:=false) (by simp only[zz,yy,aA,aB,mW.2,iU,cD,tf]) fun _=>?_
   simp only[zz,yy,aA,aB,mW.2,e2];unfold fD;simp only[zz,yy,aA,aB,mW.2,aEC])
 refine aR (ρ:=[.im (.lst (prs fs)),.im (.lst (fs.map fD)),.un,.un]) rfl (aJ (cZ ?_ aX) (aJ ((dN (d:=.tup [.int ((fs.length:Nat):Int)]) ?_ (fC (by lia))).trans h1) (bA (by simp only[zz,yy]))))
 ·simp only[bS,cV,aS];refine cG (x:=false) (y:=false) (by simp only[zz,yy,aA,aB,BA,cD,tf]) fun _=>?_
  simp only[zz,yy,aA,aB,qv,lp];exact ne_int
 ·simp only[zz,yy,aA,aB,qv]
theorem tS{lv:Bool}{h:cM}{f:Int×Bool}(hf:f∈br lv h):∃c∈h,f.1=2*c.1∨f.1=2*c.1+1:=by
 obtain⟨c,hc,hf⟩:=mem_flatMap.mp hf;refine⟨c,hc,?_⟩;unfold jv at hf
 rcases sv.mp hf with rfl|hf
 ·dsimp only;split
  ·exact .inl rfl
  ·exact .inr rfl
 ·rw[su.mp hf];dsimp only;split
  ·exact .inr rfl
  ·exact .inl rfl
theorem LA{lv:Bool}:∀{h:cM},h.Pairwise (fun a b=>a.1≠b.1)→((br lv h).map (·.1)).Nodup
 |[],_=>List.nodup_nil
 |c::h,hp=>by
  obtain⟨h1,h2⟩:=vf.mp hp;show ((jv lv c++br lv h).map (·.1)).Nodup
  rw[ux];refine nodup_append.mpr ⟨?_,LA h2,fun a ha b hb z=>?_⟩
  ·unfold jv;rw[tu,tu,map_nil];refine nodup_cons.mpr ⟨fun z=>?_,nodup_cons.mpr ⟨fun z=>(nomatch z),List.nodup_nil⟩⟩
   have z:=su.mp z
   dsimp only at z;split at z<;>lia
  ·obtain⟨f,hf,rfl⟩:=u7.mp hb;obtain⟨c',js,e⟩:=tS hf;obtain⟨g,hg,rfl⟩:=u7.mp ha;obtain⟨c2,fq,e2⟩:=tS (h:=[c]) (lv:=lv) (f:=g) (by show g∈jv lv c++[];rw[tj];exact hg)
   rw[su.mp fq]at e2;have:=h1 c' js
   lia
theorem jY{T:Table}{sp:List Spot}{n:Nat}(S:Sits T 1 1 sp)(hs:sp.length=n){lv:Bool}:Full (br lv (aj T 0 0))∧(br lv (aj T 0 0)).length=2*n:=by
 have ln:(br lv (aj T 0 0)).length=2*n:=by rw[nF,(iE S).1,hs]
 refine⟨⟨LA ((S.lk.ord 0 0).imp fun {a b} h e=>?_),fun f hf=>?_,fun j hj=>?_⟩,ln⟩
 ·rw[e]at h;lia
 ·rw[ln];obtain⟨c,hc,e⟩:=tS hf;obtain⟨i,s,h1,_,_,rfl⟩:=(S.lk.mem 0 0 c).mp hc;have hi:=(q8.mp h1).1
  dsimp only at e;lia
 ·rw[ln]at hj;have hk:j / 2<sp.length:=by lia
  have hm:=ve hk
  have:=S.xlt hm
  have:=S.ylt hm
  have hc:(((j / 2:Nat):Int),(sp[j / 2]).e,(sp[j / 2]).n)∈aj T 0 0:=(S.lk.mem 0 0 _).mpr ⟨j / 2,sp[j / 2],qt hk,by lia,by lia,rfl⟩
  have key:∀a b:Int×Bool,jv lv (((j / 2:Nat):Int),(sp[j / 2]).e,(sp[j / 2]).n)=[a,b]→(a.1=j∨b.1=j)→∃f∈br lv (aj T 0 0),f.1=(j:Int):=fun a b e h=>by
   rcases h with h|h
   ·exact⟨a,mem_flatMap.mpr ⟨_,hc,by rw[e];simp⟩,h⟩
   ·exact⟨b,mem_flatMap.mpr ⟨_,hc,by rw[e];simp⟩,h⟩
  refine key _ _ rfl ?_;dsimp only;split<;>lia
noncomputable def b_w:IS:=(.iff (.bin .ne (.call "_law_tried" (.cons (.call "laid" (.cons (.var 1) (.cons (.var 2) .nil))) (.cons (.var 5) .nil))) (.lit (.str "ajar"))) (.ret false (.lit (.bl false))) .nop)
noncomputable def BD:IS:=(.seq (.sett [1,2] (.call "_law_sheet_by" (.cons (.call "_law_cell_at" (.cons (.var 0) (.cons (.lit (.int 0)) .nil))) .nil))) (.seq (.set 3 (.ix (.lst (.cons (.lit (.str "west")) (.cons (.lit (.str "east")) (.cons (.lit (.str "north")) (.cons (.lit (.str "south")) .nil))))) (.bin .mod (.call "_law_cell_at" (.cons (.var 0) (.cons (.lit (.int 1)) .nil))) (.lit (.int 4))))) (.seq (.set 4 (.ix (.lst (.cons (.lit (.str "")) (.cons (.lit (.str "top")) (.cons (.lit (.str "West")) (.cons (.lit (.str "west ")) .nil))))) (.bin .mod (.call "_law_cell_at" (.cons (.var 0) (.cons (.lit (.int 2)) .nil))) (.lit (.int 4))))) (.seq (.iff (.bin .gt (.bin .mul (.var 1) (.var 2)) (.lit (.int 1))) (.loop [5] false .seq (.lst (.cons (.var 3) (.cons (.var 4) .nil))) b_w) .nop) (.seq (.set 6 (.call "_law_shut" (.cons (.var 1) (.cons (.var 2) (.cons (.var 0) .nil))))) (.seq (.set 7 (.call "_law_leaves" (.cons (.var 6) (.cons (.bin .mul (.var 1) (.var 2)) .nil)))) (.seq (.iff (.or (.bin .is (.var 7) (.lit .non)) (.bin .ne (.call "_law_tried" (.cons (.var 6) (.cons (.var 4) .nil))) (.lit (.str "place")))) (.ret false (.lit (.bl false))) .nop) (.seq (.set 8 (.call "_law_faces" (.cons (.var 7) (.cons (.var 3) .nil)))) (.seq (.setm 9 (.call "plan" (.cons (.var 6) (.cons (.var 3) .nil)))) (.seq (.iff (.not (.tr (.call "_law_good" (.cons (.var 9) (.cons (.var 8) .nil))))) (.ret false (.lit (.bl false))) .nop) (.seq (.put 9 (.lit (.int 0)) (.tup (.cons (.lit (.int 7)) (.cons (.lit (.bl true)) .nil)))) (.seq (.pop 9) (.seq (.iff (.not (.tr (.call "_law_good" (.cons (.call "plan" (.cons (.var 6) (.cons (.var 3) .nil))) (.cons (.var 8) .nil))))) (.ret false (.lit (.bl false))) .nop) (.seq (.set 10 (.call "cut" (.cons (.var 6) (.cons (.bin .eq (.bin .mod (.bin .fdiv (.call "_law_cell_at" (.cons (.var 0) (.cons (.lit (.int 2)) .nil))) (.lit (.int 4))) (.lit (.int 2))) (.lit (.int 1))) (.cons (.bin .mod (.bin .fdiv (.call "_law_cell_at" (.cons (.var 0) (.cons (.lit (.int 2)) .nil))) (.lit (.int 8))) (.lit (.int 2))) .nil))))) (.ret false (.and (.call "_law_good" (.cons (.call "plan" (.cons (.var 10) (.cons (.var 3) .nil))) (.cons (.var 8) .nil))) (.bin .eq (.call "_law_tried" (.cons (.var 10) (.cons (.var 4) .nil))) (.lit (.str "place")))))))))))))))))))
theorem aBj{k:Nat}(h:k<4):∃x:Str,kx.lookup x=none∧atI ([.str "",.str "top",.str "West",.str "west "]:List D) (k:Int)=some (.str x):=by
 have:k=0∨k=1∨k=2∨k=3:=by lia
 rcases this with rfl|rfl|rfl|rfl
 ·exact⟨"",by decide +kernel,rfl⟩
 ·exact⟨"top",by decide +kernel,rfl⟩
 ·exact⟨"West",by decide +kernel,rfl⟩
 ·exact⟨"west ",by decide +kernel,rfl⟩
theorem eq_str{a:Str}(h:oi a=true):ah .eq (.str a) (.str a)=some (.bl true):=by
 show (if plain (.str a)&&plain (.str a) then some (D.bl (b7 (.str a) (.str a))) else none)=_
 rw[if_pos (by rw[rj];exact⟨h,h⟩),b7,beq_self_eq_true]
theorem aAQ{ρ:List Sl}{x:Nat}{ds:List D}(h:ρ[x]?=some (.mu (.lst ds)))(hn:0<ds.length):ex G (.pop x) ρ=some (.nx (ρ.set x (.mu (.lst ds.dropLast)))):=by
 show (match ρ[x]? with|some (.mu (.lst ds))=>if ds.isEmpty then none else some (Out.nx (ρ.set x (.mu (.lst ds.dropLast))))|_=>none)=_
 rw[h];cases ds with
 |nil=>exact absurd hn (ug 0)
 |cons a r=>rfl
noncomputable def fr(ns:List Int)(c r:Nat)(sp odd:Str)(s5 s6 s7 s8 s9 s10:Sl):List Sl:=[.im (.frz (ns.map .int)),.im (.int c),.im (.int r),.im (.str sp),.im (.str odd),s5,s6,s7,s8,s9,s10]
theorem aAr{ns:List Int}(pj:∀k:Nat,G.fn "_law_cell_at" [.frz (ns.map .int),.int k]=some (.ok (.int (bw ns k))))
  (hsb:∀cell:Int,∃c r:Nat,1≤c∧1≤r∧c*r≤64∧G.fn "_law_sheet_by" [.int cell]=some (.ok (.tup [.int c,.int r])))
  (hl:∀c r:Nat,1≤c→1≤r→c*r≤64→G.fn "laid" [.int c,.int r]=some (.ok (aL c r c r (fB c r) [] [])))
  (hta:∀(c r:Nat) (x:Str),1≤c→1≤r→1<c*r→G.fn "_law_tried" [aL c r c r (fB c r) [] [],.str x]=some (.ok (.str "ajar")))
  (hsh:∀c r:Nat,1≤c→1≤r→c*r≤64→∃fs sp,Stg c r fs sp∧(runs c r fs).2.1=1∧(runs c r fs).2.2=1∧G.fn "_law_shut" [.int c,.int r,.frz (ns.map .int)]=some (.ok (dP c r fs)))
  (hle:∀(c r:Nat) (T:Table) (F S:List D) (sp:List Spot),Sits T 1 1 sp→sp.length=c*r→G.fn "_law_leaves" [aL c r 1 1 T F S,.int ((c*r:Nat):Int)]=some (.ok (hE (aj T 0 0))))
  (htp:∀(c r:Nat) (T:Table) (F S:List D) (x:Str),kx.lookup x=none→G.fn "_law_tried" [aL c r 1 1 T F S,.str x]=some (.ok (.str "place")))
  (hfa:∀(h:cM) (sd:Side),h.length≤1000→G.fn "_law_faces" [hE h,.str sd.str]=some (.ok (.lst ((br (!sd.up) h).map fD))))
  (ik:∀(c r:Nat) (T:Table) (F S:List D) (sp:List Spot) (sd:Side),Sits T 1 1 sp→sp.length≤64→G.fn "plan" [aL c r 1 1 T F S,.str sd.str]=some (.ok (.lst (prs (br (!sd.up) (aj T 0 0))))))
  (jd:∀fs:List (Int×Bool),Full fs→fs.length≤1000→G.fn "_law_good" [.lst (prs fs),.lst (fs.map fD)]=some (.ok (.bl true)))
  (hct:∀(c r:Nat) (T:Table) (F:List D) (sp:List Spot) (ao:List (Nat×Nat)) (l:Bool) (n:Int),1≤c→c*r≤64→c≤64→Sits T 1 1 sp→sp.length=c*r→0≤n→n≤1→ao.length≤900000→G.fn "cut" [aL c r 1 1 T F (ao.map pD),.bl l,.int n]=some (.ok (aL c r 1 1 T F ((ao++iJ c (c*r) sp ao l n).map pD)))) :
  aU G 11 BD [.frz (ns.map .int)]=some (.ok (.bl true)):=by
 have c0:G.fn "_law_cell_at" [.frz (ns.map .int),.int 0]=some (.ok (.int (bw ns 0))):=pj 0
 have c1:G.fn "_law_cell_at" [.frz (ns.map .int),.int 1]=some (.ok (.int (bw ns 1))):=pj 1
 have c2:G.fn "_law_cell_at" [.frz (ns.map .int),.int 2]=some (.ok (.int (bw ns 2))):=pj 2
 obtain⟨c,r,hc,hr,bg,esb⟩:=hsb (bw ns 0);have c64:c≤64:=sr (Nat.le_mul_of_pos_right c hr) bg
 have ela:=hl c r hc hr bg
 obtain⟨mo,kc,emo⟩:=rZ (bw ns 2) 4 (by decide)
 have emo:bw ns 2 % 4=(mo:Int):=emo
 obtain⟨odd,hodd,eodd⟩:=aBj kc;obtain⟨mi,hmi,emi⟩:=rZ (bw ns 1) 4 (by decide)
 have emi:bw ns 1 % 4=(mi:Int):=emi
 have esp:=MT hmi
 generalize UW mi=sd at esp;obtain⟨fs,sp,S,w1,h1,esh⟩:=hsh c r hc hr bg;obtain⟨T,hT⟩:∃T,T=(runs c r fs).1:=⟨_,rfl⟩;obtain⟨F,hF⟩:∃F,F=fs.map Fold.d:=⟨_,rfl⟩;have ep:dP c r fs=aL c r 1 1 T F []:=by unfold dP;rw[w1,h1,hT,hF]
 have Si:Sits T 1 1 sp:=by
  have:=S.sits
  rw[w1,h1,←hT]at this;exact this
 rw[ep]at esh;have s64:sp.length≤64:=by rw[S.len];exact bg
 have ele:=hle c r T F [] sp Si S.len
 have lh:(aj T 0 0).length≤64:=by rw[(iE Si).1];exact Si.len
 obtain⟨full,lf⟩:=jY Si S.len (lv:=!sd.up);have efa:=hfa (aj T 0 0) sd (by lia)
 have epl:=fun S=>ik c r T F S sp sd Si s64
 have ego:=jd _ full (by lia)
 have etp:=fun S=>htp c r T F S odd hodd
 obtain⟨ml,hml,eml⟩:=rZ (bw ns 2 / 8) 2 (by decide)
 have eml:bw ns 2 / 8 % 2=(ml:Int):=eml
 have ect:=hct c r T F sp [] (bw ns 2 / 4 % 2 == 1) (ml:Int) hc bg c64 Si S.len (by lia) (by lia) (by decide)
 generalize ([]++iJ c (c*r) sp [] (bw ns 2 / 4 % 2 == 1) (ml:Int))=ao at ect;have ect:G.fn "cut" [aL c r 1 1 T F [],.bl (bw ns 2 / 4 % 2 == 1),.int (ml:Int)]=some (.ok (aL c r 1 1 T F (ao.map pD))):=ect
 generalize hfc:br (!sd.up) (aj T 0 0)=ff at *;have lp:(prs ff).length=ff.length:=by unfold prs;rw[qv,sj]
 have pos:0<(prs ff).length:=by
  have:=Nat.mul_pos hc hr
  lia
 have ew:∃s5,ex G (.iff (.bin .gt (.bin .mul (.var 1) (.var 2)) (.lit (.int 1))) (.loop [5] false .seq (.lst (.cons (.var 3) (.cons (.var 4) .nil))) b_w) .nop) (fr ns c r sd.str odd .un .un .un .un .un .un)=some (.nx (fr ns c r sd.str odd s5 .un .un .un .un .un)):=by
  have e1:ev G (.bin .gt (.bin .mul (.var 1) (.var 2)) (.lit (.int 1))) (view (fr ns c r sd.str odd .un .un .un .un .un .un))=some (.bl (decide (1<c*r))):=by
   unfold fr;simp only[bS,cV,aS];simp only[zz,yy,aA,aB,nA (show c≤1000000 by lia)]
   exact congrArg (fun b=>some (D.bl b)) (decide_eq_decide.mpr (by lia))
  by_cases hx:1<c*r
  ·obtain⟨ρ1,l1,s5,rfl⟩:=lS (bind:=bJ [5] false) (body:=ex G b_w) (fun ρ=>∃s5,ρ=fr ns c r sd.str odd s5 .un .un .un .un .un) (ds:=[.str sd.str,.str odd]) (ρ:=fr ns c r sd.str odd .un .un .un .un .un .un) ⟨_,rfl⟩ (by
    rintro d hd ρ ⟨s5,rfl⟩;obtain⟨x,rfl⟩:∃x,d=.str x:=by
     rcases sv.mp hd with e|hd
     ·exact⟨_,e⟩
     ·exact⟨_,su.mp hd⟩
    refine⟨fr ns c r sd.str odd (.im (.str x)) .un .un .un .un .un,rfl,_,cZ ?_ aX,_,rfl⟩;unfold fr;simp only[bS,cV,aS];simp only[zz,yy,aA,aB,ela,hta c r x hc hr hx];exact ne_str (by decide +kernel) (by decide +kernel) (by decide +kernel))
   exact⟨s5,jQ (e1.trans (by rw[tw hx])) ((dN (d:=.lst [.str sd.str,.str odd]) (by unfold fr;simp only[zz,yy,aA,aB]) eJ).trans l1)⟩
  ·exact⟨_,cZ (e1.trans (by rw[qy hx])) aX⟩
 obtain⟨s5,ew⟩:=ew;refine aR (ρ:=[.im (.frz (ns.map .int)),.un,.un,.un,.un,.un,.un,.un,.un,.un,.un]) rfl ?_;refine aJ (ρ':=[.im (.frz (ns.map .int)),.im (.int c),.im (.int r),.un,.un,.un,.un,.un,.un,.un,.un]) (LF.trans ?_) (aJ (aV (d:=.str sd.str) ?_) (aJ (aV (d:=.str odd) ?_) (aJ ew (aJ (aV (d:=aL c r 1 1 T F []) ?_) (aJ (aV (d:=hE (aj T 0 0)) ?_) (aJ (cZ ?_ aX) (aJ (aV (d:=.lst (ff.map fD)) ?_)
  (aJ (kR (ds:=prs ff) ?_) (aJ (cZ ?_ aX) (aJ (aAP (d:=.tup [.int 7,.bl true]) (i:=0) (ds:=prs ff) (j:=0) ?_ rfl rfl ?_) (aJ (aAQ (ds:=(prs ff).set 0 (.tup [.int 7,.bl true])) rfl ?_) (aJ (cZ ?_ aX) (aJ (aV (d:=aL c r 1 1 T F (ao.map pD)) ?_) (bA ?_))))))))))))))
 ·simp only[zz,yy,aA,aB,c0,esb];rfl
 ·simp only[zz,yy,aA,aB,c1,kL (i:=bw ns 1) (j:=4) (by decide),emi,esp]
 ·simp only[List.set];simp only[zz,yy,aA,aB,c2,kL (i:=bw ns 2) (j:=4) (by decide),emo,eodd]
 ·unfold fr;simp only[zz,yy,aA,aB,esh]
 ·unfold fr;simp only[List.set];simp only[zz,yy,aA,aB,nA (show c≤1000000 by lia),ele]
 ·unfold fr;simp only[List.set,bS,cV,aS];refine cG (x:=false) (y:=false) ?_ fun _=>?_
  ·unfold hE;simp only[zz,yy,aA,aB];rfl
  ·simp only[zz,yy,aA,aB,etp []];exact ne_str (by decide +kernel) (by decide +kernel) (by decide +kernel)
 ·unfold fr;simp only[List.set];simp only[zz,yy,aA,aB,efa]
 ·unfold fr;simp only[List.set];simp only[zz,yy,aA,aB,epl []]
 ·unfold fr;simp only[List.set,bS,cV,aS];simp only[zz,yy,aA,aB,ego,cD,tf]
 ·unfold fr;simp only[List.set];simp only[zz,yy,aA,aB]
 ·unfold ixN;rw[if_pos (by decide),if_pos (by lia)];rfl
 ·rw[List.length_set];exact pos
 ·unfold fr;simp only[List.set,bS,cV,aS];simp only[zz,yy,aA,aB,epl [],ego,cD,tf]
 ·unfold fr;simp only[List.set];simp only[zz,yy,aA,aB,c2,nU (i:=bw ns 2) (j:=4) (by decide) (by decide),kL (i:=bw ns 2 / 4) (j:=2) (by decide),nU (i:=bw ns 2) (j:=8) (by decide) (by decide),kL (i:=bw ns 2 / 8) (j:=2) (by decide),eml,ect]
 ·unfold fr;simp only[List.set];rw[CT (x:=true) (y:=true) (by simp only[zz,yy,aA,aB,epl (ao.map pD),ego]) fun _=>?_]
  ·rfl
  ·simp only[zz,yy,aA,aB,etp (ao.map pD)];exact eq_str (by decide +kernel)
end
end K09
structure CC where
 N:List Str
 sc:Scope
 fns:List Str
 cls:List Str
 csts:List Str
 mus:List Str
 fresh:List Str
noncomputable def bX(c:CC)(x:Str):Option Nat:=match c.sc.names.lookup x with
 |some .local=>c.N.idxOf? x
 |some .cell=>c.N.idxOf? x
 |some .free=>c.N.idxOf? x
 |_=>none
noncomputable def aW(c:CC)(x:Str):Bool:=c.sc.names.lookup x == some .globalImplicit
noncomputable def aAm(c:CC)(x:Str):Option Nat:=if c.mus.contains x then bX c x else none
noncomputable def one?{α:Type}:List α→Option α
 |[a]=>some a
 |_=>none
noncomputable def nameP:Expr→Option (Str×Pos)
 |.Name x p=>some (x,p)
 |_=>none
noncomputable def DL:Expr→Option (Expr×Str×Pos)
 |.Attribute o m p=>some (o,m,p)
 |_=>none
noncomputable def kY:Expr→Option (Expr×List Expr×List Keyword×Pos)
 |.Call f as kw p=>some (f,as,kw,p)
 |_=>none
noncomputable def ny:Expr→Option (Option Expr×Option Expr×Option Expr×Pos)
 |.Slice a b st p=>some (a,b,st,p)
 |_=>none
noncomputable def tupP:Expr→Option (List Expr×Nat×Pos)
 |.Tuple es k p=>some (es,k,p)
 |_=>none
noncomputable def aFx:Expr→Option (Const×Nat×Pos)
 |.Constant v k p=>some (v,k,p)
 |_=>none
noncomputable def eY(c:CC)(e:Expr):Option Nat:=(nameP e).bind fun x=>aAm c x.1
noncomputable def RH:Operator→Option O2
 |.Add=>some .add
 |.Sub=>some .sub
 |.Mult=>some .mul
 |.FloorDiv=>some .fdiv
 |.Mod=>some .mod
 |.Pow=>some .pow
 |_=>none
noncomputable def jS:CmpOp→O2
 |.Eq=>.eq
 |.NotEq=>.ne
 |.Lt=>.lt
 |.LtE=>.le
 |.Gt=>.gt
 |.GtE=>.ge
 |.Is=>.is
 |.IsNot=>.isnot
 |.In=>.isin
 |.NotIn=>.notin
noncomputable def oY(x:Str):Option BF:=
 if x = "len" then some .len else if x = "list" then some .list else if x = "tuple" then some .tuple else if x = "max" then some .max
 else if x = "str" then some .str else if x = "sorted" then some .sorted else if x = "any" then some .any else none
noncomputable def srcOf(x:Str):Option Src:=
 if x = "range" then some .rng else if x = "reversed" then some .rev else if x = "enumerate" then some .enum else none
noncomputable def aAC:Src→Bool
 |.enum=>true
 |_=>false
noncomputable def KW(tp:Bool)(k:Src):Bool:=tp || !aAC k
noncomputable def jE:List Str:=["int","bool","str","list","tuple"]
noncomputable def gB(c:CC):Expr→Option Nat
 |.Name x _=>match c.sc.names.lookup x with
  |some .local=>c.N.idxOf? x
  |some .cell=>c.N.idxOf? x
  |_=>none
 |_=>none
noncomputable def eX(c:CC):List Expr→Option (List Nat)
 |[]=>some []
 |e::r=>do some ((←gB c e)::(←eX c r))
noncomputable def dA(c:CC):Expr→Option (List Nat×Bool)
 |.Name x p=>(gB c (.Name x p)).map fun i=>([i],false)
 |.Tuple es _ _=>(eX c es).map fun is=>(is,true)
 |_=>none
noncomputable def sF:NameKind→Bool
 |.globalImplicit=>true
 |.globalExplicit=>true
 |_=>false
noncomputable def ownNames(sc:Scope):List Str:=(sc.names.filter fun x=>!sF x.2).map (·.1)
noncomputable def jM:Expr→Bool
 |.Call _ _ _ _=>false
 |_=>true
noncomputable def kB(c:CC)(sc:Scope):Bool:=
 sc.kind == .function&&sc.names.all (fun x=>x.2 != .cell)&&sc.names.all (fun x=>x.2 != .local || sc.names.lookup x.1 == some .local)&&sc.names.all (fun x=>x.2 != .free || sc.names.lookup x.1 == some .free)&&decide (ownNames sc).Nodup &&
 (ownNames sc).all (fun x=>!(x == ("__debug__":Str))&&!(x == ("__classdict__":Str)))&&!(sc.names.lookup ("__debug__":Str) == some NameKind.globalImplicit) &&
 sc.names.all (fun x=>x.2 != .free || (c.sc.names.lookup x.1 == some .cell || c.sc.names.lookup x.1 == some .free))
noncomputable def freeOf(c:CC)(sc:Scope):List (Str×NameKind)→Option (List (Nat×Nat))
 |[]=>some []
 |x::r=>do some ((←(ownNames sc).idxOf? x.1,←bX c x.1)::(←freeOf c sc r))
noncomputable def own(c:CC)(x:Str):Bool:=c.fns.contains x || c.cls.contains x
noncomputable def xZ(c:CC)(x:Str):Option IE:=match bX c x with
 |some i=>some (.var i)
 |none=>if aW c x&&c.csts.contains x then some (.glo x) else none
noncomputable def AB:Const→Option IE
 |.int i=>some (.lit (.int i))
 |.bool b=>some (.lit (.bl b))
 |.str x=>some (.lit (.str x))
 |.none=>some (.lit .non)
 |_=>none
noncomputable def aDa(a:Option IE):UnaryOp→Option IE
 |.Not=>a.map fun x=>.not (.tr x)
 |_=>none
noncomputable def boK:BoolOp→Bool
 |.And=>true
 |.Or=>false
noncomputable def GD:List Str:=["SPINE_LINES","WAYS"]
noncomputable def aFf:CmpOp→Option Bool
 |.In=>some false
 |.NotIn=>some true
 |_=>none
noncomputable def aFg(c:CC)(o:CmpOp)(b:Expr):Option (Bool×Str):=(aFf o).bind fun k=>(nameP b).bind fun q=>if aW c q.1&&GD.contains q.1 then some (k,q.1) else none
noncomputable def HV(c:CC)(f:Expr→Option IE)(a:Option IE):List CmpOp→List Expr→Option IE
 |[o],[b]=>a.bind fun x=>match aFg c o b with
  |some q=>some (.inC q.1 q.2 x)
  |none=>(f b).map fun y=>.bin (jS o) x y
 |[o,o'],[b,d]=>a.bind fun x=>(f b).bind fun y=>(f d).map fun z=>.chain (jS o) (jS o') x y z
 |_,_=>none
noncomputable def rU(f:Expr→Option IE):Option Expr→Option IE
 |none=>some (.lit .non)
 |some e=>f e
noncomputable def aDc(m:Option Nat)(a:Option IE)(bl:Bool)(l:IE)(bh:Bool)(h:IE):Option IE:=match m with
 |some _=>none
 |none=>a.map fun x=>.sl x bl l bh h
noncomputable def LX:List Str:=["prints"]
noncomputable def FM(e:Expr):Bool:=match nameP e with
 |some q=>LX.contains q.1
 |none=>false
noncomputable def aDf(dv:Bool)(m:Option Nat)(a:Option IE)(k:IE):Option IE:=match m with
 |some i=>if dv then some (.ixd i k) else none
 |none=>a.map fun x=>.ix x k
noncomputable def HP(f:Expr→Option IE)(dv:Bool)(m:Option Nat)(a:Option IE)(i:Expr):Option IE:=match ny i with
 |some q=>if q.2.2.1.isSome then none else(rU f q.1).bind fun l=>(rU f q.2.1).bind fun h=>aDc m a q.1.isSome l q.2.1.isSome h
 |none=>(f i).bind (aDf dv m a)
noncomputable def HS(f:Expr→Option IE)(c:CC):List Expr→Option IE
 |[a,y]=>(nameP y).bind fun y=>if aW c y.1&&jE.contains y.1&&!own c y.1 then(f a).map fun x=>.isi x y.1 else none
 |_=>none
noncomputable def VJ(c:CC)(args:List Expr):Option Nat:=(one? args).bind (eY c)
noncomputable def lW(c:CC)(e:Expr):Option (Str×List Expr):=(kY e).bind fun q=>(nameP q.1).bind fun x=>if q.2.2.1.isEmpty&&aW c x.1&&!own c x.1 then some (x.1,q.2.1) else none
noncomputable def xW(c:CC)(args:List Expr):Option Expr:=(one? args).bind fun e=>(lW c e).bind fun q=>if q.1 == "reversed" then one? q.2 else none
noncomputable def aHv(dv:Bool)(b:BF)(as:Option IE)(i:Nat):Option IE:=match b with
 |.len=>if dv then some (.lend i) else none
 |_=>as.map fun x=>.bcall b x
noncomputable def xV(c:CC)(e:Expr):Option Expr:=(lW c e).bind fun q=>if q.1 == "range" then one? q.2 else none
noncomputable def YG(b:BF)(as:Option IE)(w w2:Option (Option IE)):Option IE:=match b,w,w2 with
 |.list,some o,_=>o.map fun x=>.walk .rev x
 |.list,none,some o=>o.map fun x=>.walk .rng (.tup (.cons x .nil))
 |_,_,_=>as.map fun x=>.bcall b x
noncomputable def EK(f:Expr→Option IE)(c:CC)(b:BF)(args:List Expr)(as:Option IE):Option IE:=match VJ c args with
 |some i=>aHv (args.any FM) b as i
 |none=>YG b as ((xW c args).map f) (((one? args).bind (xV c)).map f)
noncomputable def AC(f:Expr→Option IE)(c:CC)(x:Str)(args:List Expr)(as:Option IE):Option IE:=
 if aW c x then
  (if c.fns.contains x then as.map fun y=>.call x y
   else if c.cls.contains x then as.map fun y=>.mk x y
   else if x == "isinstance" then HS f c args
   else(oY x).bind fun b=>EK f c b args as)
 else none
noncomputable def YH(f:Expr→Option IE)(c:CC)(g:Expr)(args:List Expr)(as:Option IE)(p:Pos):Option IE:=match g with
 |.Name x _=>AC f c x args as
 |.Attribute o m ap=>if jM o&&decide (args.length<30)&&(ap.endLine == p.line) then(f o).bind fun x=>as.map fun y=>.meth x m y else none
 |_=>none
noncomputable def YF(f:Expr→Option IE):List Expr→Option IE
 |[]=>some (.lit (.bl true))
 |[e]=>f e
 |_=>none
noncomputable def HU(c:CC)(sc:Scope)(g:Comprehension)(it:Option (Src×IE))(ct:Expr→Option IE)(el:Option IE):Option IE:=
 (dA { c with N:=ownNames sc,sc:=sc } g.target).bind fun tg=>it.bind fun k=>(YF ct g.ifs).bind fun te=>el.bind fun el=>(freeOf c sc (sc.names.filter fun x=>x.2 == .free)).bind fun fr =>
  if kB c sc&&tg.1.all (fun i=>(fr.lookup i).isNone)&&!aAC k.1 then some (.comp (ownNames sc).length fr tg.1 tg.2 k.1 k.2 te el) else none
noncomputable def few(es:List Expr):Bool:=decide (es.length≤100)
mutual
noncomputable def cE:Nat→CC→Expr→Option IE
 | 0,_,_=>none
 |n+1,c,e=>match e with
  |.Name x _=>xZ c x
  |.Constant v _ _=>AB v
  |.BinOp a o b _=>(RH o).bind fun o=>(cE n c a).bind fun x=>(cE n c b).map fun y=>.bin o x y
  |.UnaryOp o a _=>aDa (cE n c a) o
  |.BoolOp o vs _=>cB n c false (boK o) vs
  |.IfExp d a b _=>(cT n c d).bind fun x=>(cE n c a).bind fun y=>(cE n c b).map fun z=>.ite x y z
  |.Compare a os bs _=>HV c (cE n c) (cE n c a) os bs
  |.Tuple es _ _=>if few es then(cA n c es).map .tup else none
  |.List es _=>if few es then(cA n c es).map .lst else none
  |.Subscript a i _=>HP (cE n c) (FM a) (eY c a) (cE n c a) i
  |.Attribute a f _=>if jM a then(cE n c a).map fun x=>.fld x f else none
  |.ListComp elt gs sc _=>(one? gs).bind fun g=>if g.is_async=0 then HU c sc g (cI n c g.iter) (cT n { c with N:=ownNames sc,sc:=sc }) (cE n { c with N:=ownNames sc,sc:=sc } elt) else none
  |.Call f args kw p=>if kw.isEmpty then YH (cE n c) c f args (cA n c args) p else none
  |_=>none
noncomputable def cT:Nat→CC→Expr→Option IE
 | 0,_,_=>none
 |n+1,c,e=>match e with
  |.BoolOp o vs _=>cB n c true (boK o) vs
  |.UnaryOp .Not a _=>(cT n c a).map .not
  |.Compare a os bs _=>HV c (cE n c) (cE n c a) os bs
  |.IfExp _ _ _ _=>none
  |e=>(cE n c e).map .tr
noncomputable def cB:Nat→CC→Bool→Bool→List Expr→Option IE
 | 0,_,_,_,_=>none
 |n+1,c,t,k,[]=>none
 |n+1,c,t,k,[a]=>if t then cT n c a else cE n c a
 |n+1,c,t,k,a::b::r=>(if t then cT n c a else cE n c a).bind fun x=>(cB n c t k (b::r)).map fun y=>if k then .and x y else .or x y
noncomputable def cA:Nat→CC→List Expr→Option IE
 | 0,_,_=>none
 |n+1,c,[]=>some .nil
 |n+1,c,e::es=>(cE n c e).bind fun x=>(cA n c es).map fun y=>.cons x y
noncomputable def cI:Nat→CC→Expr→Option (Src×IE)
 | 0,_,_=>none
 |n+1,c,e=>match (lW c e).bind fun q=>(srcOf q.1).map fun k=>(k,q.2) with
  |some q=>(match q.1 with
   |.rng=>(cA n c q.2).map fun y=>(.rng,.tup y)
   |.enum=>(one? q.2).bind fun a=>(cE n c a).map fun y=>(.enum,y)
   |k=>(one? q.2).bind fun a=>(cE n c a).map fun y=>(k,y))
  |none=>(cE n c e).map fun y=>(.seq,y)
end
noncomputable def aIg(i:Expr):Bool:=(ny i).isSome
noncomputable def aAI(c:CC):Expr→Bool
 |.Name x _=>(c.fns.contains x&&c.fresh.contains x) || (aW c x&&(x == "list" || x == "sorted")&&!own c x)
 |.Attribute _ m _=>c.fresh.contains m
 |_=>false
noncomputable def gJ(c:CC):Expr→Bool
 |.List _ _=>true
 |.ListComp _ _ _ _=>true
 |.Subscript _ i _=>aIg i
 |.Call f _ _ _=>aAI c f
 |_=>false
noncomputable def cW(c:CC)(nm:Option Str)(e:Expr):Option Str:=(kY e).bind fun q=>(nameP q.1).bind fun f=>(one? q.2.1).bind fun a=>(nameP a).bind fun y=>if q.2.2.1.isEmpty&&nm == some y.1&&aW c f.1 then some f.1 else none
noncomputable def XH(e:Expr):Option Str:=(aFx e).bind fun v=>match v.1 with
 |.str x=>some x
 |_=>none
noncomputable def cH(c:CC)(nm:Option Str):Expr→Option HR
 |.Constant (.bool b) _ _=>some (.lit (.bl b))
 |.Compare e os bs _=>(cW c nm e).bind fun f=>(one? os).bind fun o=>(one? bs).bind fun b=>(XH b).bind fun x=>if o == .Eq then some (.weq f x) else none
 |e=>(cW c nm e).map .word
noncomputable def cN(c:CC):Option Str→Option (Option Nat)
 |none=>some none
 |some n=>if c.sc.names.lookup n == some .local&&!(n == ("__debug__":Str))&&!(n == ("__classdict__":Str)) then(c.N.idxOf? n).map some else none
noncomputable def aDe(f:Expr→Option IE)(c:CC):Option Expr→Option IS
 |none=>some .retn
 |some e=>match eY c e with
  |some i=>some (.retm i)
  |none=>(f e).map fun x=>.ret (gJ c e) x
noncomputable def BB:Expr→Bool
 |.Dict [] [] _=>true
 |_=>false
noncomputable def HW(f:Expr→Option IE)(c:CC)(x:Str)(e:Expr)(i:Nat):Option IS:=
 if c.mus.contains x then(if BB e then some (.setd i) else if gJ c e then(f e).map fun y=>.setm i y else none) else(f e).map fun y=>.set i y
noncomputable def xX(f:Expr→Option IE)(c:CC)(ts:List Expr)(e:Expr):Option IS:=match tupP e with
 |some _=>none
 |none=>(eX c ts).bind fun is=>(f e).map fun y=>.sett is y
noncomputable def VA(f:Expr→Option IE)(c:CC)(e:Expr):Expr→Option IS
 |.Name x p=>(gB c (.Name x p)).bind (HW f c x e)
 |.Tuple ts _ _=>xX f c ts e
 |.Subscript a i _=>(eY c a).bind fun j=>(f i).bind fun k=>(f e).map fun y=>.put j k y
 |_=>none
noncomputable def UJ(c:CC)(e:Expr):Option (Nat×Expr):=(kY e).bind fun q=>(DL q.1).bind fun g=>(eY c g.1).bind fun j=>(one? q.2.1).bind fun a=>if q.2.2.1.isEmpty&&g.2.1 == "append" && g.2.2.endLine == q.2.2.2.line then some (j,a) else none
noncomputable def QO(c:CC)(e:Expr):Option Nat:=(kY e).bind fun q=>(DL q.1).bind fun g=>(eY c g.1).bind fun j=>if q.2.1.isEmpty&&q.2.2.1.isEmpty&&g.2.1 == "pop" && g.2.2.endLine == q.2.2.2.line then some j else none
noncomputable def aHw(f:Expr→Option IE)(c:CC)(e:Expr):Option IS:=match UJ c e with
 |some q=>(f q.2).map fun x=>.app q.1 x
 |none=>match QO c e with
  |some j=>some (.pop j)
  |none=>(kY e).bind fun _=>(f e).map .drop
noncomputable def aDd(c:CC)(e:Option Expr)(h:Option Expr):Option IS:=e.bind fun e=>(kY e).bind fun q=>(nameP q.1).bind fun x=>(one? q.2.1).bind fun a=>(XH a).bind fun _ =>
 if h.isNone&&q.2.2.1.isEmpty&&aW c x.1&&c.cls.contains x.1 then some (.rse x.1) else none
noncomputable def exP:Stmt→Option (Expr×Pos)
 |.Expr e p=>some (e,p)
 |_=>none
noncomputable def aCZ:Stmt→Option (Option Expr×Pos)
 |.Return e p=>some (e,p)
 |_=>none
noncomputable def aDb(f:Expr→Option IE)(c:CC)(b:List Stmt):List ExceptHandler→Option IS
 |[.ExceptHandler ty nm body _]=>(one? b).bind fun s=>(exP s).bind fun e=>(kY e.1).bind fun _=>ty.bind fun ty=>(nameP ty).bind fun x=>(one? body).bind fun r=>(aCZ r).bind fun r=>r.1.bind fun re =>
   if aW c x.1 then(cN c nm).bind fun i=>(cH c nm re).bind fun r=>(f e.1).map fun u=>.tryx u x.1 i r else none
 |_=>none
mutual
noncomputable def cS:Nat→CC→Stmt→Option IS
 | 0,_,_=>none
 |n+1,c,st=>match st with
  |.Pass _=>some .nop
  |.Return v _=>aDe (cE n c) c v
  |.Assign ts e _=>(one? ts).bind (VA (cE n c) c e)
  |.If t a b _=>(cT n c t).bind fun t=>(jh n c a).bind fun a=>(jh n c b).map fun b=>.iff t a b
  |.For tg iter body qd _=>if qd.isEmpty then(dA c tg).bind fun g=>(cI n c iter).bind fun k=>if KW g.2 k.1 then(jh n c body).map fun b=>.loop g.1 g.2 k.1 k.2 b else none else none
  |.Expr e _=>aHw (cE n c) c e
  |.Raise e h _=>aDd c e h
  |.Try b hs qd fin _=>if qd.isEmpty&&fin.isEmpty then aDb (cE n c) c b hs else none
  |_=>none
noncomputable def jh:Nat→CC→List Stmt→Option IS
 | 0,_,_=>none
 |n+1,c,[]=>some .nop
 |n+1,c,[s]=>cS n c s
 |n+1,c,s::s2::r=>(cS n c s).bind fun a=>(jh n c (s2::r)).map fun b=>.seq a b
end
theorem bM{α:Type}{l:List α}{a:α}(h:one? l=some a):l=[a]:=by
 match l,h with
 |[_],h=>exact congrArg (fun x=>[x]) (rn h)
theorem cP{e:Expr}{x:Str×Pos}(h:nameP e=some x):e=.Name x.1 x.2:=by
 cases e<;>first|exact nomatch (show none=some x from h)|(cases (show some _=some x from h);rfl)
theorem kC{e:Expr}{x:Expr×Str×Pos}(h:DL e=some x):e=.Attribute x.1 x.2.1 x.2.2:=by
 cases e<;>first|exact nomatch (show none=some x from h)|(cases (show some _=some x from h);rfl)
theorem dR{e:Expr}{x:Expr×List Expr×List Keyword×Pos}(h:kY e=some x):e=.Call x.1 x.2.1 x.2.2.1 x.2.2.2:=by
 cases e<;>first|exact nomatch (show none=some x from h)|(cases (show some _=some x from h);rfl)
theorem HK{e:Expr}{x:Option Expr×Option Expr×Option Expr×Pos}(h:ny e=some x):e=.Slice x.1 x.2.1 x.2.2.1 x.2.2.2:=by
 cases e<;>first|exact nomatch (show none=some x from h)|(cases (show some _=some x from h);rfl)
theorem GG{e:Expr}{x:Const×Nat×Pos}(h:aFx e=some x):e=.Constant x.1 x.2.1 x.2.2:=by
 cases e<;>first|exact nomatch (show none=some x from h)|(cases (show some _=some x from h);rfl)
theorem aG{α β:Type}{o:Option α}{f:α→Option β}{b:β}(h:o.bind f=some b):∃a,o=some a∧f a=some b:=qr.mp h
theorem aP{α β:Type}{o:Option α}{f:α→β}{b:β}(h:o.map f=some b):∃a,o=some a∧b=f a:=by
 obtain⟨a,h1,h2⟩:=rq.mp h;exact⟨a,h1,h2.symm⟩
theorem aY{α:Type}{k:Bool}{o:Option α}{a:α}(h:(if k then o else none)=some a):k=true∧o=some a:=by
 cases k with
 |true=>exact⟨rfl,h⟩
 |false=>exact nomatch (show none=some a from h)
theorem cJ{a b:Bool}(h:(a&&b)=true):a=true∧b=true:=(rj a b) ▸ h
theorem VF{a:Bool}(h:(!a)=true):a=false:=by cases a<;>first|rfl|exact h.symm
theorem jA{α:Type}{l:List α}(h:l.isEmpty=true):l=[]:=List.isEmpty_iff.mp h
theorem AR{c:CC}{x:Str}(h:own c x=false):c.fns.contains x=false∧c.cls.contains x=false:=by
 unfold own at h;rw[Bool.or_eq_false_iff]at h;exact h
theorem jC{c:CC}{e:Expr}{q:Str×List Expr}(h:lW c e=some q):∃p1 p2,e=.Call (.Name q.1 p1) q.2 [] p2∧aW c q.1=true∧own c q.1=false:=by
 obtain⟨r,h1,h⟩:=aG h;obtain⟨x,h2,h⟩:=aG h;obtain⟨h3,h⟩:=aY h;obtain⟨h3,h5⟩:=cJ h3;obtain⟨h3,h4⟩:=cJ h3;cases h;exact⟨x.2,r.2.2.2,by rw[dR h1,cP h2,jA h3],h4,VF h5⟩
theorem pU{e:Expr}{x:Str}(h:XH e=some x):∃j p,e=.Constant (.str x) j p:=by
 obtain⟨v,h1,h⟩:=aG h;obtain⟨v,j,p⟩:=v;have e1:=GG h1
 cases v<;>first|exact nomatch (show none=some x from h)|(cases (show some _=some x from h);exact⟨j,p,e1⟩)
end Z
namespace Z
open PySem PySem.Spec PyProof.Rows L2
def ExcAt(xc:Str→Option Addr)(H:Hp)(a:Addr)(c:Str):Prop:=
 ∃φ C,H a=some (.ext φ)∧xc c=some C∧∀h:Heap,φ h→∃o,h.get? a=some o∧o.cls=.ref C
structure Tx where
 cl:Str→Option Addr
 xc:Str→Option Addr
section
variable (K:vi)(T:Tx)(H:Hp)(S:Addr→Prop)
mutual
noncomputable def Rep:D→V→Prop
 |.non,v=>v=.non
 |.bl b,v=>v=.bl b
 |.int i,v=>v=.int i
 |.str x,v=>v=.str x
 |.lst ds,v=>∃a xs,v=.ref a∧¬S a∧H a=some (.lst xs)∧aE ds xs
 |.tup ds,v=>∃a xs,v=.ref a∧¬S a∧SqT K H a xs∧aE ds xs
 |.obj c fs,v=>∃a C dx gs,v=.ref a∧¬S a∧T.cl c=some C∧H a=some (.ins C dx gs)∧cK fs gs
 |.exc c,v=>∃a,v=.ref a∧¬S a∧ExcAt T.xc H a c
 |.dct kvs,v=>∃a gs,v=.ref a∧¬S a∧H a=some (.dK gs)∧bB kvs gs
 |.frz ds,v=>∃a xs,v=.ref a∧¬S a∧SqL K H a xs∧aE ds xs
noncomputable def aE:List D→List V→Prop
 |[],xs=>xs=[]
 |d::ds,xs=>∃x r,xs=x::r∧Rep d x∧aE ds r
noncomputable def cK:List (Str×D)→List (Str×V)→Prop
 |[],gs=>gs=[]
 | (f,d)::fs,gs=>∃x r,gs=(f,x)::r∧Rep d x∧cK fs r
noncomputable def bB:List (Int×D)→List (Key×V)→Prop
 |[],gs=>gs=[]
 | (i,d)::fs,gs=>∃x r,gs=(Sum.inl i,x)::r∧Rep d x∧bB fs r
end
end
section
variable {K:vi}{T:Tx}{H H':Hp}{S S':Addr→Prop}
theorem SqT.keeps{a:Addr}{xs:List V}(h:SqT K H a xs)(k:∀o,H a=some o→H' a=some o):SqT K H' a xs:=by
 rcases h with (h|⟨o,h⟩)|h
 ·exact .inl (.inl (k _ h))
 ·exact .inl (.inr ⟨o,k _ h⟩)
 ·exact .inr h
theorem SqL.keeps{a:Addr}{xs:List V}(h:SqL K H a xs)(k:∀o,H a=some o→H' a=some o):SqL K H' a xs:=by
 rcases h with (h|⟨o,h⟩)|h
 ·exact .inl (.inl (k _ h))
 ·exact .inl (.inr ⟨o,k _ h⟩)
 ·exact .inr h
def aO(K:vi)(H H':Hp)(S S':Addr→Prop):Prop:=∀a,¬S a→((∃o,H a=some o)∨∃o,K.lookup a=some o)→¬S' a∧∀o,H a=some o→H' a=some o
theorem SqT.has{a:Addr}{xs:List V}(h:SqT K H a xs):(∃o,H a=some o)∨∃o,K.lookup a=some o:=by
 rcases h with (h|⟨o,h⟩)|⟨o,_,_,h,_⟩
 ·exact .inl ⟨_,h⟩
 ·exact .inl ⟨_,h⟩
 ·exact .inr ⟨_,h⟩
theorem SqL.has{a:Addr}{xs:List V}(h:SqL K H a xs):(∃o,H a=some o)∨∃o,K.lookup a=some o:=by
 rcases h with (h|⟨o,h⟩)|⟨o,_,_,h,_⟩
 ·exact .inl ⟨_,h⟩
 ·exact .inl ⟨_,h⟩
 ·exact .inr ⟨_,h⟩
mutual
theorem Rep.gen(hk:aO K H H' S S'):∀(d:D) (v:V),Rep K T H S d v→Rep K T H' S' d v
 |.non,v,h=>by unfold Rep at h ⊢;exact h
 |.bl b,v,h=>by unfold Rep at h ⊢;exact h
 |.int i,v,h=>by unfold Rep at h ⊢;exact h
 |.str x,v,h=>by unfold Rep at h ⊢;exact h
 |.lst ds,v,h=>by
  unfold Rep at h ⊢;obtain⟨a,xs,e,n,q,r⟩:=h;obtain⟨n',k⟩:=hk a n (.inl ⟨_,q⟩);exact⟨a,xs,e,n',k _ q,aE.gen hk ds xs r⟩
 |.tup ds,v,h=>by
  unfold Rep at h ⊢;obtain⟨a,xs,e,n,q,r⟩:=h;obtain⟨n',k⟩:=hk a n (SqT.has q);exact⟨a,xs,e,n',SqT.keeps q k,aE.gen hk ds xs r⟩
 |.obj c fs,v,h=>by
  unfold Rep at h ⊢;obtain⟨a,C,dx,gs,e,n,ec,q,r⟩:=h;obtain⟨n',k⟩:=hk a n (.inl ⟨_,q⟩);exact⟨a,C,dx,gs,e,n',ec,k _ q,cK.gen hk fs gs r⟩
 |.exc c,v,h=>by
  unfold Rep at h ⊢;obtain⟨a,e,n,φ,C,q,r⟩:=h;obtain⟨n',k⟩:=hk a n (.inl ⟨_,q⟩);exact⟨a,e,n',φ,C,k _ q,r⟩
 |.dct kvs,v,h=>by
  unfold Rep at h ⊢;obtain⟨a,gs,e,n,q,r⟩:=h;obtain⟨n',k⟩:=hk a n (.inl ⟨_,q⟩);exact⟨a,gs,e,n',k _ q,bB.gen hk kvs gs r⟩
 |.frz ds,v,h=>by
  unfold Rep at h ⊢;obtain⟨a,xs,e,n,q,r⟩:=h;obtain⟨n',k⟩:=hk a n (SqL.has q);exact⟨a,xs,e,n',SqL.keeps q k,aE.gen hk ds xs r⟩
theorem aE.gen(hk:aO K H H' S S'):∀(ds:List D) (xs:List V),aE K T H S ds xs→aE K T H' S' ds xs
 |[],xs,h=>by unfold aE at h ⊢;exact h
 |d::ds,xs,h=>by
  unfold aE at h ⊢;obtain⟨x,r,e,p,q⟩:=h;exact⟨x,r,e,Rep.gen hk d x p,aE.gen hk ds r q⟩
theorem cK.gen(hk:aO K H H' S S'):∀(ds:List (Str×D)) (xs:List (Str×V)),cK K T H S ds xs→cK K T H' S' ds xs
 |[],xs,h=>by unfold cK at h ⊢;exact h
 | (f,d)::ds,xs,h=>by
  unfold cK at h ⊢;obtain⟨x,r,e,p,q⟩:=h;exact⟨x,r,e,Rep.gen hk d x p,cK.gen hk ds r q⟩
theorem bB.gen(hk:aO K H H' S S'):∀(ds:List (Int×D)) (xs:List (Key×V)),bB K T H S ds xs→bB K T H' S' ds xs
 |[],xs,h=>by unfold bB at h ⊢;exact h
 | (f,d)::ds,xs,h=>by
  unfold bB at h ⊢;obtain⟨x,r,e,p,q⟩:=h;exact⟨x,r,e,Rep.gen hk d x p,bB.gen hk ds r q⟩
end
theorem aO.mk(hS:∀a,S' a→S a)(hk:∀b o,¬S b→H b=some o→H' b=some o):aO K H H' S S':=fun a n _=>⟨fun z=>n (hS a z),fun o=>hk a o n⟩
theorem aO.add{D:Addr}{o:HO}(hD:H D=none)(hK:K.lookup D=none):aO K H (upd H D o) S (fun a=>S a∨a=D):=fun a n h=>by
 have ne:a≠D:=by
  rintro rfl
  rcases h with ⟨u,e⟩|⟨u,e⟩
  ·rw[hD]at e;cases e
  ·rw[hK]at e;cases e
 exact⟨fun z=>z.elim n ne,fun u e=>by rw[aN ne];exact e⟩
theorem Rep.mono(hS:∀a,S' a→S a)(hk:∀b o,¬S b→H b=some o→H' b=some o)(d:D)(v:V)(h:Rep K T H S d v):Rep K T H' S' d v:=Rep.gen (aO.mk hS hk) d v h
theorem aE.mono(hS:∀a,S' a→S a)(hk:∀b o,¬S b→H b=some o→H' b=some o)(d:List D)(v:List V)(h:aE K T H S d v):aE K T H' S' d v:=aE.gen (aO.mk hS hk) d v h
theorem Rep.same(k:aH H H'){d:D}{v:V}(h:Rep K T H S d v):Rep K T H' S d v:=Rep.mono (fun _ z=>z) (fun b o _=>k b o) d v h
theorem aE.same(k:aH H H'){d:List D}{v:List V}(h:aE K T H S d v):aE K T H' S d v:=aE.mono (fun _ z=>z) (fun b o _=>k b o) d v h
theorem aE.len:∀{ds:List D} {xs:List V},aE K T H S ds xs→ds.length=xs.length
 |[],xs,h=>by unfold aE at h;subst h;rfl
 |d::ds,xs,h=>by
  unfold aE at h;obtain⟨x,r,rfl,_,q⟩:=h;simp[aE.len q]
theorem aE.get:∀{ds:List D} {xs:List V} {i:Nat} {d:D},aE K T H S ds xs→ds[i]?=some d→∃x,xs[i]?=some x∧Rep K T H S d x
 |[],_,_,_,_,e=>by simp at e
 |d::ds,xs,0,d',h,e=>by
  unfold aE at h;obtain⟨x,r,rfl,p,q⟩:=h;simp at e;subst e;exact⟨x,rfl,p⟩
 |d::ds,xs,i+1,d',h,e=>by
  unfold aE at h;obtain⟨x,r,rfl,p,q⟩:=h;obtain⟨y,h1,h2⟩:=aE.get (i:=i) (d:=d') q (by simpa using e)
  exact⟨y,by simpa using h1,h2⟩
theorem aE.app:∀{ds es:List D} {xs ys:List V},aE K T H S ds xs→aE K T H S es ys→aE K T H S (ds++es) (xs++ys)
 |[],es,xs,ys,h,g=>by unfold aE at h;subst h;exact g
 |d::ds,es,xs,ys,h,g=>by
  unfold aE at h;obtain⟨x,r,rfl,p,q⟩:=h;show aE K T H S (d::(ds++es)) _
  unfold aE;exact⟨x,r++ys,rfl,p,aE.app q g⟩
theorem aE.nil:aE K T H S [] []:=by unfold aE;rfl
theorem aE.cons{d:D}{x:V}{ds:List D}{xs:List V}(h:Rep K T H S d x)(g:aE K T H S ds xs):aE K T H S (d::ds) (x::xs):=by unfold aE;exact⟨x,xs,rfl,h,g⟩
theorem aE.drop:∀{ds:List D} {xs:List V} (n:Nat),aE K T H S ds xs→aE K T H S (ds.drop n) (xs.drop n)
 |ds,xs,0,h=>h
 |[],xs,n+1,h=>by unfold aE at h;subst h;exact aE.nil
 |d::ds,xs,n+1,h=>by
  unfold aE at h;obtain⟨x,r,rfl,p,q⟩:=h;exact aE.drop n q
theorem aE.take:∀{ds:List D} {xs:List V} (n:Nat),aE K T H S ds xs→aE K T H S (ds.take n) (xs.take n)
 |ds,xs,0,h=>by simp;exact aE.nil
 |[],xs,n+1,h=>by unfold aE at h;subst h;exact aE.nil
 |d::ds,xs,n+1,h=>by
  unfold aE at h;obtain⟨x,r,rfl,p,q⟩:=h;exact aE.cons p (aE.take n q)
theorem aE.set:∀{ds:List D} {xs:List V} (n:Nat) {d:D} {v:V},aE K T H S ds xs→Rep K T H S d v→aE K T H S (ds.set n d) (xs.set n v)
 |[],xs,n,d,v,h,g=>by unfold aE at h;subst h;exact aE.nil
 |_::ds,xs,0,d,v,h,g=>by
  unfold aE at h;obtain⟨x,r,rfl,p,q⟩:=h;exact aE.cons g q
 |_::ds,xs,n+1,d,v,h,g=>by
  unfold aE at h;obtain⟨x,r,rfl,p,q⟩:=h;exact aE.cons p (aE.set n q g)
theorem aE.rev:∀{ds:List D} {xs:List V},aE K T H S ds xs→aE K T H S ds.reverse xs.reverse
 |[],xs,h=>by unfold aE at h;subst h;exact aE.nil
 |d::ds,xs,h=>by
  unfold aE at h;obtain⟨x,r,rfl,p,q⟩:=h;rw[reverse_cons,reverse_cons];exact aE.app (aE.rev q) (aE.cons p aE.nil)
theorem cK.look{f:Str}:∀{ds:List (Str×D)} {xs:List (Str×V)},cK K T H S ds xs→(∀d,ds.lookup f=some d→∃x,xs.lookup f=some x∧Rep K T H S d x)∧(ds.lookup f=none→xs.lookup f=none)
 |[],xs,h=>by unfold cK at h;subst h;exact⟨fun d e=>by simp at e,fun _=>rfl⟩
 | (g,d)::ds,xs,h=>by
  unfold cK at h;obtain⟨x,r,rfl,p,q⟩:=h;obtain⟨i1,i2⟩:=cK.look (f:=f) q;rw[lookup_cons,lookup_cons];cases e:f == g with
  |true=>exact⟨fun d' z=>⟨x,rfl,by cases z;exact p⟩,fun z=>by cases z⟩
  |false=>exact⟨i1,i2⟩
end
noncomputable def er(H:Hp)(p:Addr):Hp:=fun a=>if a=p then none else H a
theorem CU{H:Hp}{p a:Addr}{o:HO}:er H p a=some o↔a≠p∧H a=some o:=by
 unfold er;split<;>simp_all
theorem iD{H:Hp}{p:Addr}{o:HO}(h:H p=none):er (upd H p o) p=H:=by
 funext a
 unfold er
 by_cases e:a=p
 ·rw[if_pos e,e,h]
 ·rw[if_neg e,aN e]
theorem aE.er{K:vi}{T:Tx}{H:Hp}{S:Addr→Prop}{p:Addr}{ds:List D}{xs:List V}(h:aE K T (er H p) S ds xs):aE K T H S ds xs:=aE.mono (fun _ z=>z) (fun b o _ e=>(CU.mp e).2) ds xs h
theorem aE.disown{K:vi}{T:Tx}{H:Hp}{S S':Addr→Prop}{p:Addr}{ds:List D}{xs:List V}(hp:S p)(hs:∀a,S' a→S a)(h:aE K T H S ds xs):aE K T (Z.er H p) S' ds xs:=
 aE.gen (fun a n _=>⟨fun z=>n (hs a z),fun o e=>CU.mpr ⟨fun z=>n (by rw[z];exact hp),e⟩⟩) ds xs h
theorem aO.own{K:vi}{H:Hp}{S:Addr→Prop}{p:Addr}(hk:K.lookup p=none):aO K (Z.er H p) H S (fun a=>S a∨a=p):=fun a n q=>by
 have ne:a≠p:=by
  rintro rfl
  rcases q with ⟨o,e⟩|⟨o,e⟩
  ·exact(CU.mp e).1 rfl
  ·rw[hk]at e;cases e
 exact⟨fun z=>z.elim n ne,fun o e=>(CU.mp e).2⟩
def lY(K:vi)(T:Tx)(H:Hp)(S:Addr→Prop)(d:D)(o:HO):Prop:=(∃ds xs,d=.lst ds∧o=.lst xs∧aE K T H S ds xs)∨∃kvs gs,d=.dct kvs∧o=.dK gs∧bB K T H S kvs gs
theorem lY.gen{K:vi}{T:Tx}{H H':Hp}{S S':Addr→Prop}{d:D}{o:HO}(mv:aO K H H' S S')(h:lY K T H S d o):lY K T H' S' d o:=by
 rcases h with ⟨ds,xs,e1,e2,r⟩|⟨ds,xs,e1,e2,r⟩
 ·exact .inl ⟨ds,xs,e1,e2,aE.gen mv _ _ r⟩
 ·exact .inr ⟨ds,xs,e1,e2,bB.gen mv _ _ r⟩
theorem lY.lst{K:vi}{T:Tx}{H:Hp}{S:Addr→Prop}{ds:List D}{o:HO}(h:lY K T H S (.lst ds) o):∃xs,o=.lst xs∧aE K T H S ds xs:=by
 rcases h with ⟨ds',xs,e1,e2,r⟩|⟨ds',xs,e1,e2,r⟩
 ·cases e1;exact⟨xs,e2,r⟩
 ·cases e1
theorem lY.dct{K:vi}{T:Tx}{H:Hp}{S:Addr→Prop}{ds:List (Int×D)}{o:HO}(h:lY K T H S (.dct ds) o):∃xs,o=.dK xs∧bB K T H S ds xs:=by
 rcases h with ⟨ds',xs,e1,e2,r⟩|⟨ds',xs,e1,e2,r⟩
 ·cases e1
 ·cases e1;exact⟨xs,e2,r⟩
theorem lY.rep{K:vi}{T:Tx}{H:Hp}{S S':Addr→Prop}{d:D}{o:HO}{p:Addr}(h:lY K T H S d o)(hp:H p=some o)(hn:¬S' p)(hs:∀a,S' a→S a):Rep K T H S' d (.ref p):=by
 rcases h with ⟨ds,xs,rfl,rfl,r⟩|⟨ds,xs,rfl,rfl,r⟩
 ·unfold Rep;exact⟨p,xs,rfl,hn,hp,aE.gen (aO.mk hs fun _ _ _ e=>e) _ _ r⟩
 ·unfold Rep;exact⟨p,xs,rfl,hn,hp,bB.gen (aO.mk hs fun _ _ _ e=>e) _ _ r⟩
section
variable (K:vi)(T:Tx)(H:Hp)(S:Addr→Prop)
def UL(s:Sl)(o:Option (Option V)):Prop:=match s with
 |.un=>True
 |.im d=>∃v,o=some (some v)∧Rep K T H S d v
 |.mu d=>∃p ob,o=some (some (.ref p))∧S p∧H p=some ob∧lY K T H S d ob
structure RE (ρ:List Sl) (σ:L2.St):Prop where
 dom:∀a,S a→∃o,H a=some o
 len:ρ.length=σ.length
 at_:∀(i:Nat) s,ρ[i]?=some s→UL K T H S s σ[i]?
def tD(ρ:List Sl)(d:D):TE:=fun σ H Q=>RE K T H S ρ σ∧∀v H',aH H H'→Rep K T H' S d v→Q v H'
def c6(ρ:List Sl)(ds:List D):TA:=fun σ H Q=>RE K T H S ρ σ∧∀vs H',aH H H'→aE K T H' S ds vs→Q vs H'
noncomputable def gk(ρ:List Sl)(b:Bool):TT:=fun σ H Q=>RE K T H S ρ σ∧∀H',aH H H'→Q b H'
def ez(ρ:List Sl)(ds:List D):TE:=fun σ H Q=>RE K T H S ρ σ∧∀p xs H',aH H H'→H p=none→H' p=some (.lst xs)→aE K T (er H' p) S ds xs→Q (.ref p) H'
end
section
variable {K:vi}{T:Tx}{H H':Hp}{S S':Addr→Prop}{ρ:List Sl}{σ:L2.St}
theorem UL.same(k:aH H H'){s:Sl}{o:Option (Option V)}(h:UL K T H S s o):UL K T H' S s o:=by
 cases s with
 |un=>trivial
 |im d=>obtain⟨v,e,r⟩:=h;exact⟨v,e,r.same k⟩
 |mu ds=>obtain⟨p,xs,e,n,q,r⟩:=h;exact⟨p,xs,e,n,k _ _ q,r.gen (aO.mk (fun _ z=>z) fun b o _=>k b o)⟩
theorem RE.same(k:aH H H')(h:RE K T H S ρ σ):RE K T H' S ρ σ:=
 ⟨fun a z=>let ⟨o,e⟩:=h.dom a z;⟨o,k a o e⟩,h.len,fun i s e=>(h.at_ i s e).same k⟩
theorem RE.nS(h:RE K T H S ρ σ){a:Addr}(e:H a=none):¬S a:=fun z=>by
 obtain⟨o,q⟩:=h.dom a z;rw[e]at q;cases q
end
theorem PE.mono{X:Cx}{e:Expr}{t t':TE}(h:PE X e t)(m:∀σ H Q,t' σ H Q→t σ H Q):PE X e t':=fun pins s σ H Q I hw=>h pins s σ H Q I (m σ H Q hw)
theorem PT.mono{X:Cx}{e:Expr}{t t':TT}(h:PT X e t)(m:∀σ H Q,t' σ H Q→t σ H Q):PT X e t':=fun pins s σ H Q I hw=>h pins s σ H Q I (m σ H Q hw)
theorem PW.mono{X:Cx}{e:Expr}{t t':TT}(h:PW X e t)(m:∀σ H Q,t' σ H Q→t σ H Q):PW X e t':=fun wh pins s σ H Q I hw=>h wh pins s σ H Q I (m σ H Q hw)
theorem PA.mono{X:Cx}{e:List Expr}{t t':TA}(h:PA X e t)(m:∀σ H Q,t' σ H Q→t σ H Q):PA X e t':=fun pos pins s σ H Q I hw=>h pos pins s σ H Q I (m σ H Q hw)
theorem aH.upd{H:Hp}{p:Addr}{o:HO}(h:H p=none):aH H (upd H p o):=fun b u e=>by rw[aN (bE e h)];exact e
mutual
noncomputable def py:D→PyData
 |.non=>.none
 |.bl b=>.bool b
 |.int i=>.int i
 |.str x=>.str x
 |.lst xs=>.list (cm xs)
 |.tup xs=>.tuple (cm xs)
 |.obj _ _=>.none
 |.exc _=>.none
 |.dct _=>.none
 |.frz _=>.none
noncomputable def cm:List D→List PyData
 |[]=>[]
 |d::r=>py d::cm r
end
theorem dQ{n:Nat}(h:∀d,flat n d=true→(py d).canLay0=true):∀ds:List D,ds.all (flat n)=true→PyData.canLayAll0 (cm ds)=true
 |[],_=>by simp[cm,PyData.canLayAll0]
 |d::ds,e=>by
  rw[all_cons,rj]at e;simp only[cm,PyData.canLayAll0,rj];exact⟨h d e.1,dQ h ds e.2⟩
theorem canLay:∀(n:Nat) (d:D),flat n d=true→(py d).canLay0=true
 |n,.non,_=>by simp[py,PyData.canLay0]
 |n,.bl _,_=>by simp[py,PyData.canLay0]
 |n,.int _,_=>by simp[py,PyData.canLay0]
 |n,.str x,h=>by
  have e:oi x=true:=by cases n<;>simpa [flat] using h
  simp only[py,PyData.canLay0];exact e
 | 0,.lst _,h=>by simp[flat]at h
 | 0,.tup _,h=>by simp[flat]at h
 |n+1,.lst xs,h=>by
  simp only[py,PyData.canLay0];exact dQ (canLay n) xs (by simpa [flat] using h)
 |n+1,.tup xs,h=>by
  simp only[py,PyData.canLay0];exact dQ (canLay n) xs (by simpa [flat] using h)
 |n,.obj _ _,h=>by cases n<;>simp[flat]at h
 |n,.exc _,h=>by cases n<;>simp[flat]at h
 |n,.dct _,h=>by cases n<;>simp[flat]at h
 |n,.frz _,h=>by cases n<;>simp[flat]at h
theorem lV{n:Nat}(h:∀d,flat n d=true→(py d).depth≤n):∀ds:List D,ds.all (flat n)=true→PyData.depthAll (cm ds)≤n
 |[],_=>by simp[cm,PyData.depthAll]
 |d::ds,e=>by
  rw[all_cons,rj]at e;simp only[cm,PyData.depthAll];exact Nat.max_le.mpr ⟨h d e.1,lV h ds e.2⟩
theorem oR:∀(n:Nat) (d:D),flat n d=true→(py d).depth≤n
 |n,.non,_=>by simp[py,PyData.depth]
 |n,.bl _,_=>by simp[py,PyData.depth]
 |n,.int _,_=>by simp[py,PyData.depth]
 |n,.str x,h=>by simp[py,PyData.depth]
 | 0,.lst _,h=>by simp[flat]at h
 | 0,.tup _,h=>by simp[flat]at h
 |n+1,.lst xs,h=>by
  simp only[py,PyData.depth];exact Nat.succ_le_succ (lV (oR n) xs (by simpa [flat] using h))
 |n+1,.tup xs,h=>by
  simp only[py,PyData.depth];exact Nat.succ_le_succ (lV (oR n) xs (by simpa [flat] using h))
 |n,.obj _ _,h=>by simp[py,PyData.depth]
 |n,.exc _,h=>by simp[py,PyData.depth]
 |n,.dct _,h=>by simp[py,PyData.depth]
 |n,.frz _,h=>by simp[py,PyData.depth]
theorem DB{n:Nat}(h:∀d e,flat n d=true→flat n e=true→b7 d e=PyData.eqv (py d) (py e)):∀ds es:List D,ds.all (flat n)=true→es.all (flat n)=true→kU ds es=PyData.eqvAll (cm ds) (cm es)
 |[],[],_,_=>by simp[kU,cm,PyData.eqvAll]
 |[],_::_,_,_=>by simp[kU,cm,PyData.eqvAll]
 |_::_,[],_,_=>by simp[kU,cm,PyData.eqvAll]
 |d::ds,e::es,a,b=>by
  rw[all_cons,rj]at a b;simp only[kU,cm,PyData.eqvAll];rw[h d e a.1 b.1,DB h ds es a.2 b.2]
theorem tX:∀(n:Nat) (d e:D),flat n d=true→flat n e=true→b7 d e=PyData.eqv (py d) (py e)
 | 0,d,e,a,b=>by
  cases d<;>cases e<;>first|(simp[flat]at a;done)|(simp[flat]at b;done)|simp[b7,py,PyData.eqv]
 |n+1,d,e,a,b=>by
  cases d<;>cases e<;>first
   | (simp[flat]at a;done)
   | (simp[flat]at b;done)
   | (simp only[b7,py,PyData.eqv];exact DB (tX n) _ _ (by simpa [flat] using a) (by simpa [flat] using b))
   |simp[b7,py,PyData.eqv]
section
variable {X:Cx}{T:Tx}{pins:vn}{σ:L2.St}{H:Hp}{s:Shared}{S:Addr→Prop}
theorem lH{n:Nat}(h:∀d v u,flat n d=true→Rep X.K T H S d v→RelV v u→∃as,Reads s.heap u (py d) as) :
  ∀(ds:List D) (xs:List V) (us:List Value),ds.all (flat n)=true→aE X.K T H S ds xs→aQ xs us→∃as,ReadsAll s.heap us (cm ds) as
 |[],xs,us,_,r,v=>by
  unfold aE at r;subst r;cases v;exact⟨_,.nil⟩
 |d::ds,xs,us,e,r,v=>by
  rw[all_cons,rj]at e;unfold aE at r;obtain⟨x,q,rfl,r1,r2⟩:=r;cases v with
  |cons v1 v2 =>
   obtain⟨as,h1⟩:=h d x _ e.1 r1 v1;obtain⟨bs,h2⟩:=lH h ds q _ e.2 r2 v2;exact⟨_,.cons h1 h2⟩
theorem dX(I:Inv X pins σ H s):∀(n:Nat) (d:D) (v:V) (u:Value),flat n d=true→Rep X.K T H S d v→RelV v u→∃as,Reads s.heap u (py d) as
 |n,.non,v,u,_,r,q=>by
  unfold Rep at r;subst r;cases q;exact⟨_,.none⟩
 |n,.bl b,v,u,_,r,q=>by
  unfold Rep at r;subst r;cases q;exact⟨_,.bool b⟩
 |n,.int i,v,u,_,r,q=>by
  unfold Rep at r;subst r;obtain⟨t,rfl⟩:=q;exact⟨_,.int i t⟩
 |n,.str x,v,u,_,r,q=>by
  unfold Rep at r;subst r;obtain⟨t,rfl⟩:=q;exact⟨_,.str x t⟩
 | 0,.lst _,_,_,h,_,_=>by simp[flat]at h
 | 0,.tup _,_,_,h,_,_=>by simp[flat]at h
 |n+1,.lst ds,v,u,h,r,q=>by
  unfold Rep at r;obtain⟨a,xs,rfl,_,e,r⟩:=r;cases q;obtain⟨its,rv,⟨o,k,ho,hc,hd,hs⟩,_⟩:=I.list (SqL.of e);obtain⟨as,ra⟩:=lH (dX I n) ds xs its (by simpa [flat] using h) r rv
  simp only[py];exact⟨_,.list ho hc hs (by simpa using ra)⟩
 |n+1,.tup ds,v,u,h,r,q=>by
  unfold Rep at r;obtain⟨a,xs,rfl,_,e,r⟩:=r;cases q;obtain⟨its,rv,⟨o,ho,hc,k,hs⟩,_⟩:=I.tuple e;obtain⟨as,ra⟩:=lH (dX I n) ds xs its (by simpa [flat] using h) r rv
  simp only[py];exact⟨_,.tuple ho hc hs (by simpa using ra)⟩
 |n,.obj _ _,_,_,h,_,_=>by cases n<;>simp[flat]at h
 |n,.exc _,_,_,h,_,_=>by cases n<;>simp[flat]at h
 |n,.dct _,_,_,h,_,_=>by cases n<;>simp[flat]at h
 |n,.frz _,_,_,h,_,_=>by cases n<;>simp[flat]at h
end
noncomputable def rD(K:vi)(T:Tx)(S:Addr→Prop)(o:O2):R2:=fun x y H Q =>
 ∃a b d,(∀a,S a→∃o,H a=some o)∧Rep K T H S a x∧Rep K T H S b y∧ah o a b=some d∧∀v H',aH H H'→Rep K T H' S d v→Q v H'
theorem iI:big≤sizeLine:=by rw[sizeLine_eq];decide
section
variable {X:Cx}{T:Tx}{S:Addr→Prop}
theorem vG{K:vi}{H:Hp}{p:Addr}{ds:List D}{xs:List V}(dom:∀a,S a→∃o,H a=some o)(hp:H p=none)(r:aE K T H S ds xs):Rep K T (upd H p (.lst xs)) S (.lst ds) (.ref p):=by
 unfold Rep;exact⟨p,xs,rfl,fun z=>(by obtain⟨o,e⟩:=dom p z;rw[hp]at e;cases e),aM,r.same (aH.upd hp)⟩
theorem eS{K:vi}{H:Hp}{p:Addr}{ds:List D}{xs:List V}(dom:∀a,S a→∃o,H a=some o)(hp:H p=none)(r:aE K T H S ds xs):Rep K T (upd H p (.tup xs)) S (.tup ds) (.ref p):=by
 unfold Rep;exact⟨p,xs,rfl,fun z=>(by obtain⟨o,e⟩:=dom p z;rw[hp]at e;cases e),SqT.of aM,r.same (aH.upd hp)⟩
theorem MJ{prog:vk}{w:World}{A:Around}{E:vm}{s:Shared}{t b:Addr}{ws:List Value}{Q:vm}(ht:IsTup s.heap t (#[]:Array Value))(hb:IsTup s.heap b ws.toArray)
  (h1:Q (.ref b) s) (hsz:ws.length≤sizeLine):wpAny (model prog w) A (binaryOp .Add (.ref t) (.ref b)) Q E s:=by
 obtain⟨⟨cls,dd,data,sl⟩,ho,hc,n,hd⟩:=id ht;obtain⟨⟨cls2,ng,data2,lq⟩,cy,fq,n2,hd2⟩:=id hb;simp only at hc hd fq hd2;subst hc hd fq hd2;exact concat_meets ⟨_,ho,rfl⟩ ⟨_,cy,rfl⟩ noFill_tuple_add seq_tuple_add slot_tuple_add entry_tuple_add (args_tuple_add_2 _ _)
   (tuple_addW0 t b #[] ws.toArray n n2 dd ng sl lq (by simp)) ⟨ho,cy,h1⟩
theorem RN:ay X (binaryOp .Add) (rD X.K T S .add):=by
 rintro pins s σ H x y v u Q I rx ry ⟨a,b,d,dom,ra,rb,e,q⟩;simp only[ah,RT]at e;split at e
 ·rename_i i j;unfold Rep at ra rb;cases e;exact ZS pins s σ H x y v u Q I rx ry ⟨i,j,ra,rb,q _ H (aH.refl H) (by unfold Rep;rfl)⟩
 ·rename_i i j;unfold Rep at ra rb;split at e
  ·rename_i hz;cases e;exact yH pins s σ H x y v u Q I rx ry ⟨i,j,ra,rb,sr hz iI,q _ H (aH.refl H) (by unfold Rep;rfl)⟩
  ·cases e
 ·rename_i as bs;unfold Rep at ra rb;obtain⟨l,xs,ex,_,e1,r1⟩:=ra;obtain⟨b,ys,ey,_,e2,r2⟩:=rb;split at e
  ·rename_i hz;cases e;refine IX pins s σ H x y v u Q I rx ry ⟨l,b,xs,ys,ex,ey,e1,e2,?_,fun p hp=>q _ _ (aH.upd hp) (vG dom hp (r1.app r2))⟩
   rw[←r1.len,←r2.len];exact sr hz iI
  ·cases e
 ·rename_i as bs;have ra':=ra
  have rb':=rb
  unfold Rep at ra rb;obtain⟨l,xs,ex,_,e1,r1⟩:=ra;obtain⟨b,ys,ey,_,e2,r2⟩:=rb;split at e
  ·rename_i hz;cases e;have du:xs.length+ys.length≤sizeLine:=by rw[←r1.len,←r2.len];exact sr hz iI
   by_cases hx:xs=[]
   ·subst hx ex ey;cases rx;cases ry;have ea:as=[]:=tm.mp r1.len
    subst ea;obtain⟨its,v1,p1,_⟩:=I.tuple e1;obtain⟨da,v2,p2,z2⟩:=I.tuple e2;cases v1;exact MJ p1 p2 ⟨.ref b,H,I,rfl,q _ H (aH.refl H) (by simpa using rb')⟩ (by rw[←v2.length];exact z2)
   ·refine RG pins s σ H x y v u Q I rx ry ⟨l,b,xs,ys,ex,ey,e1,e2,hx,du,fun hy=>?_,fun hy p hp=>q _ _ (aH.upd hp) (eS dom hp (r1.app r2))⟩
    subst hy;have eb:bs=[]:=tm.mp r2.len
    subst eb;rw[←ex];exact q _ H (aH.refl H) (by simpa using ra')
  ·cases e
 ·cases e
theorem RI:ay X (binaryOp .Sub) (rD X.K T S .sub):=by
 rintro pins s σ H x y v u Q I rx ry ⟨a,b,d,dom,ra,rb,e,q⟩;simp only[ah,aEy]at e;split at e
 ·rename_i i j;unfold Rep at ra rb;cases e;exact ZN pins s σ H x y v u Q I rx ry ⟨i,j,ra,rb,q _ H (aH.refl H) (by unfold Rep;rfl)⟩
 ·cases e
theorem RK:ay X (binaryOp .Mult) (rD X.K T S .mul):=by
 rintro pins s σ H x y v u Q I rx ry ⟨a,b,d,dom,ra,rb,e,q⟩;simp only[ah,aEA]at e;split at e
 ·rename_i i j;unfold Rep at ra rb;split at e
  ·rename_i hz;cases e;exact ZP pins s σ H x y v u Q I rx ry ⟨i,j,ra,rb,hz,q _ H (aH.refl H) (by unfold Rep;rfl)⟩
  ·cases e
 ·cases e
theorem IZ:ay X (binaryOp .FloorDiv) (rD X.K T S .fdiv):=by
 rintro pins s σ H x y v u Q I rx ry ⟨a,b,d,dom,ra,rb,e,q⟩;simp only[ah,oDiv]at e;split at e
 ·rename_i i j;unfold Rep at ra rb;split at e
  ·rename_i hz;cases e;exact RF pins s σ H x y v u Q I rx ry ⟨i,j,ra,rb,hz,q _ H (aH.refl H) (by unfold Rep;rfl)⟩
  ·cases e
 ·cases e
theorem RL:ay X (binaryOp .Mod) (rD X.K T S .mod):=by
 rintro pins s σ H x y v u Q I rx ry ⟨a,b,d,dom,ra,rb,e,q⟩;simp only[ah,oMod]at e;split at e
 ·rename_i i j;unfold Rep at ra rb;split at e
  ·rename_i hz;cases e;exact ZQ pins s σ H x y v u Q I rx ry ⟨i,j,ra,rb,hz,q _ H (aH.refl H) (by unfold Rep;rfl)⟩
  ·cases e
 ·cases e
theorem RJ:ay X (binaryOp .Pow) (rD X.K T S .pow):=by
 rintro pins s σ H x y v u Q I rx ry ⟨a,b,d,dom,ra,rb,e,q⟩;simp only[ah,aEz]at e;split at e
 ·rename_i i j;unfold Rep at ra rb;split at e
  ·rename_i hz;cases e;exact ZO pins s σ H x y v u Q I rx ry ⟨i,j,ra,rb,⟨hz.1,by lia,hz.2.2⟩,q _ H (aH.refl H) (by unfold Rep;rfl)⟩
  ·cases e
 ·cases e
theorem RM{op:Operator}{o:O2}(h:RH op=some o):ay X (binaryOp op) (rD X.K T S o):=by
 cases op<;>simp only[RH]at h<;>first|(cases h;done)|(cases h;first|exact RN|exact RI|exact RK|exact IZ|exact RL|exact RJ)
theorem bT{K:vi}{H:Hp}{b:Bool}:Rep K T H S (.bl b) (.bl b):=by unfold Rep;rfl
theorem ZU:ay X (compareOp .Lt) (rD X.K T S .lt):=by
 rintro pins s σ H x y v u Q I rx ry ⟨a,b,d,dom,ra,rb,e,q⟩;simp only[ah,oLt]at e;split at e
 ·rename_i i j;unfold Rep at ra rb;cases e;exact aDP pins s σ H x y v u Q I rx ry ⟨i,j,ra,rb,q _ H (aH.refl H) bT⟩
 ·cases e
theorem ZV:ay X (compareOp .LtE) (rD X.K T S .le):=by
 rintro pins s σ H x y v u Q I rx ry ⟨a,b,d,dom,ra,rb,e,q⟩;simp only[ah,oLe]at e;split at e
 ·rename_i i j;unfold Rep at ra rb;cases e;exact aDQ pins s σ H x y v u Q I rx ry ⟨i,j,ra,rb,q _ H (aH.refl H) bT⟩
 ·cases e
theorem ZY:ay X (compareOp .Gt) (rD X.K T S .gt):=by
 rintro pins s σ H x y v u Q I rx ry ⟨a,b,d,dom,ra,rb,e,q⟩;simp only[ah,oGt]at e;split at e
 ·rename_i i j;unfold Rep at ra rb;cases e;exact aDR pins s σ H x y v u Q I rx ry ⟨i,j,ra,rb,q _ H (aH.refl H) bT⟩
 ·cases e
theorem ZZ:ay X (compareOp .GtE) (rD X.K T S .ge):=by
 rintro pins s σ H x y v u Q I rx ry ⟨a,b,d,dom,ra,rb,e,q⟩;simp only[ah,oGe]at e;split at e
 ·rename_i i j;unfold Rep at ra rb;cases e;exact aDS pins s σ H x y v u Q I rx ry ⟨i,j,ra,rb,q _ H (aH.refl H) bT⟩
 ·cases e
theorem UY{A:Around}(hu:A.units+64<cLine){d e:D}(hd:plain d=true):A.units+min (py d).depth (py e).depth<cLine:=by
 have h1:=oR 8 d hd
 have h2:min (py d).depth (py e).depth≤(py d).depth:=Nat.min_le_left _ _
 lia
theorem aAa(hu:X.A.units+64<cLine):ay X (compareOp .Eq) (rD X.K T S .eq):=by
 rintro pins s σ H x y v u Q I rx ry ⟨a,b,d,dom,ra,rb,e,q⟩;simp only[ah,oEq]at e;split at e
 ·rename_i hp;rw[rj]at hp;cases e;obtain⟨as,h1⟩:=dX I 8 a x v hp.1 ra rx;obtain⟨bs,h2⟩:=dX I 8 b y u hp.2 rb ry;refine SeqAt.compareEq_reads h1 h2 (canLay 8 a hp.1) (canLay 8 b hp.2) (UY hu hp.1) ⟨.bl _,H,I,rfl,?_⟩;rw[←tX 8 a b hp.1 hp.2];exact q _ H (aH.refl H) bT
 ·cases e
theorem ZT(hu:X.A.units+64<cLine):ay X (compareOp .NotEq) (rD X.K T S .ne):=by
 rintro pins s σ H x y v u Q I rx ry ⟨a,b,d,dom,ra,rb,e,q⟩;simp only[ah,oNe]at e;split at e
 ·rename_i hp;rw[rj]at hp;cases e;obtain⟨as,h1⟩:=dX I 8 a x v hp.1 ra rx;obtain⟨bs,h2⟩:=dX I 8 b y u hp.2 rb ry;refine SeqAt.compareNe_reads h1 h2 (canLay 8 a hp.1) (canLay 8 b hp.2) (UY hu hp.1) ⟨.bl _,H,I,rfl,?_⟩;rw[←tX 8 a b hp.1 hp.2];exact q _ H (aH.refl H) bT
 ·cases e
theorem oZ(a:D)(ha:plain a=true):∀ds:List D,ds.all plain=true→((cm ds).any fun y=>PyData.eqv y (py a))=ds.any fun y=>b7 y a
 |[],_=>by simp[cm]
 |d::ds,h=>by
  rw[all_cons,rj]at h;simp only[cm,any_cons];rw[oZ a ha ds h.2,tX 8 d a h.1 ha]
theorem ZX(hu:X.A.units+64<cLine):ay X (compareOp .In) (rD X.K T S .isin):=by
 rintro pins s σ H x y v u Q I rx ry ⟨a,b,d,dom,ra,rb,e,q⟩;have go:∀(ds:List D),plain a=true→ds.all plain=true→X.A.units+1+min (PyData.depthAll (cm ds)) (py a).depth<cLine:=fun ds h1 h2=>by
  have h3:=oR 8 a h1
  have h4:min (PyData.depthAll (cm ds)) (py a).depth≤(py a).depth:=min_le_right _ _
  lia
 simp only[ah,oIn]at e;split at e
 ·rename_i ds;split at e
  ·rename_i hp;rw[rj]at hp;cases e;obtain⟨as,h1⟩:=dX I 8 a x v hp.1 ra rx;obtain⟨bs,h2⟩:=dX I 9 (.lst ds) y u (by show ds.all (flat 8)=true;exact hp.2) rb ry
   simp only[py]at h2;refine SeqAt.in_list_reads h2 h1 (dQ (canLay 8) ds hp.2) (canLay 8 a hp.1) (go ds hp.1 hp.2) ⟨.bl _,H,I,rfl,?_⟩;rw[oZ a hp.1 ds hp.2];exact q _ H (aH.refl H) bT
  ·cases e
 ·rename_i ds;split at e
  ·rename_i hp;rw[rj]at hp;cases e;obtain⟨as,h1⟩:=dX I 8 a x v hp.1 ra rx;obtain⟨bs,h2⟩:=dX I 9 (.tup ds) y u (by show ds.all (flat 8)=true;exact hp.2) rb ry
   simp only[py]at h2;refine SeqAt.in_tuple_reads h2 h1 (dQ (canLay 8) ds hp.2) (canLay 8 a hp.1) (go ds hp.1 hp.2) ⟨.bl _,H,I,rfl,?_⟩;rw[oZ a hp.1 ds hp.2];exact q _ H (aH.refl H) bT
  ·cases e
 ·cases e
theorem ET(hu:X.A.units+64<cLine):ay X (compareOp .NotIn) (rD X.K T S .notin):=by
 rintro pins s σ H x y v u Q I rx ry ⟨a,b,d,dom,ra,rb,e,q⟩;have go:∀(ds:List D),plain a=true→ds.all plain=true→X.A.units+1+min (PyData.depthAll (cm ds)) (py a).depth<cLine:=fun ds h1 h2=>by
  have h3:=oR 8 a h1
  have h4:min (PyData.depthAll (cm ds)) (py a).depth≤(py a).depth:=min_le_right _ _
  lia
 simp only[ah,JI]at e;split at e
 ·rename_i ds;split at e
  ·rename_i hp;rw[rj]at hp;cases e;obtain⟨as,h1⟩:=dX I 8 a x v hp.1 ra rx;obtain⟨bs,h2⟩:=dX I 9 (.lst ds) y u (by show ds.all (flat 8)=true;exact hp.2) rb ry
   simp only[py]at h2;refine SeqAt.notIn_list_reads h2 h1 (dQ (canLay 8) ds hp.2) (canLay 8 a hp.1) (go ds hp.1 hp.2) ⟨.bl _,H,I,rfl,?_⟩;rw[oZ a hp.1 ds hp.2];exact q _ H (aH.refl H) bT
  ·cases e
 ·rename_i ds;split at e
  ·rename_i hp;rw[rj]at hp;cases e;obtain⟨as,h1⟩:=dX I 8 a x v hp.1 ra rx;obtain⟨bs,h2⟩:=dX I 9 (.tup ds) y u (by show ds.all (flat 8)=true;exact hp.2) rb ry
   simp only[py]at h2;refine SeqAt.notIn_tuple_reads h2 h1 (dQ (canLay 8) ds hp.2) (canLay 8 a hp.1) (go ds hp.1 hp.2) ⟨.bl _,H,I,rfl,?_⟩;rw[oZ a hp.1 ds hp.2];exact q _ H (aH.refl H) bT
  ·cases e
 ·cases e
theorem ZW:ay X (compareOp .Is) (rD X.K T S .is):=by
 rintro pins s σ H x y v u Q I rx ry ⟨a,b,d,dom,ra,rb,e,q⟩;have go:∀k,b=.non→k=decide (x=V.non)→d=.bl k→wpAny (model X.prog X.w) X.A (compareOp .Is v u) (EP X pins σ Q) X.xe s:=fun k hb hk hd=>by
  subst hb hd hk;unfold Rep at rb;exact ZR pins s σ H x y v u Q I rx ry ⟨rb,q _ H (aH.refl H) bT⟩
 simp only[ah,oIs,isD]at e;split at e<;>simp only[um,Option.map_none,qp,reduceCtorEq]at e
 all_goals subst e
 all_goals first
  | (unfold Rep at ra;refine go _ rfl ?_ rfl;first|(subst ra;rfl)|(obtain⟨_,_,rfl,_⟩:=ra;rfl)|(obtain⟨_,_,_,_,rfl,_⟩:=ra;rfl))
  | (unfold Rep at ra rb
     subst ra rb;cases rx;cases ry;exact is_bool ⟨.bl _,H,I,rfl,q _ H (aH.refl H) bT⟩)
end
structure Fly (P:vk) (w:World) (l:List Env) (H:Hp) (s:Shared) (B:Heap) (a:Addr) (cls a0:Value) (H':Hp) (s':Shared):Prop where
 os:s'.os=s.os
 bare:AllBare s'.gens
 un:Un (frs l) [] H H' s.heap s'.heap
 hok:HOk P w H' s'.heap
 fly:Heap.FlyingW B l a cls a0 s'.heap
 new:H' a=none
 old:s.heap.get? a=none
 frf:∀b∈frs l,H' b=none
 cov:∀b o,s'.heap.get? b=some o→b∉frs l→((∃u,H' b=some u)∨∃o',s.heap.get? b=some o')→B.get? b=some o
noncomputable def gL(P:vk)(w:World):au:=fun l H s E e s'=>∃a cls a0 B H',e=.ref a∧Fly P w l H s B a cls a0 H' s'∧E cls none H'
theorem VP{P:vk}{w:World}:∀outer H s e s',gL P w outer H s E0 e s'→False:=fun _ _ _ _ _ ⟨_,_,_,_,_,_,_,h⟩=>h
section
variable {P:vk}{w:World}{l:List Env}{H H':Hp}{s s':Shared}{B:Heap}{a:Addr}{cls a0:Value}
theorem jL{h:Heap}{b:Addr}:∀{o:HO},bZ P w H h b o→∃u,h.get? b=some u:=by
 intro o x;cases o with
 |lst xs=>obtain⟨_,_,_,_,e⟩:=x;exact⟨_,e⟩
 |tup xs=>obtain⟨_,_,_,ob,e,_⟩:=x;exact⟨_,e⟩
 |dK kvs=>obtain⟨_,_,_,_,o,_,_,e,_⟩:=x;exact⟨_,e⟩
 |dT kvs=>obtain⟨_,_,_,_,o,_,_,e,_⟩:=x;exact⟨_,e⟩
 |set S n=>obtain⟨o,_,_,_,e,_⟩:=x;exact⟨_,e⟩
 |ins C dx fs=>obtain⟨_,_,_,e,_⟩:=x;exact⟨_,e⟩
 |own y=>obtain⟨_,e⟩:=x;exact⟨_,e⟩
 |xd fs=>obtain⟨_,⟨_,_,_,e,_⟩,_⟩:=x;exact⟨_,e⟩
 |rng lo hi=>obtain⟨_,_,_,e⟩:=x;exact⟨_,e⟩
 |frz ob u=>obtain⟨e,_⟩:=x;exact⟨_,e⟩
 |tbl ps=>exact⟨_,(show h.get? b=some _ from x)⟩
 |met f y=>exact⟨_,(show h.get? b=some _ from x)⟩
 |ext φ=>obtain⟨_,⟨_,e⟩,_⟩:=x;exact⟨_,e⟩
theorem rM{fs:List Addr}{h0 h1 h2:Heap}(u:Un fs [] H H' h0 h1)(keep:∀b o,h1.get? b=some o→(∃o',h0.get? b=some o')→b∉fs→h2.get? b=some o)
  (slot:∀b o,h1.get? b=some o→b∈fs→∃sl,h2.get? b=some { o with slots:=sl }):Un fs [] H H' h0 h2 where
 keep b o e n hb hx:=keep b o (u.keep b o e n hb hx) ⟨o,e⟩ hb
 slot b o e n hb hx:=by
  obtain⟨sl,e1⟩:=u.slot b o e n hb hx;obtain⟨lq,e2⟩:=slot b _ e1 hb;exact⟨lq,e2⟩
 free:=u.free
 there b o e hx:=by
  obtain⟨o',e1⟩:=u.there b o e hx
  by_cases hb:b∈fs
  ·obtain⟨sl,e2⟩:=slot b _ e1 hb;exact⟨_,e2⟩
  ·exact⟨_,keep b o' e1 ⟨o,e⟩ hb⟩
 tups:=u.tups
 frzs:=u.frzs
 tbls:=u.tbls
theorem oB{h1 h2:Heap}(ok:HOk P w H h1)(keep:∀b o u,H b=some u→h1.get? b=some o→h2.get? b=some o):HOk P w H h2:=fun b u e =>
 (ok b u e).stay (fun c v hc q=>by
  rcases hc with rfl|hc
  ·exact keep _ v u e q
  ·exact keep _ v _ hc q) (fun _ q=>q) fun _ _ q=>q
theorem Fly.move(F:Fly P w l H s B a cls a0 H' s'){h2:Heap}(fl:Heap.FlyingW B l a cls a0 h2)(up:s'.heap.UpToSlots h2):Fly P w l H s B a cls a0 H' { s' with heap:=h2 }:=by
 have keep:∀b o,s'.heap.get? b=some o→((∃u,H' b=some u)∨∃o',s.heap.get? b=some o')→b∉frs l→h2.get? b=some o:=fun b o e t nb=>fl.1 b o (F.cov b o e nb t)
 have tr:∀b u,H' b=some u→b∉frs l:=fun b u e z=>by rw[F.frf b z]at e;cases e
 refine⟨F.os,F.bare,rM F.un (fun b o e t nb=>keep b o e (.inr t) nb) (fun b o e hb=>?_),oB F.hok fun b o u e q=>keep b o q (.inl ⟨u,e⟩) (tr b u e),fl,F.new,F.old,F.frf,fun b o e nb t=>?_⟩
 ·obtain⟨_,o2,e2,nf⟩:=F.fly.2.2.1.mem hb;rw[e]at e2;cases e2;exact up b o e nf
 ·have:∃o1,s'.heap.get? b=some o1:=by
   rcases t with ⟨u,e1⟩|⟨o',e1⟩
   ·exact jL (F.hok b u e1)
   ·exact F.un.there b o' e1 (by simp)
  obtain⟨o1,e1⟩:=this;have e2:=keep b o1 e1 t nb
  have e:h2.get? b=some o:=e
  rw[e2]at e;cases e;exact F.cov b _ e1 nb t
end
section
variable {X:Cx}{pins:vn}{σ:L2.St}{H H':Hp}{s s':Shared}{B:Heap}{a:Addr}{cls a0:Value}
theorem Fly.inv(I:Inv X pins σ H s)(F:Fly X.prog X.w X.stack H s B a cls a0 H' s'):Inv X pins σ H' s':=I.call' F.os F.un F.hok F.bare fun b z=>absurd z (by simp)
theorem Fly.up{env:Env}{outer:List Env}(I:Inv X pins σ H s)(eg:X.stack=env::outer)(o3:X.outer=outer)(hex:X.ex=[])(aw:env.frame=some X.env.locals)(F:Fly X.prog X.w X.stack H s B a cls a0 H' s'){h2:Heap}(fl:Heap.FlyingW B outer a cls a0 h2)(up:s'.heap.UpToSlots h2) :
  Fly X.prog X.w outer X.H₀ X.s₀ B a cls a0 H' { s' with heap:=h2 }:=by
 have J:=F.inv I
 have ko:frs X.stack=X.env.locals::frs outer:=by
  rw[eg];unfold frs;rw[List.filterMap_cons,aw]
 have olds:∀b o,X.s₀.heap.get? b=some o→b≠X.env.locals:=fun b o e=>uc (sf (sq e) I.ok.above)
 have tr:∀b u,H' b=some u→b∉frs X.stack:=fun b u e z=>by rw[F.frf b z]at e;cases e
 have old1:∀b o,X.s₀.heap.get? b=some o→∃o',s.heap.get? b=some o':=fun b o e=>I.base.there b o e (by rw[hex];simp)
 have ns:∀b,b∉frs outer→b≠X.env.locals→b∉frs X.stack:=fun b h1 h2 z=>by
  rw[ko]at z
  rcases sv.mp z with z|z
  ·exact h2 z
  ·exact h1 z
 have k9:Un (frs outer) [] X.H₀ H' X.s₀.heap s'.heap:=by
  have:=J.base
  rw[hex]at this;unfold Cx.fs at this;rw[o3]at this;exact this
 refine⟨J.os,F.bare,rM k9 (fun b o e t nb=>?_) (fun b o e hb=>?_),oB F.hok fun b o u e q=>fl.1 b o (F.cov b o q (tr b u e) (.inl ⟨u,e⟩)),fl,F.new,?_,fun b hb=>F.frf b (by rw[ko];exact rg _ hb),fun b o e nb t=>?_⟩
 ·obtain⟨o',e'⟩:=t;exact fl.1 b o (F.cov b o e (ns b nb (olds b o' e')) (.inr (old1 b o' e')))
 ·obtain⟨_,o2,e2,nf⟩:=F.fly.2.2.1.mem (show b∈frs X.stack by rw[ko];exact rg _ hb)
  rw[e]at e2;cases e2;exact up b o e nf
 ·cases e:X.s₀.heap.get? a with
  |none=>rfl
  |some o =>
   obtain⟨o',e'⟩:=old1 a o e;rw[F.old]at e';cases e'
 ·have e:h2.get? b=some o:=e
  rcases t with ⟨u,e1⟩|⟨o',e1⟩
  ·obtain⟨o1,q⟩:=jL (F.hok b u e1);have c:=F.cov b o1 q (tr b u e1) (.inl ⟨u,e1⟩)
   have:=fl.1 b o1 c
   rw[e]at this;cases this;exact c
  ·obtain⟨o1,q⟩:=k9.there b o' e1 (by simp)
   have c:=F.cov b o1 q (ns b nb (olds b o' e1)) (.inr (old1 b o' e1))
   have:=fl.1 b o1 c
   rw[e]at this;cases this;exact c
end
noncomputable def fw:List Value:=[.type "ValueError",.type "Exception",.type "BaseException",.type "object"]
noncomputable def eI(K:vi)(C:Addr)(v:Value):Bool:=match K.lookup C with
 |some ⟨_,_,.cls cd,_⟩=>cd.mro.contains v
 |_=>false
theorem uM{K:vi}{C:Addr}(q:excIn K C fw "ValueError.__new__" = true):∃nm qn N bs bm hdct sn sub ab col dd k0 k1 k2 k3 k5,
  K.lookup C=some (excClassObj nm qn C N bs bm hdct sn sub ab col dd k0 k1 k2 k3 k5 "ValueError.__new__")∧PySem.W.tailIn K fw bm=true∧PySem.W.nsOkIn K N=true∧nsIn K N "__init__" = some none∧∀v,eI K C v=(Value.ref C::bm).contains v:=by
 unfold excIn at q;split at q
 ·rename_i dd cd sl ho;split at q
  ·rename_i C' bm k0 k1 k2 k3 n k5 hm hs;simp only[rj,u0,Bool.not_eq_true']at q;obtain⟨⟨⟨⟨⟨rfl,rfl⟩,hdel⟩,ht⟩,hok⟩,hni⟩:=q;obtain⟨nm,bs,mro,ns,qn,hd,sn,sub,ab,col,del⟩:=cd;dsimp only at hm hdel hok hni;subst hm hdel;have gp:sl=#[k0,k1,k2,k3,some (.builtin "ValueError.__new__"),k5]:=by
    obtain⟨l⟩:=sl;simp only at hs;rw[hs]
   subst gp;refine⟨nm,qn,ns,bs,bm,hd,sn,sub,ab,col,dd,k0,k1,k2,k3,k5,ho,ht,hok,hni,fun v=>?_⟩
   unfold eI;rw[ho]
  ·cases q
 ·cases q
theorem IG{X:Cx}{x m:Str}{j:Nat}{p p' q pos:Pos}{C:Addr}{W:Hp→Prop}(hc:X.calm=true)(hg:Gl X x)(fk:(x == ("__debug__":Str))=false)(hm:X.mg x=some (.ref C))(hx:excIn X.K C fw "ValueError.__new__" = true)
  (hw:∀pins σ H s h' e vs,Inv X pins σ H s→Heap.MadeExcOf s.heap h' e (.ref C) vs→W H→X.xe (.ref e) { s with heap:=h' }) :
  PS X (.Raise (some (.Call (.Name x p) [.Constant (.str m) j p'] [] q)) none pos) (fun D σ H=>W H):=by
 intro pins s σ H D I hW;obtain⟨nm,qn,N,bs,bm,hdct,sn,sub,ab,col,dd,k0,k1,k2,k3,k5,ho,ht,hok,hni,_⟩:=uM hx;have T:OwnTail s.heap fw bm:=tail_of_in I.kIn ht
 have hN:s.heap.Ns N (s.heap.nsMap N):=.of_isNs (PySem.W.isNs_of_in I.kIn hok)
 have hni':(s.heap.nsMap N) "__init__" = none:=PySem.W.nsMap_none_of_in I.kIn hok hni
 have hC:=I.kIn _ _ ho
 refine wpAny_Raise_call_subT (C:=C) (nm:=nm) (q:=qn) (N:=N) (bs:=bs) (bm:=bm) (hdct:=hdct) (sn:=sn) (sub:=sub) (ab:=ab) (col:=col) (dd:=dd) (k0:=k0) (k1:=k1) (k2:=k2) (k3:=k3) (k5:=k5)
  PySem.F.excBase_ValueError (mN:=s.heap.nsMap N) (T.hasType PySem.F.excBase_ValueError.hasBase) (I.ok.hd hc) rfl hni' (eA I hg hm ⟨rfl,?_⟩ fk)
 exact Calls.evalArgs_plain (Calls.spliced_cons (Calls.Constant_str (k:=j) (pos:=p') (Calls.spliced_nil ⟨rfl,by show 1≤sizeLine;rw[sizeLine_eq];decide,hC,hN,T,fun h' e hm=>hw pins σ H { s with toks:=s.toks+1 } h' e _ (I.tok _) hm hW⟩)))
section
variable {P:vk}{w:World}{K:vi}{mg:vo}{base:Heap}{N:List Str}{qual:Str}{sc:Scope}{f:Addr}{cd:Value}{A:Around}{outer:List Env}{s:Shared}{H:Hp}{E:XK}
theorem yR{pins:vn}{σ:L2.St}{H1:Hp}{s1:Shared}{h':Heap}{e:Addr}{cls:Value}{vs:List Value}(I:Inv (kW (gL P w) P w K mg base N qual sc f cd A outer s H E) pins σ H1 s1)(hm:Heap.MadeExcOf s1.heap h' e cls vs)(hE:E cls none H1) :
  (kW (gL P w) P w K mg base N qual sc f cd A outer s H E).xe (.ref e) { s1 with heap:=h' }:=by
 have eg:=I.stack
 have aw:∀b∈frs (envOfC qual sc s.heap.objs.size f cd::outer),H1 b=none:=I.stkFree
 have ko:frs (envOfC qual sc s.heap.objs.size f cd::outer)=s.heap.objs.size::frs outer:=rfl
 have tr:∀b u,H1 b=some u→b∉frs (envOfC qual sc s.heap.objs.size f cd::outer):=fun b u e z=>by rw[aw b z]at e;cases e
 have ns:∀b o,s.heap.get? b=some o→b∉frs outer→b∉frs (envOfC qual sc s.heap.objs.size f cd::outer):=fun b o e h1 z=>by
  rw[ko]at z
  rcases sv.mp z with z|z
  ·exact absurd (sq e) (by rw[z];exact ug _)
  ·exact h1 z
 have k9:Un (frs outer) [] H H1 s.heap s1.heap:=I.base
 refine wpAny_leaves_madeW (base:=hideAll s1.heap (frs (envOfC qual sc s.heap.objs.size f cd::outer))) (L:=s.heap.objs.size) (outer:=outer) I.ok.frames rfl (fun b o q=>PySem.W.of_hideAll _ q)
  (PySem.W.funFrames_hide eg fun env he b hb=>mem_filterMap.mpr ⟨env,he,hb⟩) hm fun h2 t x1 x2 x3 x4=>⟨e,cls,.ref t,hideAll s1.heap (frs (envOfC qual sc s.heap.objs.size f cd::outer)),H1,rfl,?_,hE⟩
 have inB:∀b o,s1.heap.get? b=some o→b∉frs (envOfC qual sc s.heap.objs.size f cd::outer)→(hideAll s1.heap (frs (envOfC qual sc s.heap.objs.size f cd::outer))).get? b=some o:=fun b o q n=>PySem.W.hideAll_get _ q n
 refine⟨I.os,I.bare,rM k9 (fun b o e t nb=>?_) (fun b o e hb=>?_),oB I.hok fun b o u e q=>x1.1 b o (inB b o q (tr b u e)),x1,?_,?_,fun b hb=>aw b (by rw[ko];exact rg _ hb),fun b o e nb t=>?_⟩
 ·obtain⟨o',e'⟩:=t;exact x1.1 b o (inB b o e (ns b o' e' nb))
 ·obtain⟨_,o2,e2,nf⟩:=eg.mem (show b∈frs (envOfC qual sc s.heap.objs.size f cd::outer) by rw[ko];exact rg _ hb)
  rw[e]at e2;cases e2;exact x4 b o (hm.keeps b o e) nf
 ·cases q:H1 e with
  |none=>rfl
  |some u =>
   obtain⟨o,q2⟩:=jL (I.hok e u q);rw[hm.new]at q2;cases q2
 ·cases q:s.heap.get? e with
  |none=>rfl
  |some u =>
   obtain⟨o,q2⟩:=k9.there e u q (by simp)
   rw[hm.new]at q2;cases q2
 ·have e:h2.get? b=some o:=e
  rcases t with ⟨u,e1⟩|⟨o',e1⟩
  ·obtain⟨o1,q⟩:=jL (I.hok b u e1);have c:=inB b o1 q (tr b u e1)
   have:=x1.1 b o1 c
   rw[e]at this;cases this;exact c
  ·obtain⟨o1,q⟩:=k9.there b o' e1 (by simp)
   have c:=inB b o1 q (ns b o' e1 nb)
   have:=x1.1 b o1 c
   rw[e]at this;cases this;exact c
theorem QZ{E1:XK}(hE:∀cls H',E1 cls none H'→E cls none H'):fX (gL P w) (kW (gL P w) P w K mg base N qual sc f cd A outer s H E) E1:=by
 rintro pins σ H1 s1 e s' I ⟨a,cls,a0,B,H',rfl,F,q⟩;exact wpAny_leaves_onW (L:=s.heap.objs.size) (outer:=outer) I.ok.frames rfl F.fly fun h2 x1 x2=>⟨a,cls,a0,B,H',rfl,Fly.up (env:=envOfC qual sc s.heap.objs.size f cd) I rfl rfl rfl rfl F x1 x2,hE _ _ q⟩
end
abbrev fW(X:Cx)(a:Addr):Cx:={ X with A:=X.A.mark (some (.ref a)),calm:=false,xe:=fun _ _=>False }
section
variable {X:Cx}{pins:vn}{σ:L2.St}{H H':Hp}{s s':Shared}{B:Heap}{a:Addr}{cls a0:Value}
theorem aAc(ok:X.Ok)(a:Addr):(fW X a).Ok:=⟨ok.mod,ok.kind,ok.glob,ok.blt,ok.above,ok.inj,ok.has,ok.cab,(fun z=>by cases z),ok.frames,ok.stk,ok.exf,ok.bs,ok.bsz,ok.noex,ok.exfs,ok.funs,ok.frf⟩
theorem nB(I:Inv X pins σ H s)(a:Addr):Inv (fW X a) pins σ H s:=⟨aAc I.ok a,I.os,I.bare,I.base,I.loc,I.cell,I.free,I.freeC,I.pin,I.hok,I.len⟩
theorem FN(ok:X.Ok)(I:Inv (fW X a) pins σ H s):Inv X pins σ H s:=⟨ok,I.os,I.bare,I.base,I.loc,I.cell,I.free,I.freeC,I.pin,I.hok,I.len⟩
theorem SN{h':Heap}{t:Nat}{m':vo}(I:Inv X pins σ H s)(hn:h'.Ns X.env.locals m')(hs:Heap.SameBut X.env.locals s.heap h'):Inv X pins (List.replicate X.N.length none) H { s with heap:=h',toks:=t }:=by
 obtain⟨m,hn0,hl⟩:=id I.loc;obtain⟨oL,_,_,hoL,_⟩:=id hn0;have cne:=I.cne
 have old:∀b o,X.s₀.heap.get? b=some o→b≠X.env.locals:=fun b o e=>uc (sf (sq e) I.ok.above)
 have tracked:HOk X.prog X.w H h':=fun b ob e=>by
  refine(I.hok b ob e).stay (fun c w' hc q=>(hs.2 c ?_).trans q) (fun _ q=>q) fun _ _ q=>q
  rintro rfl
  rcases hc with hc|hc
  ·rw[←hc,I.free]at e;cases e
  ·rw[I.free]at hc;cases hc
 refine⟨I.ok,I.os,I.bare,⟨fun b o e n hb hx=>?_,fun b o e n hb hx=>?_,I.base.free,fun b o e hx=>?_,I.base.tups,I.base.frzs,I.base.tbls⟩,⟨m',hn,fun j y v' e1 e2 e3=>?_⟩,fun y c e=>?_,I.free,I.freeC,fun p hp=>?_,tracked,by simp⟩
 ·exact(hs.2 b (old b o e)).trans (I.base.keep b o e n hb hx)
 ·obtain⟨sl,e1⟩:=I.base.slot b o e n hb hx;exact⟨sl,(hs.2 b (old b o e)).trans e1⟩
 ·obtain⟨o',e1⟩:=I.base.there b o e hx;exact⟨o',(hs.2 b (old b o e)).trans e1⟩
 ·rw[getElem?_replicate]at e2;split at e2<;>cases e2
 ·obtain⟨w',z⟩:=I.cell y c e;exact⟨w',z.sameBut hs (cne y c e)⟩
 ·obtain⟨e,n,ne,nf,d⟩:=I.pin p hp;exact⟨(hs.2 p.1 ne).trans e,n,ne,nf,d⟩
def isExc(a C:Addr)(h:Heap):Prop:=∃o,h.get? a=some o∧o.cls=.ref C
theorem Fly.track{C:Addr}(I:Inv X pins σ H s)(F:Fly X.prog X.w X.stack H s B a (.ref C) a0 H' s'):Inv X pins σ (upd H' a (.ext (isExc a C))) s':=by
 obtain⟨o,ho,hc⟩:=F.fly.there;have ne:∀b u,H' b=some u→b≠a:=fun b u e z=>by rw[z,F.new]at e;cases e
 refine I.call' (H':=upd H' a (.ext (isExc a C))) F.os (ch:=[]) ?_ ?_ F.bare fun b z=>absurd z (by simp)
 ·refine⟨F.un.keep,F.un.slot,fun b o e n hx=>?_,F.un.there,fun b xs e=>?_,fun b o u e=>?_,fun b ps e=>?_⟩
  ·rw[aN fun z=>by rw[z,F.old]at e;cases e]
   exact F.un.free b o e n hx
  ·have:=F.un.tups b xs e
   rw[aN (ne b _ this)];exact this
  ·have:=F.un.frzs b o u e
   rw[aN (ne b _ this)];exact this
  ·obtain⟨more,this⟩:=F.un.tbls b ps e;exact⟨more,by rw[aN (ne b _ this)];exact this⟩
 ·intro b u e
  by_cases hb:b=a
  ·subst hb;rw[aM]at e;cases e;exact⟨⟨o,ho,hc⟩,⟨o,ho⟩,fun h1 h2 ⟨o1,e1,c1⟩ k=>⟨o1,k o1 e1,c1⟩⟩
  ·rw[aN hb]at e;refine(F.hok b u e).stay (fun _ _ _ q=>q) (fun c q=>?_) fun c xs q=>?_
   ·rw[aN (ne c _ q)];exact q
   ·rw[aN (ne c _ q)];exact q
end
section
variable {M:Model}{A:Around}{E:vm}{h:Heap}{g:Array GenState}{d:Drawn}{t:Nat}{os:OsState}
variable {nm q:Str}{C N:Addr}{bs bm:List Value}{hdct:Bool}{sn:List Str}{sub:List Value}{ab:Bool}{col:Option Bool}{dd:Option Addr}{k0 k1 k2 k3 k5:Option Value}{newId:String}
variable {nm' q':Str}{L N':Addr}{bs' bm':List Value}{hdct':Bool}{sn':List Str}{sub':List Value}{ab':Bool}{col':Option Bool}{nh:Option Addr}{k0' k1' k2' k3' k5':Option Value}{newId':String}
theorem iY{e:Addr}{oe:Obj}{Q:Bool→Shared→Prop}(hC:h.get? C=some (excClassObj nm q C N bs bm hdct sn sub ab col dd k0 k1 k2 k3 k5 newId))(hL:h.get? L=some (excClassObj nm' q' L N' bs' bm' hdct' sn' sub' ab' col' nh k0' k1' k2' k3' k5' newId'))(he:h.get? e=some oe)(iy:oe.cls=.ref C)(d9:bm'.contains (.type "BaseException")=true)
  (hs:(Value.ref C::bm).contains (.ref L)=true) (hq:Q true ⟨h,g,d,t,os⟩):wpAny M A (excMatches (.ref e) (.ref L)) Q E ⟨h,g,d,t,os⟩:=by
 have hcB:(Value.ref L::bm').contains (.type "BaseException")=true:=by rw[List.contains_cons,d9,Bool.or_true]
 have f:=tc_notTuple
 unfold excMatches
 repeat (first|(with_reducible refine wpAny_loadPart_at he ?_;rw[iy])|with_reducible refine wpAny_loadPart_at hL ?_|(with_reducible refine wpAny_isSubtype_exc hL ?_;rw[hcB])|(with_reducible refine wpAny_isSubtype_exc hC ?_;rw[hs])|wp_step)
 exact hq
end
section
variable {X:Cx}{pins:vn}{σ:L2.St}{H H':Hp}{s s':Shared}{B:Heap}{a C L:Addr}{a0:Value}{x:Str}{np hp:Pos}{b₀:Stmt}{suite:List Stmt}{rest:List ExceptHandler}{rt:VK}
noncomputable def lG(rt:VK):Ends:={ nx:=fun _ _=>False,rt:=rt }
theorem HF{D:Ends}{f:Flow}{s1:Shared}(ok:X.Ok)(hD:D.rt=rt)(h:SP (fW X a) pins (lG rt) f s1):SP X pins D f s1:=by
 cases f with
 |next=>obtain⟨_,_,_,z⟩:=h;exact z.elim
 |brk=>obtain⟨_,_,_,z⟩:=h;exact z.elim
 |cont=>obtain⟨_,_,_,z⟩:=h;exact z.elim
 |ret u=>obtain⟨v,σ',H',I,r,q⟩:=h;exact⟨v,σ',H',FN ok I,r,by rw[hD];exact q⟩
theorem aBd{D:Ends}(I:Inv X pins σ H s)(F:Fly X.prog X.w X.stack H s B a (.ref C) a0 H' s')(eg:X.stack=X.env::X.outer)(hf:X.env.frame=some X.env.locals)(hC:excIn X.K C fw "ValueError.__new__" = true)(hL:excIn X.K L fw "ValueError.__new__" = true)(mT:eI X.K C (.ref L)=true)
  (hg:Gl X x) (fk:(x == ("__debug__":Str))=false) (hm:X.mg x=some (.ref L)) (hD:D.rt=rt)
  (hs:PSs (fW X a) (b₀::suite) (fun D' σ' gd=>D'=lG rt∧σ'=σ∧gd=upd H' a (.ext (isExc a C)))) :
  wpAny (model X.prog X.w) X.A (noteFrame (.ref a) X.env) (fun _ s₂=>wpAny (model X.prog X.w) X.A (setFlight (.ref a) none) (fun _ s₃ =>
   wpAny (model X.prog X.w) X.A (handleBy (.ref a) X.env (.ExceptHandler (some (.Name x np)) none (b₀::suite) hp::rest)) (SP X pins D) X.xe s₃) X.xe s₂) X.xe s':=by
 refine wpAny_looks_onW (env:=X.env) (outer:=X.outer) (L:=X.env.locals) (by rw[←eg];exact I.ok.frames) hf (by rw[←eg];exact F.fly) fun h₄ held up4=>?_
 refine wpAny_landsW held fun h₅ ku up5=>?_
 have F5:=F.move (h2:=h₅) (by rw[eg];exact ku) (up4.trans up5)
 have I5:=F5.inv I
 refine wpAny_handleBy_cons (codeAny_handlers_test ?_) (by intro q;cases q)
 refine eA (X:=fW X a) (nB I5 a) hg hm ?_ fk;obtain⟨nm1,qn1,N1,bs1,bm1,hdct1,sn1,sub1,ab1,col1,dd1,c0,c1,c2,c3,c5,i8,ht1,_,_,mr1⟩:=uM hC;obtain⟨nm2,qn2,N2,bs2,bm2,hdct2,sn2,sub2,ab2,col2,ng,d0,d1,d2,d3,d5,cy,ht2,_,_,mr2⟩:=uM hL;obtain⟨oe,hoe,l0⟩:=ku.there;refine iY (I5.kIn _ _ i8) (I5.kIn _ _ cy) hoe l0 ((tail_of_in I5.kIn ht2).hasType (by decide +kernel)) (by rw[←mr1];exact mT) ?_
 refine codeAny_handlers_suite (lands_againW ku fun h₆ fl6 up6=>?_)
 have F6:=F5.move (h2:=h₆) (by rw[eg];exact fl6) up6
 have I6:=F6.track I
 exact uj (hs pins _ σ _ (lG rt) (nB I6 a) ⟨rfl,rfl,rfl⟩) (fun f s₇ h₇=>HF I.ok hD h₇) fun _ _ z=>z.elim
theorem MF{D:Ends}{n:Str}{i:Nat}(I:Inv X pins σ H s)(F:Fly X.prog X.w X.stack H s B a (.ref C) a0 H' s')(eg:X.stack=X.env::X.outer)(hf:X.env.frame=some X.env.locals)(hC:excIn X.K C fw "ValueError.__new__" = true)(hL:excIn X.K L fw "ValueError.__new__" = true)(mT:eI X.K C (.ref L)=true)
  (hg:Gl X x) (fk:(x == ("__debug__":Str))=false) (hm:X.mg x=some (.ref L)) (hD:D.rt=rt) (hN:X.N.Nodup) (hi:X.N[i]?=some n) (hlo:X.env.kindOf n=some .local)
  (hs:PSs (fW X a) (b₀::suite) (fun D' σ' gd=>D'=lG rt∧σ'=σ.set i (some (.ref a))∧gd=upd H' a (.ext (isExc a C)))) :
  wpAny (model X.prog X.w) X.A (noteFrame (.ref a) X.env) (fun _ s₂=>wpAny (model X.prog X.w) X.A (setFlight (.ref a) none) (fun _ s₃ =>
   wpAny (model X.prog X.w) X.A (handleBy (.ref a) X.env (.ExceptHandler (some (.Name x np)) (some n) (b₀::suite) hp::rest)) (SP X pins D) X.xe s₃) X.xe s₂) X.xe s':=by
 refine wpAny_looks_onW (env:=X.env) (outer:=X.outer) (L:=X.env.locals) (by rw[←eg];exact I.ok.frames) hf (by rw[←eg];exact F.fly) fun h₄ held up4=>?_
 refine wpAny_landsW held fun h₅ ku up5=>?_
 have F5:=F.move (h2:=h₅) (by rw[eg];exact ku) (up4.trans up5)
 have I5:=F5.inv I
 refine wpAny_handleBy_cons (codeAny_handlers_test ?_) (by intro q;cases q)
 refine eA (X:=fW X a) (nB I5 a) hg hm ?_ fk;obtain⟨nm1,qn1,N1,bs1,bm1,hdct1,sn1,sub1,ab1,col1,dd1,c0,c1,c2,c3,c5,i8,ht1,_,_,mr1⟩:=uM hC;obtain⟨nm2,qn2,N2,bs2,bm2,hdct2,sn2,sub2,ab2,col2,ng,d0,d1,d2,d3,d5,cy,ht2,_,_,mr2⟩:=uM hL;obtain⟨oe,hoe,l0⟩:=ku.there;refine iY (I5.kIn _ _ i8) (I5.kIn _ _ cy) hoe l0 ((tail_of_in I5.kIn ht2).hasType (by decide +kernel)) (by rw[←mr1];exact mT) ?_
 refine codeAny_handlers_suite_as (lands_againW ku fun h₆ fl6 up6=>?_)
 have F6:=F5.move (h2:=h₆) (by rw[eg];exact fl6) up6
 have I6:=F6.track I
 have iy:(X.env.scope.kind == .class || (X.env.scope.kind == .module&&X.env.locals != X.env.globals))=false:=by rw[I.ok.kind];rfl
 refine nM (X:=fW X a) (v:=.ref a) (nB I6 a) hN hi (.inl hlo) rfl (fun s₇ I7=>?_) (.inr hlo)
 refine uj (hs pins _ _ _ (lG rt) I7 ⟨rfl,rfl,rfl⟩) (fun f s₈ h₈=>?_) fun _ _ z=>z.elim
 have h9:=HF (D:={ D with nx:=fun _ _=>False,bk:=fun _ _=>False,ct:=fun _ _=>False }) I.ok hD h₈
 cases f with
 |next=>obtain⟨_,_,_,z⟩:=h9;exact z.elim
 |brk=>obtain⟨_,_,_,z⟩:=h9;exact z.elim
 |cont=>obtain⟨_,_,_,z⟩:=h9;exact z.elim
 |ret u =>
  obtain⟨v,σ',H9,I9,r,q⟩:=h9;obtain⟨m,hn,_⟩:=id I9.loc;exact wpAny_nameGoes hlo hn iy fun h' m' jq hsb=>⟨v,_,H9,SN I9 jq hsb,r,q⟩
end
structure RoomM (k:Nat) (A:Around):Prop where
 dp:A.depth+3*k+5<recursionLimit
 un:A.units+16*k+200<cLine
theorem UX{k:Nat}{A:Around}(r:Room k A):RoomM k A:=⟨r.dp,r.un⟩
theorem RoomM.mono{j k:Nat}{A:Around}(r:RoomM k A)(h:j≤k):RoomM j A:=⟨by have:=r.dp;lia,by have:=r.un;lia⟩
theorem RoomM.under{k:Nat}{A:Around}(r:RoomM (k+1) A)(env:Env):RoomM k (A.deeper env):=
 ⟨by have z:=r.dp;show A.depth+1+3*k+5<_;lia,by have z:=r.un;show A.units+3+16*k+200<_;lia⟩
structure k6 (P:vk) (w:World) (K:vi) (mg:vo) (base:Heap) (k:Nat) (f:Addr) (fd:vj) (ps:List Str) (sp:Sp):Prop where
 len:∀vs H Q,sp vs H Q E0→vs.length=ps.length
 run:∀(A:Around) (outer:List Env) (s:Shared) (H:Hp) (args:Args) (us:List Value) (vs:List V) (Q:VK),RoomM k A→Env0 P w K mg base A outer s H→BindsTo s fd args (ps.zip us)→aQ vs us→sp vs H Q E0 →
  codeAny (model P w) A (.call (.ref f) args) (CR k7 outer P w H s Q E0) s
noncomputable def cxM(P:vk)(w:World)(K:vi)(mg:vo)(base:Heap)(N:List Str)(qual:Str)(sc:Scope)(f:Addr)(cd:Value)(A:Around)(outer:List Env)(s:Shared)(H:Hp):Cx:=
 {kW k7 P w K mg base N qual sc f cd A outer s H E0 with calm:=false,xe:=fun _ _=>False }
theorem GC{P:vk}{w:World}{K:vi}{mg:vo}{base:Heap}{A:Around}{outer:List Env}{s:Shared}{H:Hp}(e:Env0 P w K mg base A outer s H):Env0 P w K mg base { A with handled:=none } outer s H:=
 ⟨e.frames,e.mod,e.bs,e.bsz,e.funs,e.frf,e.hok,e.bare⟩
theorem KH{P:vk}{w:World}{K:vi}{mg:vo}{base:Heap}{N:List Str}{qual:Str}{sc:Scope}{f:Addr}{cd:Value}{A:Around}{outer:List Env}{s s1:Shared}{H:Hp}{σ:L2.St}
  (aw:A.frames=some outer) (I:Inv (kW k7 P w K mg base N qual sc f cd { A with handled:=none } outer s H E0) [] σ H s1):Inv (cxM P w K mg base N qual sc f cd A outer s H) [] σ H s1:=
 ⟨⟨I.ok.mod,I.ok.kind,I.ok.glob,I.ok.blt,I.ok.above,I.ok.inj,I.ok.has,I.ok.cab,(fun z=>by cases z),Around.frames_deeper aw,I.ok.stk,I.ok.exf,I.ok.bs,I.ok.bsz,I.ok.noex,I.ok.exfs,I.ok.funs,I.ok.frf⟩,
  I.os,I.bare,I.base,I.loc,I.cell,I.free,I.freeC,I.pin,I.hok,I.len⟩
theorem aAK{P:vk}{w:World}{K:vi}{mg:vo}{base:Heap}{k:Nat}{x qual:Str}{st:Stmt}{f:Addr}{fd:vj}{N ps:List Str}{sp:Sp}(F:Fun K x qual st f fd)(fs:aa N ps (aD st))(len:∀vs H Q,sp vs H Q E0→vs.length=ps.length)
  (hb:∀(cd:Value) (A:Around) (outer:List Env) (s:Shared) (H:Hp) (vs:List V) (Q:VK),RoomM k (A.deeper (envOfC qual (aD st) s.heap.objs.size f cd))→sp vs H Q E0 →
   ∃t,PSs (cxM P w K mg base N qual (aD st) f cd A outer s H) (bR st) t∧t { nx:=fun _ H'=>Q .non H',rt:=Q } (L2.start N vs) H):k6 P w K mg base (k+1) f fd ps sp:=by
 obtain⟨oc,od,kV,doc,pm,an,bt,ct,j4,rfl,lk,fm⟩:=F.ex;refine⟨len,fun A outer s H args us vs Q hr e0 kj r bq=>?_⟩
 have hl:=len _ _ _ bq
 have kin:K.In s.heap:=e0.mod.kin.keeps fun b o e=>(e0.bs b o e).1
 have lim:s.heap.NoLimit:=e0.mod.nolimit.keeps fun b o e=>(e0.bs b o e).1
 refine codeAny_call_function (by have:=hr.dp;lia) (kin _ _ lk) rfl fs.co fs.gen rfl (PySem.W.codeRec_of kin fm) (kj _ _ _ _ ?_)
 refine wpAny_newFunctionEnv_cells fs.kind ?_ fun env he s1 y=>?_
 ·rintro⟨n,v⟩ hy
  rcases fs.par n (of_mem_zip hy).1 with q|q
  ·exact Or.inl q
  ·exact Or.inr ⟨q,cellsFrom_some _ _ _ (Or.inl q)⟩
 subst he;refine⟨lim.keeps y.toInCall.keep,codeAny_func ?_⟩;obtain⟨t,ht,hq⟩:=hb bt A outer s H vs Q (hr.under _) bq;have I:=KH e0.frames (qJ (A:={ A with handled:=none }) fs rfl (GC e0) hl r y)
 refine uj (ht [] s1 _ H _ I hq) (fun fl s' hs=>?_) fun e s' z=>z.elim
 cases fl with
 |ret u =>
  obtain⟨v,σ',H',J,rv,q⟩:=hs;exact⟨v,H',J.os,J.bare,J.base,J.hok,rv,q⟩
 |next =>
  obtain⟨σ',H',J,q⟩:=hs;exact⟨.non,H',J.os,J.bare,J.base,J.hok,rfl,q⟩
 |brk=>obtain⟨_,_,_,q⟩:=hs;exact q.elim
 |cont=>obtain⟨_,_,_,q⟩:=hs;exact q.elim
theorem IQ{X:Cx}{k:Nat}{f:Addr}{fd:vj}{ps:List Str}{sp:Sp}{x:Str}{p pos:Pos}{e:Expr}{es:List Expr}{t:TA}(F:k6 X.prog X.w X.K X.mg X.base k f fd ps sp)(hr:RoomM k X.A)(hg:Gl X x)(hm:X.mg x=some (.ref f))(hk:keepIn X.K (.ref f)=true)(hb:Binds X.K fd ps [])
  (ha:PA X (e::es) t) (fk:(x == ("__debug__":Str))=false) (he:starEach (e::es) X.env=(false,eval e X.env)::starEach es X.env) (ik:(backTo pos (starEach es X.env)).any (·.1)=false) :
  PE X (.Call (.Name x p) (e::es) [] pos) (uV sp [] E0 t):=by
 intro pins s σ H Q I h;refine wpAny_Call_Name_kw (eA I hg hm ?_ fk);refine callWith_K (h₀:=X.base) I.ok.mod.kin hk (af (ha pos pins s σ H _ I h) fun us s1 hh=>?_) he ik
 obtain⟨vs,H1,I1,r,q⟩:=hh;refine⟨I1.kIn,?_⟩;rw[tj]at q;have hl:(us++[]).length=ps.length:=by rw[tj,←r.length];exact F.len _ _ _ q
 have hbd:=hb s1 us I1.kIn hl
 rw[tj]at hbd;refine wpAny_call (codeAny_mono (F.run X.A X.stack s1 H1 ⟨us,[]⟩ us vs Q hr I1.env0 hbd r q) fun rr s2 hq=>?_)
 cases rr with
 |error e=>exact hq.elim
 |ok fl =>
  cases fl with
  |ret u=>exact I1.after hq
  |next=>exact hq.elim
  |brk=>exact hq.elim
  |cont=>exact hq.elim
structure XcK (K:vi) (C:Addr):Prop where
 ga:findIn K (.ref C) "__getattribute__" = some (some (.builtin "BaseException.__getattribute__"))
 gn:findIn K (.ref C) "__getattr__" = some none
 ha:findIn K (.ref C) "__class__" = some (some (.builtin "object.__class__"))
 hn:specialIn K (.builtin "object.__class__") "__get__" = some (some (.builtin "getset_descriptor.__get__"))
 tk:takesIn K (.builtin "object.__class__")=some true
 hm:mroIn K C (.type "object")=some true
 hb:mroIn K C (.type "BaseException")=some true
theorem XcK.cl{K:vi}{C:Addr}(F:XcK K C):(PySem.W.clsIn K C).isSome=true:=by
 have h:=F.hm
 unfold mroIn at h;obtain⟨cd,h1,_⟩:=qr.mp h;rw[h1];rfl
section
open PySem.W PySem.Builtin PySem.Builtin.ObjectAttr PySem.Builtin.Getset_descriptor
variable {K:vi}{x C:Addr}
theorem oK{M:Model}{h:Heap}(p:isExc x C h):Looks M h (typeOf (.ref x)) (.ref C):=by
 obtain⟨o,e,c⟩:=p;exact c ▸ (Looks.ld e).andThen .now
theorem ME{h:Heap}(k:K.In h)(z:(clsIn K C).isSome=true):(∃c d cd sl,h.get? C=some ⟨c,d,.cls cd,sl⟩)∧∀M:Model,Looks M h (isType (.ref C)) true:=by
 unfold clsIn at z;split at z
 ·rename_i c d cd sl ho;refine⟨⟨c,d,cd,sl,k _ _ ho⟩,fun M A Q E s kk q=>?_⟩
  unfold isType loadHead;exact uh (wpAny_loadPart (kk _ _ (k _ _ ho)) (ui q))
 ·cases z
theorem TN{prog:vk}{w:World}{A:Around}{R:Result→Shared→Prop}{s:Shared}{tp:Value}(F:XcK K C)(k:K.In s.heap)(p:isExc x C s.heap)(q:R (.ok (.ret (.ref C))) s) :
  codeAny (model prog w) A (.call (.builtin "getset_descriptor.__get__") ⟨[.builtin "object.__class__",.ref x,tp],[]⟩) R s:=by
 obtain⟨hp,gs,dr,tks,oss⟩:=s;have lt:Looks (model prog w) hp (typeOf (.ref x)) (.ref C):=oK p
 have lm:=looks_mroIn (M:=model prog w) k F.hm
 refine codeAny_call_builtin KF.slot_gs.plain KF.entry_gs (KF.slot_gs.check _ _ _ _ _ _ _ _ KF.type_class (KF.args_gs _ _ _) ?_);unfold Builtin.«getset_descriptor.__get__»;unfold descrGet;rw[dga_obj];refine uh (ui ?_);unfold descrGetter;unfold descrCheckInstance descrNameAndClass;unfold isInstance;simp only[KF.owner_class]
 repeat lk
 refine⟨Code.quiet_builtin _ (by decide +kernel),?_⟩
 refine codeAny_builtin KF.entry_class ?_;unfold Builtin.«object.__class__»;unfold shownTypeOf
 repeat lk
 exact q
theorem GA{prog:vk}{w:World}{A:Around}{E:vm}{s:Shared}{tk:Tok}{Q:Fin→Shared→Prop}(F:XcK K C)(k:K.In s.heap)(p:isExc x C s.heap)(q:Q (.done (.ret (.ref C))) s) :
  wpAny (model prog w) A (Builtin.«object.__getattribute__» ⟨[.ref x,.str "__class__" tk],[]⟩) Q E s:=by
 obtain⟨hp,gs,dr,tks,oss⟩:=s;have lt:Looks (model prog w) hp (typeOf (.ref x)) (.ref C):=oK p
 have lf:Looks (model prog w) hp (find (.ref x) (.ref C) "__class__") (.bind (.builtin "getset_descriptor.__get__") (.builtin "object.__class__")):=
  (looks_findIn k F.ha).andThen ((looks_specialIn k F.hn).andThen ((show Looks (model prog w) hp (dataDescriptor? (some (.builtin "object.__class__")) (some (.builtin "getset_descriptor.__get__"))) (some (.builtin "getset_descriptor.__get__",.builtin "object.__class__")) from(looks_takesIn k F.tk).andThen .now).andThen (Looks.tag .now)))
 unfold Builtin.«object.__getattribute__»;refine uh (wpAny_of_eq (a:=(Value.ref x,[Value.str "__class__" tk])) (by rfl) ?_)
 refine uh (ui (uh (lt.at (uh (lf.at ?_)))));show wpAny _ _ (holding [Value.builtin "object.__class__"] (call (.builtin "getset_descriptor.__get__") [.builtin "object.__class__",.ref x,.ref C]) >>= ret) _ _ _
 exact uh (wpAny_holding (uj (wpAny_call (TN (R:=fun r s'=>match r with | .ok (.ret v)=>Q (.done (.ret v)) s' | .ok _=>False | .error e=>E e s') F k p (tp:=.ref C) q)) (fun v s' z=>ui z) fun _ _ z=>z))
theorem GB{M:Model}{A:Around}{E:vm}{s:Shared}{v:Value}{Q:Unit→Shared→Prop}(F:XcK K C)(k:K.In s.heap)(p:isExc x C s.heap)(q:Q () s) :
  wpAny M A (checkBuiltinCall "BaseException.__getattribute__" ⟨[.ref x,v],[]⟩) Q E s:=by
 obtain⟨hp,gs,dr,tks,oss⟩:=s;have lt:Looks M hp (typeOf (.ref x)) (.ref C):=oK p
 have lb:=looks_mroIn (M:=M) k F.hb
 have hk:builtinKind "BaseException.__getattribute__" = some .slot:=by decide +kernel
 have bq:splitId "BaseException.__getattribute__" = some ("BaseException","__getattribute__"):=by decide +kernel
 have har:=PySem.F.args_bexc_ga (.ref x) v
 simp only[checkBuiltinCall,hk,bq];refine uh ?_;unfold isInstance;refine uh (lt.at (lb.at ?_));simp only[tf,r8,if_false]
 repeat wp_step
 exact q
theorem TQ{prog:vk}{w:World}{A:Around}{E:vm}{Q:Option Value→Shared→Prop}{s:Shared}(F:XcK K C)(k:K.In s.heap)(p:isExc x C s.heap)(q:Q (some (.ref C)) { s with toks:=s.toks+1 }) :
  wpAny (model prog w) A (getAttr? (.ref x) "__class__") Q E s:=by
 obtain⟨hp,gs,dr,tks,oss⟩:=s;have lt:Looks (model prog w) hp (typeOf (.ref x)) (.ref C):=oK p
 have lg:=looks_findIn (M:=model prog w) k F.ga
 have lh:=looks_findIn (M:=model prog w) k F.gn
 have lb:=looks_mroIn (M:=model prog w) k F.hb
 have hx2:(Value.builtin "BaseException.__getattribute__" == Value.builtin "object.__getattribute__")=false:=by decide +kernel
 have hk:builtinKind "BaseException.__getattribute__" = some .slot:=by decide +kernel
 have bq:splitId "BaseException.__getattribute__" = some ("BaseException","__getattribute__"):=by decide +kernel
 unfold getAttr? getAttrBy? getAttrBy;refine uh (wpAny_mkText (uh (wpAny_attempt (wpAny_holding (uh (lt.at (uh (lg.at ?_))))))));dsimp only;rw[hx2,Bool.and_false,if_neg (by decide)]
 unfold getAttrByItsOwn hookBefore;refine uh ?_;rw[if_pos (show onTheHeap (Value.ref C)=true from rfl)]
 refine lh.at ?_;refine uh (wpAny_attempt (wpAny_holding ?_));unfold callGetattribute;rw[Bool.false_and,if_neg (by decide)]
 unfold boundAndCalled;refine uh (wpAny_of_eq (PySem.F.attrBase_ValueError.ga.bind (.ref x)) ?_);refine wpAny_call (codeAny_call_builtin PySem.F.attrBase_ValueError.ga.plain PySem.F.entry_bexc_ga ?_);refine GB F k p ?_;refine uj (GA (Q:=fun fin s'=>fin=.done (.ret (.ref C))∧s'=⟨hp,gs,dr,tks+1,oss⟩) (E:=fun _ _=>False) F k p ⟨rfl,rfl⟩) (fun fin s' z=>?_) fun _ _ z=>z.elim
 obtain⟨rfl,rfl⟩:=z;exact handed_on rfl (ui q)
theorem JW(F:XcK K C):KitX K (.ref x) (.ref C) (isExc x C) where
 ty:=fun _ _ _ p=>oK p
 it:=fun M _ k _=>(ME k F.cl).2 M
 ne:=fun h tp dd its n sl k htp=>by
  obtain⟨⟨c,d,cd,sl',e⟩,_⟩:=ME k F.cl;refine Bool.eq_false_iff.mpr fun q=>?_
  have ee:C=tp:=Value.ref.inj (u0.mp q)
  rw[ee,htp]at e;cases e
 ca:=fun k p q=>TQ F k p q
end
end Z
namespace Z
open PySem
end Z
namespace Z
open PySem PySem.Spec PyProof.Rows L2
def rE(K:vi)(T:Tx)(S:Addr→Prop)(H H':Hp)(d:D)(v:V):Prop:=∀ds,d=.lst ds→∃p xs,v=.ref p∧H p=none∧H' p=some (.lst xs)∧aE K T (er H' p) S ds xs
def i5(K:vi)(T:Tx)(n:Nat)(f:List D→Option Rs)(fr:Bool):Sp:=fun vs H Q E=>vs.length=n∧∃(S:Addr→Prop) (ds:List D),(∀a,S a→∃o,H a=some o)∧aE K T H S ds vs ∧
 ((∃d,f ds=some (.ok d)∧∀v H',aH H H'→Rep K T H' S d v→(fr=true→rE K T S H H' d v)→Q v H') ∨
  (∃c C,f ds=some (.er c)∧T.xc c=some C∧∀H',aH H H'→E (.ref C) none H'))
def XY(K:vi)(T:Tx)(C:Addr)(n:Nat)(g:List D→Option Rs):Sp:=fun vs H Q _=>vs.length=n∧∃(p dx:Addr) (ws:List V) (S:Addr→Prop) (ds:List D) (d:D),vs=.ref p::ws∧H p=some (.ins C dx [])∧S p∧(∀a,S a→∃o,H a=some o) ∧
 aE K T H S ds ws∧g ds=some (.ok d)∧∀H',(∀b o,b≠p→H b=some o→H' b=some o)→(∀S':Addr→Prop,(∀a,S' a→S a∧a≠p)→Rep K T H' S' d (.ref p))→Q .non H'
noncomputable def fK:List Str:=["len","int","list","tuple","max","min","str","sorted","any","range","reversed","enumerate","isinstance","bool","ValueError"]
def nu(C:Addr)(x:Str):Sp:=fun vs H Q _=>∃a,vs=[.ref a]∧H a=some (.ext (isExc a C))∧∀H',aH H H'→Q (.str x) H'
def OH(X:Cx)(T:Tx)(a:Addr)(kvs:List (Str×D)):Prop:=(a == sysModules)=false∧∃o vs,X.K.lookup a=some o∧o.IsDictOf (bP X.prog X.w) vs∧(∀k,(valueAt vs (Sum.inr k)).isSome=(kvs.lookup k).isSome) ∧
 ∀k d u,kvs.lookup k=some d→valueAt vs (Sum.inr k)=some u→∃v,RelV v u∧∀(H:Hp) (S:Addr→Prop),(∀a o,X.K.lookup a=some o→H a=none)→(∀a,S a→∃o,H a=some o)→Rep X.K T H S d v
structure qm (CX:au) (X:Cx) (c:CC) (G:GS) (T:Tx) (lv:Nat):Prop where
 fn:∀x,c.fns.contains x=true→∃f fd ps,X.mg x=some (.ref f)∧keepIn X.K (.ref f)=true∧Binds X.K fd ps []∧(∀ds r,G.fn x ds=some r→ds.length=ps.length) ∧
  FnOk X.prog X.w X.K X.mg X.base CX lv f fd ps (i5 X.K T ps.length (G.fn x) (G.ff x))
 me:∀cn C m ds r,T.cl cn=some C→G.me cn m ds=some r→∃f fd ps,i3 X.K C m f∧Binds X.K fd ps []∧(∀ds r,G.me cn m ds=some r→ds.length=ps.length) ∧
  FnOk X.prog X.w X.K X.mg X.base CX lv f fd ps (i5 X.K T ps.length (G.me cn m) (G.mf cn m))
 cls:∀cn C,T.cl cn=some C→Cls X.K C
 fld:∀cn C f,T.cl cn=some C→(G.fl cn).contains f=true→eD X.K C f
 mo:∀x,c.cls.contains x=true→∀ds d,G.mo x ds=some (.ok d)→∃C f fd ps j,j+1≤lv∧X.mg x=some (.ref C)∧Mk X.K C f∧Binds X.K fd ps []∧ds.length+1=ps.length ∧
  FnOk X.prog X.w X.K X.mg X.base CX j f fd ps (XY X.K T C ps.length (G.mo x))
 cst:∀x d,G.cst x=some d→c.csts.contains x=true→∃u v,X.mg x=some u∧RelV v u∧∀(H:Hp) (S:Addr→Prop),(∀a o,X.K.lookup a=some o→H a=none)→(∀a,S a→∃o,H a=some o)→Rep X.K T H S d v
 bi:∀x,fK.contains x=true→c.fns.contains x=false→c.cls.contains x=false→X.mg x=none
 xcl:∀x C,T.xc x=some C→X.mg x=some (.ref C)
 frs:∀x,c.fresh.contains x=true→G.ff x=true∧∀cn,G.mf cn x=true
 cx0:∀outer H s e s',CX outer H s E0 e s'→False
 cxf:∀outer H s E e s',CX outer H s E e s'→gL X.prog X.w outer H s E e s'
 xns:∀k,G.xn k=true→∃C,T.xc k=some C
 xk:∀k C,T.xc k=some C→excIn X.K C fw "ValueError.__new__" = true
 sub:∀k k' C C',T.xc k=some C→T.xc k'=some C'→G.sub k k'=true→eI X.K C (.ref C')=true
 wd:∀f k x C,T.xc k=some C→G.wd f k=some x→∃fa fd ps j,j≤lv∧X.mg f=some (.ref fa)∧keepIn X.K (.ref fa)=true∧Binds X.K fd ps []∧k6 X.prog X.w X.K X.mg X.base j fa fd ps (nu C x)
 dk:∀x kvs,G.dk x=some kvs→∃a,X.mg x=some (.ref a)∧OH X T a kvs
def uK(k:Option NameKind)(k':Option NameKind):Prop:=match k with
 |some .local=>k'=some .local
 |some .cell=>k'=some .cell
 |some .free=>k'=some .free∨k'=some .cell
 |some .globalImplicit=>k'=some .globalImplicit
 |_=>True
structure XC (CX:au) (X:Cx) (c:CC) (G:GS) (T:Tx) (lv:Nat):Prop where
 N:X.N=c.N
 nd:c.N.Nodup
 kd:∀x,uK (c.sc.names.lookup x) (X.env.kindOf x)
 own:∀x,c.sc.names.lookup x=some .cell→X.fn x=true
 dbg:∀x∈c.N,(x == ("__debug__":Str))=false∧(x == ("__classdict__":Str))=false
 gdb:aW c "__debug__" = false
 calm:X.calm=true
 room:Room lv X.A
 go:qm CX X c G T lv
section
variable {CX:au}{X:Cx}{c:CC}{G:GS}{T:Tx}{lv:Nat}
theorem XC.units(h:XC CX X c G T lv):X.A.units+64<cLine:=h.room.units
theorem XC.glob(h:XC CX X c G T lv){x:Str}(e:aW c x=true):Gl X x:=by
 have k:=h.kd x
 have e':c.sc.names.lookup x=some .globalImplicit:=by
  unfold aW at e;exact u0.mp e
 rw[e']at k;exact k
theorem XC.gne(h:XC CX X c G T lv){x:Str}(e:aW c x=true):(x == ("__debug__":Str))=false:=by
 cases q:x == ("__debug__":Str) with
 |false=>rfl
 |true =>
  have q':x = "__debug__":=u0.mp q
  subst q';rw[h.gdb]at e;cases e
theorem iA{α:Type}[DecidableEq α][BEq α][LawfulBEq α]:∀{l:List α} {x:α} {i:Nat},l.idxOf? x=some i→l[i]?=some x:=by
 intro l x i h;unfold List.idxOf? at h;rw[List.findIdx?_eq_some_iff_getElem]at h;obtain⟨h1,h2,_⟩:=h;rw[qt h1];exact congrArg some (u0.mp h2)
theorem rQ{x:Str}{i:Nat}(e:bX c x=some i):c.N[i]?=some x∧(c.sc.names.lookup x=some .local∨c.sc.names.lookup x=some .cell∨c.sc.names.lookup x=some .free):=by
 unfold bX at e;split at e
 ·rename_i h;exact⟨iA e,.inl h⟩
 ·rename_i h;exact⟨iA e,.inr (.inl h)⟩
 ·rename_i h;exact⟨iA e,.inr (.inr h)⟩
 ·cases e
theorem XC.vis(h:XC CX X c G T lv){x:Str}(e:c.sc.names.lookup x=some .local∨c.sc.names.lookup x=some .cell∨c.sc.names.lookup x=some .free):Vis X.env.scope x:=by
 have k:=h.kd x
 rcases e with e|e|e
 ·rw[e]at k;exact .inl k
 ·rw[e]at k;exact .inr (.inl k)
 ·rw[e]at k
  rcases k with k|k
  ·exact .inr (.inr k)
  ·exact .inr (.inl k)
theorem gN{x:Str}{p:Pos}{i:Nat}(e:gB c (.Name x p)=some i):c.N[i]?=some x∧(c.sc.names.lookup x=some .local∨c.sc.names.lookup x=some .cell):=by
 simp only[gB]at e;split at e
 ·rename_i h;exact⟨iA e,.inl h⟩
 ·rename_i h;exact⟨iA e,.inr h⟩
 ·cases e
theorem XC.loc(h:XC CX X c G T lv){x:Str}(e:c.sc.names.lookup x=some .local∨c.sc.names.lookup x=some .cell):Loc X.env.scope x∧(X.fn x=true∨X.env.scope.names.lookup x=some .local):=by
 have k:=h.kd x
 rcases e with e|e
 ·rw[e]at k;exact⟨.inl k,.inr k⟩
 ·have o:=h.own x e
  rw[e]at k;exact⟨.inr k,.inl o⟩
theorem VM{pins:vn}{σ:L2.St}{H:Hp}{s:Shared}(I:Inv X pins σ H s):∀a o,X.K.lookup a=some o→H a=none:=fun a o e=>(I.bs a o (I.mod.kin a o e)).2
def gD(K:vi)(T:Tx)(S:Addr→Prop)(is:List Nat)(ρ ρ1:List Sl)(d:D):TG:=fun v σ H Q=>RE K T H S ρ σ∧Rep K T H S d v∧∀σ',RE K T H S ρ1 σ'→(∀j,j∉is→σ'[j]?=σ[j]?)→Q σ' H
theorem RE.set{K:vi}{H:Hp}{S:Addr→Prop}{ρ:List Sl}{σ:L2.St}{i:Nat}{d:D}{v:V}(re:RE K T H S ρ σ)(r:Rep K T H S d v):RE K T H S (ρ.set i (.im d)) (σ.set i (some v)):=by
 refine⟨re.dom,by simp[re.len],fun j s e=>?_⟩
 by_cases hj:j=i
 ·subst hj;have hl:j<ρ.length:=by
   have:=(q8.mp e).1
   simpa using this
  rw[sk hl]at e;cases e;rw[sk (by rw[←re.len];exact hl)]
  exact⟨v,rfl,r⟩
 ·rw[so (Ne.symm hj)]at e ⊢;exact re.at_ j s e
noncomputable def gDs(K:vi)(T:Tx)(S:Addr→Prop)(is:List Nat)(ρ ρ1:List Sl)(ds:List D):jw:=fun vs σ H Q=>RE K T H S ρ σ∧aE K T H S ds vs∧∀σ',RE K T H S ρ1 σ'→(∀j,j∉is→σ'[j]?=σ[j]?)→Q σ' H
theorem eM(env:Env):∀{es:List Expr} {is:List Nat},eX c es=some is→(assignEach es env).map (·.2)=es.map (fun e=>assign e env)∧(assignEach es env).length=es.length∧(assignEach es env).findIdx? (·.1)=none:=by
 intro es
 induction es with
 |nil=>intro is _;exact⟨rfl,rfl,rfl⟩
 |cons e es ih =>
  intro is h;simp only[eX,qx,qr]at h;obtain⟨i,h1,r,h2,_⟩:=h;obtain⟨a1,a2,a3⟩:=ih h2;cases e<;>simp only[gB,reduceCtorEq]at h1
  rename_i x p;refine⟨?_,?_,?_⟩
  ·show assign (.Name x p) env::(assignEach es env).map (·.2)=_
   rw[a1];rfl
  ·show (assignEach es env).length+1=_
   rw[a2];rfl
  ·show List.findIdx? (·.1) ((false,assign (.Name x p) env)::assignEach es env)=none
   rw[List.findIdx?_cons,a3];rfl
theorem aDM(h:XC CX X c G T lv){S:Addr→Prop}:∀{es:List Expr} {is:List Nat} {ds:List D} {ρ ρ1:List Sl},eX c es=some is→bK is ds ρ=some ρ1→qh X es (gDs X.K T S is ρ ρ1 ds):=by
 intro es
 induction es with
 |nil =>
  intro is ds ρ ρ1 h1 h2;simp only[eX]at h1;cases h1;cases ds with
  |nil =>
   simp only[bK]at h2;cases h2;intro pins s σ H vs us Q I r ⟨re,rl,q⟩;unfold aE at rl;exact QW pins s σ H vs us Q I r ⟨rl,q σ re fun _ _=>rfl⟩
  |cons d ds=>simp[bK]at h2
 |cons e es ih =>
  intro is ds ρ ρ1 h1 h2;simp only[eX,qx,qr]at h1;obtain⟨i,h1,r,h3,h4⟩:=h1;cases h4;cases ds with
  |nil=>simp[bK]at h2
  |cons d ds =>
   simp only[bK]at h2;have hs:=(eM (c:=c) X.env (es:=e::es) (is:=i::r) (by simp[eX,h1,h3])).1
   have i7:=(eM (c:=c) X.env h3).1
   cases e<;>simp only[gB,reduceCtorEq]at h1
   rename_i x p;have pz:gB c (.Name x p)=some i:=h1
   obtain⟨hN,hk⟩:=gN pz;obtain⟨hl,hf⟩:=h.loc hk;have p1:PG X (.Name x p) (qO i):=AI (by rw[h.N];exact h.nd) (by rw[h.N];exact hN) hl hf
   have p2:=IL p1 (ih h3 h2) (by rw[hs,i7];rfl)
   intro pins s σ H vs us Q I rv ⟨re,rl,q⟩;unfold aE at rl;obtain⟨y,w,e1,ry,ie⟩:=rl;refine p2 pins s σ H vs us Q I rv ⟨y,w,e1,?_⟩;refine⟨re.set ry,ie,fun σ2 re2 ag=>q σ2 re2 fun j hj=>?_⟩
   rw[ag j fun z=>hj (rg _ z),so (fun z=>hj (by rw[z];simp))]
theorem ZE(h:XC CX X c G T lv){S:Addr→Prop}{tg:Expr}{is:List Nat}{tp:Bool}{d:D}{ρ ρ1:List Sl}(h1:dA c tg=some (is,tp))(h2:bJ is tp d ρ=some ρ1):PG X tg (gD X.K T S is ρ ρ1 d):=by
 cases tg<;>simp only[dA,reduceCtorEq,rq,Prod.mk.injEq]at h1
 ·rename_i x p;obtain⟨i,h3,rfl,rfl⟩:=h1;simp only[bJ,r8,if_false,bK]at h2;cases h2;obtain⟨hN,hk⟩:=gN h3;obtain⟨hl,hf⟩:=h.loc hk;have p1:PG X (.Name x p) (qO i):=AI (by rw[h.N];exact h.nd) (by rw[h.N];exact hN) hl hf
  intro pins s σ H v u Q I rv ⟨re,rd,q⟩;exact p1 pins s σ H v u Q I rv (q _ (re.set rd) fun j hj=>so (fun z=>hj (by rw[z];simp)))
 ·rename_i es k p;obtain⟨is',h3,rfl,rfl⟩:=h1;simp only[bJ,if_true]at h2;cases d<;>simp only[reduceCtorEq]at h2
  rename_i ds;obtain⟨a1,a2,a3⟩:=eM (c:=c) X.env h3;have p1:=ZC (pos:=p) (k:=k) (n:=es.length) h.calm (aDM h (S:=S) h3 h2) a2 a3
  intro pins s σ H v u Q I rv ⟨re,rd,q⟩;unfold Rep at rd;obtain⟨a,xs,ev,_,e,rl⟩:=rd;refine p1 pins s σ H v u Q I rv ⟨a,xs,ev,e,?_,re,rl,q⟩;have l1:=rl.len
  have l2:is'.length=es.length:=by
   clear p1 a1 a2 a3 rl h2 q
   induction es generalizing is' with
   |nil=>simp only[eX]at h3;cases h3;rfl
   |cons e es ih =>
    simp only[eX,qx,qr]at h3;obtain⟨i,_,r,h4,h5⟩:=h3;cases h5;simp only[uw,Nat.add_right_cancel_iff];exact ih r h4
  have l3:∀{is:List Nat} {ds:List D} {ρ ρ1:List Sl},bK is ds ρ=some ρ1→is.length=ds.length:=by
   intro is
   induction is with
   |nil=>intro ds ρ ρ1 z;cases ds<;>simp_all [bK]
   |cons i is ih =>
    intro ds ρ ρ1 z;cases ds with
    |nil=>simp[bK]at z
    |cons d ds=>simp only[bK]at z;simp[ih z]
  rw[←l1,←l3 h2,l2]
end
def jj(K:vi)(T:Tx)(S:Addr→Prop)(H0:Hp)(J:It)(ds:List D):Prop:=∀(H:Hp) (S':Addr→Prop),aO K H0 H S S'→(∀a,S' a→∃o,H a=some o) →
 (∀i d,ds[i]?=some d→J.go i H∧∀x H',J.yld i H x H'→aH H H'∧Rep K T H' S' d x)∧∀i,ds.length≤i→J.stop i H
def tI(K:vi)(T:Tx)(S:Addr→Prop)(ρ:List Sl)(ds:List D):TI:=fun σ H R=>RE K T H S ρ σ∧∀J H',aH H H'→jj K T S H' J ds→ds.length≤sizeLine→R J H'
theorem fQ(sc:Scope)(env:Env)(x:Str):(relabel sc env).names.lookup x=(sc.names.lookup x).map fun k=>if (k == .free&&env.scope.kind == .function&&env.kindOf x == some .cell)=true then .cell else k:=by
 show (sc.names.map fun (p:Str×NameKind)=>if (p.2 == .free&&env.scope.kind == .function&&env.kindOf p.1 == some .cell) then(p.1,NameKind.cell) else(p.1,p.2)).lookup x=_
 induction sc.names with
 |nil=>rfl
 |cons p r ih =>
  obtain⟨n,k⟩:=p;rw[tu]
  by_cases hx:x=n
  ·subst hx
   by_cases hc:(k == .free&&env.scope.kind == .function&&env.kindOf x == some .cell)=true
   ·show List.lookup x ((if (k == .free&&env.scope.kind == .function&&env.kindOf x == some .cell)=true then(x,NameKind.cell) else(x,k))::_)=_
    rw[if_pos hc,lookup_cons,lookup_cons,beq_self_eq_true];simp only[um];rw[if_pos hc]
   ·show List.lookup x ((if (k == .free&&env.scope.kind == .function&&env.kindOf x == some .cell)=true then(x,NameKind.cell) else(x,k))::_)=_
    rw[if_neg hc,lookup_cons,lookup_cons,beq_self_eq_true];simp only[um];rw[if_neg hc]
  ·have hb:(x == n)=false:=by simpa using hx
   show List.lookup x ((if (k == .free&&env.scope.kind == .function&&env.kindOf n == some .cell)=true then(n,NameKind.cell) else(n,k))::_)=_
   by_cases hc:(k == .free&&env.scope.kind == .function&&env.kindOf n == some .cell)=true
   ·rw[if_pos hc,lookup_cons,lookup_cons,hb];exact ih
   ·rw[if_neg hc,lookup_cons,lookup_cons,hb];exact ih
theorem gK{env:Env}:∀(names:List (Str×NameKind)) (acc:List (Str×Addr)),(∀x∈names,x.2=.free→∃a,env.cells.lookup x.1=some a) →
  ∃cl,(forIn names acc fun (x:Str×NameKind) (cs:List (Str×Addr))=>if (x.2 == .free)=true then(do let a ←cellOf env x.1;pure (ForInStep.yield ((x.1,a)::cs))) else pure (ForInStep.yield cs):Sem (List (Str×Addr)))=pure cl ∧
   (∀x a,cl.lookup x=some a→acc.lookup x=some a∨env.cells.lookup x=some a)∧(∀x,((x,NameKind.free)∈names∨∃a,acc.lookup x=some a)→∃a,cl.lookup x=some a)
 |[],acc,_=>⟨acc,rfl,fun x a h=>.inl h,fun x h=>by
   rcases h with h|h
   ·simp at h
   ·exact h⟩
 | (n,k)::r,acc,h=>by
  by_cases hk:k=.free
  ·subst hk;obtain⟨a,ha⟩:=h (n,.free) (by simp) rfl
   obtain⟨cl,e,h1,h2⟩:=gK r ((n,a)::acc) fun x hx=>h x (rg _ hx)
   refine⟨cl,?_,fun x b q=>?_,fun x q=>h2 x ?_⟩
   ·rw[List.forIn_cons];simp only[beq_self_eq_true,if_true,cellOf,ha];exact e
   ·rcases h1 x b q with z|z
    ·rw[lookup_cons]at z;cases hx:x == n with
     |true =>
      rw[hx]at z;have:x=n:=u0.mp hx
      subst this;cases z;exact .inr ha
     |false=>rw[hx]at z;exact .inl z
    ·exact .inr z
   ·by_cases hx:x=n
    ·subst hx;exact .inr ⟨a,by simp⟩
    ·have hb:(x == n)=false:=by simpa using hx
     rcases q with q|⟨b,q⟩
     ·rcases sv.mp q with q|q
      ·exact absurd (Prod.mk.inj q).1 hx
      ·exact .inl q
     ·exact .inr ⟨b,by rw[lookup_cons,hb];exact q⟩
  ·have hb:(k == NameKind.free)=false:=by simpa using hk
   obtain⟨cl,e,h1,h2⟩:=gK r acc fun x hx=>h x (rg _ hx)
   refine⟨cl,?_,h1,fun x q=>h2 x ?_⟩
   ·rw[List.forIn_cons];simp only[hb,r8,if_false];exact e
   ·rcases q with q|q
    ·rcases sv.mp q with q|q
     ·exact absurd (Prod.mk.inj q).2.symm hk
     ·exact .inl q
    ·exact .inr q
theorem oV{env:Env}{sc:Scope}(h:∀x∈sc.names,x.2=.free→∃a,env.cells.lookup x.1=some a) :
  ∃cl,closureFor sc env=pure cl∧(∀x a,cl.lookup x=some a→env.cells.lookup x=some a)∧(∀x,(x,NameKind.free)∈sc.names→∃a,cl.lookup x=some a):=by
 obtain⟨cl,e,h1,h2⟩:=gK (env:=env) sc.names [] h;refine⟨cl,?_,fun x a q=>(h1 x a q).elim (fun z=>by simp at z) id,fun x q=>h2 x (.inl q)⟩
 show ((forIn sc.names [] fun (x:Str×NameKind) (cs:List (Str×Addr))=>if (x.2 == .free)=true then(do let a ←cellOf env x.1;pure (ForInStep.yield ((x.1,a)::cs))) else pure (ForInStep.yield cs):Sem (List (Str×Addr))) >>= fun cs=>pure cs)=pure cl
 rw[e];rfl
noncomputable def xB(X:Cx)(N':List Str)(sc:Scope)(cl:List (Str×Addr))(C:Addr)(s:Shared)(H:Hp)(fp:List Addr)(E:vm):Cx:=
 {X with N:=N',s₀:=s,H₀:=H,env:=compEnvC sc cl C X.env,outer:=X.stack,ex:=fp,fn:=fun _=>false,pn:=[],xe:=E }
theorem uD{prog:vk}{w:World}{A:Around}{R:Result→Shared→Prop}{s:Shared}{elt target iter:Expr}{ifs:List Expr}{scope:Scope}{pos:Pos}{it acc:Value}{env:Env}(I:Nat→Shared→Prop)
  (turn:∀n s,I n s→wpAny (model prog w) A (pyNext it) (fun r s₁=>match r with
   |none=>R (.ok .next) s₁
   |some v=>wpAny (model prog w) A (letOwnedTupleGo target it v) (fun _ s₁=>wpAny (model prog w) A (assign target env v) (fun _ s₂ =>
     wpAny (model prog w) A (forIn ifs true fun c r=>if r=true then do let ok ←isTrue c env (eval c env);pure (ForInStep.yield ok) else pure (ForInStep.yield r)) (fun ok s₃ =>
      if ok=true then wpAny (model prog w) A (eval elt env) (fun x s₄ =>
       wpAny (model prog w) A (call (.builtin "list.append") [acc,x]) (fun _ s₅=>∃m,m<n∧I m s₅) (notedBy (model prog w) A env fun e s'=>R (.error e) s') s₄) (notedBy (model prog w) A env fun e s'=>R (.error e) s') s₃
      else ∃m,m<n∧I m s₃) (notedBy (model prog w) A env fun e s'=>R (.error e) s') s₂) (notedBy (model prog w) A env fun e s'=>R (.error e) s') s₁) (notedBy (model prog w) A env fun e s'=>R (.error e) s') s₁) (notedBy (model prog w) A env fun e s'=>R (.error e) s') s)
  (n:Nat) (h:I n s):codeAny (model prog w) A (.compLoop (.ListComp elt [⟨target,iter,ifs,0⟩] scope pos) 0 it acc env) R s:=by
 refine codeAny_loop rfl I (fun n s hI=>?_) n h
 show wpAny _ A ((compTurn (.ListComp elt [⟨target,iter,ifs,0⟩] scope pos) 0 it acc env).onRaise (fun x=>do noteFrame x env;theTreesLotGoes x)) _ _ s
 refine wpAny_noted ?_;rw[compTurn_list];refine uh (wpAny_standAt (uh (uj (turn n s hI) (fun r s₁ h₁=>?_) fun _ _ h'=>h')))
 cases r with
 |none=>exact ui h₁
 |some v =>
  refine uh (uj h₁ (fun _ s₁' h₁'=>?_) fun _ _ h'=>h')
  refine uh (uj h₁' (fun _ s₂ h₂=>uh (uj h₂ (fun ok s₃ h₃=>?_) fun _ _ h'=>h')) fun _ _ h'=>h')
  cases ok with
  |false=>exact ui ⟨rfl,h₃⟩
  |true =>
   exact uh (uh (uj h₃ (fun x s₄ h₄=>uh (uj h₄ (fun _ s₅ h₅=>ui (ui ⟨rfl,h₅⟩)) fun _ _ h'=>h')) fun _ _ h'=>h'))
section
variable {CX:au}{X:Cx}{c:CC}{G:GS}{T:Tx}{lv:Nat}{pins:vn}{σ:L2.St}{H:Hp}{s:Shared}
theorem kX(I:Inv X pins σ H s){N':List Str}{sc:Scope}{cl:List (Str×Addr)}{C:Addr}{fp:List Addr}{E:vm}(hk:sc.kind=.function)(hC:s.heap.objs.size≤C)
  (az:∀x a,cl.lookup x=some a→X.env.cells.lookup x=some a) (b6:∀x,(x,NameKind.free)∈sc.names→∃a,cl.lookup x=some a) (hnc:∀x∈sc.names,x.2≠.cell)
  (hf:∀b∈fp,lB X pins H b) (gu:∀b∈fp,b<s.heap.objs.size):(xB X N' sc cl C s H fp E).Ok where
 mod:=I.ok.mod
 kind:=hk
 glob:=I.ok.glob
 blt:=I.ok.blt
 above:=hC
 inj:=fun x y c h1 h2=>I.ok.inj x y c (az _ _ h1) (az _ _ h2)
 has:=fun x hx=>by
  have e:∀k,(relabel sc X.env).names.lookup x=some k→(k=.cell∨k=.free)→(x,NameKind.free)∈sc.names:=fun k e hk=>by
   rw[fQ]at e;cases q:sc.names.lookup x with
   |none=>rw[q]at e;cases e
   |some k0 =>
    rw[q]at e;have hm:=ua q
    by_cases fj:k0=.free
    ·subst fj;exact hm
    ·have hb:(k0 == NameKind.free)=false:=by simpa using fj
     simp only[um,hb,Bool.false_and,r8,if_false,qp]at e;subst e
     rcases hk with z|z
     ·exact absurd z (hnc _ hm)
     ·exact absurd z fj
  rcases hx with hx|hx
  ·exact b6 x (e _ hx (.inl rfl))
  ·exact b6 x (e _ hx (.inr rfl))
 cab:=fun x c h=>by cases h
 hd:=I.ok.hd
 frames:=I.ok.frames
 stk:=.inl rfl
 exf:=fun b hb=>⟨uc (sf (gu b hb) hC),fun x c e=>(hf b hb).2.2.2.2.1 x c (az _ _ e)⟩
 bs:=I.bs
 bsz:=sr I.ok.bsz I.sz
 noex:=fun b o e hb=>by
  obtain⟨_,_,_,h1,_⟩:=hf b hb
  rcases h1 with h1|h1
  ·exact I.ok.noex b o e h1
  ·exact absurd (sf (sq e) I.ok.bsz) (not_lt.mpr h1)
 exfs:=fun b hb hs=>by
  obtain⟨_,h1,h2,_⟩:=hf b hb
  rcases sv.mp (I.stkSub b hs) with z|z
  ·exact h1 z
  ·exact h2 z
 funs:=I.stack
 frf:=I.stkFree
end
section
variable {CX:au}{X:Cx}{c:CC}{G:GS}{T:Tx}{lv:Nat}{pins:vn}{σ:L2.St}{H:Hp}{s:Shared}
structure aT (c:CC) (sc:Scope):Prop where
 kind:sc.kind=.function
 nocell:∀x∈sc.names,x.2≠.cell
 loc:∀x∈sc.names,x.2=.local→sc.names.lookup x.1=some .local
 fl:∀x∈sc.names,x.2=.free→sc.names.lookup x.1=some .free
 nd:(ownNames sc).Nodup
 dbg:∀x∈ownNames sc,(x == ("__debug__":Str))=false∧(x == ("__classdict__":Str))=false
 gdb:sc.names.lookup ("__debug__":Str)≠some .globalImplicit
 fre:∀x∈sc.names,x.2=.free→c.sc.names.lookup x.1=some .cell∨c.sc.names.lookup x.1=some .free
theorem qU{sc:Scope}(h:kB c sc=true):aT c sc:=by
 unfold kB at h;simp only[rj]at h;obtain⟨⟨⟨⟨⟨⟨⟨h1,h2⟩,h3⟩,h8⟩,h4⟩,h5⟩,h6⟩,h7⟩:=h;rw[all_eq_true]at h2 h3 h5 h7 h8;refine⟨u0.mp h1,fun x hx=>?_,fun x hx e=>?_,fun x hx e=>?_,of_decide_eq_true h4,fun x hx=>?_,fun e=>?_,fun x hx e=>?_⟩
 ·have:=h2 x hx
  simpa using this
 ·have:=h3 x hx
  simpa [e] using this
 ·have:=h8 x hx
  simpa [e] using this
 ·have:=h5 x hx
  simpa [rj] using this
 ·rw[e]at h6;simp at h6
 ·have:=h7 x hx
  simpa [e] using this
theorem MD(h:XC CX X c G T lv){sc:Scope}(cs:aT c sc){cl:List (Str×Addr)}{C:Addr}{s:Shared}{H:Hp}{fp:List Addr}{E:vm} :
  XC CX (xB X (ownNames sc) sc cl C s H fp E) { c with N:=ownNames sc,sc:=sc } G T lv where
 N:=rfl
 nd:=cs.nd
 kd:=fun x=>by
  show uK (sc.names.lookup x) ((relabel sc X.env).names.lookup x)
  rw[fQ];cases q:sc.names.lookup x with
  |none=>trivial
  |some k =>
   cases k with
   | «local»=>rfl
   |cell=>exact absurd rfl (cs.nocell _ (ua q))
   |free =>
    simp only[um,uK]
    by_cases hc:((NameKind.free == NameKind.free)&&X.env.scope.kind == .function&&X.env.kindOf x == some .cell)=true
    ·rw[if_pos hc];exact .inr rfl
    ·rw[if_neg hc];exact .inl rfl
   |globalExplicit=>trivial
   |globalImplicit=>rfl
 own:=fun x e=>absurd rfl (cs.nocell _ (ua e))
 dbg:=cs.dbg
 gdb:=by
  unfold aW;exact ub.mpr cs.gdb
 calm:=h.calm
 room:=h.room
 go:=⟨h.go.fn,h.go.me,h.go.cls,h.go.fld,h.go.mo,h.go.cst,h.go.bi,h.go.xcl,h.go.frs,h.go.cx0,h.go.cxf,h.go.xns,h.go.xk,h.go.sub,h.go.wd,h.go.dk⟩
theorem FR{sc:Scope}:∀{l:List (Str×NameKind)} {fr:List (Nat×Nat)} {i j:Nat},freeOf c sc l=some fr→fr.lookup i=some j→∃x∈l,(ownNames sc).idxOf? x.1=some i∧bX c x.1=some j:=by
 intro l
 induction l with
 |nil =>
  intro fr i j h e;simp only[freeOf]at h;cases h;simp at e
 |cons x r ih =>
  intro fr i j h e;simp only[freeOf,qx,qr]at h;obtain⟨a,h1,b,h2,t,h3,h4⟩:=h;cases h4;rw[lookup_cons]at e;cases q:i == a with
  |true =>
   rw[q]at e;cases e;have:i=a:=by simpa using q
   subst this;exact⟨x,by simp,h1,h2⟩
  |false =>
   rw[q]at e;obtain⟨y,hy,z⟩:=ih h3 e;exact⟨y,rg _ hy,z⟩
noncomputable def eK(n:Nat)(fr:List (Nat×Nat))(σ:L2.St):L2.St:=(List.range n).map fun i=>match fr.lookup i with
 |some j=>σ.getD j none
 |none=>none
theorem KS{K:vi}{S:Addr→Prop}{ρ:List Sl}{n:Nat}{fr:List (Nat×Nat)}(re:RE K T H S ρ σ):RE K T H S (frame n fr ρ) (eK n fr σ):=by
 refine⟨re.dom,by simp[frame,eK],fun i sl e=>?_⟩
 unfold frame at e;unfold eK;rw[qu]at e ⊢;cases hr:(List.range n)[i]? with
 |none=>rw[hr]at e;cases e
 |some k =>
  rw[hr]at e;simp only[um,qp]at e ⊢;subst e;cases q:fr.lookup k with
  |none=>trivial
  |some j =>
   simp only;cases q2:ρ[j]? with
   |none =>
    rw[q9,q2];trivial
   |some sl =>
    have h:=re.at_ j sl q2
    rw[q9,q2];simp only[getD_some];cases sl with
    |un=>trivial
    |im d =>
     obtain⟨v,e1,r⟩:=h;exact⟨v,by rw[q9,e1];rfl,r⟩
    |mu ds =>
     obtain⟨p,xs,e1,r⟩:=h;exact⟨p,xs,by rw[q9,e1];rfl,r⟩
theorem RE.gen{K:vi}{H':Hp}{S S':Addr→Prop}{ρ:List Sl}(re:RE K T H S ρ σ)(mv:aO K H H' S S')(hm:∀a ob,S a→H a=some ob→(∃d,lY K T H S d ob)→S' a∧H' a=some ob)(hd:∀a,S' a→∃o,H' a=some o):RE K T H' S' ρ σ:=by
 refine⟨hd,re.len,fun i sl e=>?_⟩
 have h:=re.at_ i sl e
 cases sl with
 |un=>trivial
 |im d=>obtain⟨v,e1,r⟩:=h;exact⟨v,e1,Rep.gen mv d v r⟩
 |mu ds =>
  obtain⟨p,xs,e1,sp,hp,r⟩:=h;obtain⟨a1,a2⟩:=hm p xs sp hp ⟨ds,r⟩;exact⟨p,xs,e1,a1,a2,r.gen mv⟩
theorem KG(h:XC CX X c G T lv)(I:Inv X pins σ H s){sc:Scope}(cs:aT c sc){cl:List (Str×Addr)}{fr:List (Nat×Nat)}{C:Addr}{fp:List Addr}{E:vm}{s4:Shared}{m:vo}
  (aw:freeOf c sc (sc.names.filter fun x=>x.2 == .free)=some fr)
  (az:∀x a,cl.lookup x=some a→X.env.cells.lookup x=some a) (b6:∀x,(x,NameKind.free)∈sc.names→∃a,cl.lookup x=some a)
  (hf:∀b∈fp,lB X pins H b) (gu:∀b∈fp,b<s.heap.objs.size) (hC:s.heap.objs.size≤C) (hn:s4.heap.Ns C m) (hk:∀b o,s.heap.get? b=some o→s4.heap.get? b=some o)
  (ka:s4.os=s.os) (jr:AllBare s4.gens):Inv (xB X (ownNames sc) sc cl C s H fp E) [] (eK (ownNames sc).length fr σ) H s4 where
 ok:=kX I cs.kind hC az b6 cs.nocell hf gu
 os:=ka
 bare:=jr
 base:=Un.kept hk
 loc:=⟨m,hn,fun i x v h1 h2 h3=>by
  unfold eK at h2;rw[qu]at h2;cases hr:(List.range (ownNames sc).length)[i]? with
  |none=>rw[hr]at h2;cases h2
  |some k =>
   have ek:k=i:=by
    obtain⟨_,e⟩:=q8.mp hr;simpa using e.symm
   subst ek;rw[hr]at h2;simp only[um,qp]at h2;cases q:fr.lookup k with
   |none=>rw[q]at h2;cases h2
   |some j =>
    rw[q]at h2;simp only at h2;obtain⟨y,hy,hy1,f9⟩:=FR aw q;have hyx:y.1=x:=by
     have:=iA hy1
     have pz:(ownNames sc)[k]?=some x:=h1
     rw[pz]at this;exact(rn this).symm
    obtain⟨hym,hyf⟩:=List.mem_filter.mp hy;have hyf':y.2=.free:=by simpa using hyf
    have hxm:(x,NameKind.free)∈sc.names:=by
     rw[←hyx,←hyf'];exact hym
    obtain⟨hN,_⟩:=rQ f9;rw[hyx]at hN f9;have hσ:σ[j]?=some (some v):=by
     rw[q9]at h2;cases q2:σ[j]? with
     |none=>rw[q2]at h2;cases h2
     |some o=>rw[q2]at h2;simp only[getD_some]at h2;rw[h2]
    obtain⟨m0,_,hl⟩:=I.loc;have o8:=cs.fre _ hym hyf'
    rw[hyx]at o8;obtain⟨u,ru,lk⟩:=hl j x v (by rw[h.N];exact hN) hσ (h.vis (.inr o8))
    refine⟨u,ru,.inr ?_⟩;have kd:=h.kd x
    have notloc:X.env.kindOf x≠some .local:=by
     rcases o8 with z|z
     ·rw[z]at kd;intro w;rw[kd]at w;cases w
     ·rw[z]at kd;intro w
      rcases kd with kd|kd<;>(rw[kd]at w;cases w)
    rcases lk with ⟨z,_⟩|⟨_,cc,e1,e2⟩
    ·exact absurd z notloc
    ·obtain⟨a,ha⟩:=b6 x hxm;have ea:=az x a ha
     rw[e1]at ea;cases ea;refine⟨?_,cc,ha,?_⟩
     ·show (relabel sc X.env).names.lookup x=some .cell∨(relabel sc X.env).names.lookup x=some .free
      rw[fQ];have hlk:sc.names.lookup x=some .free:=cs.fl _ hxm rfl
      rw[hlk];simp only[um];split
      ·exact .inl rfl
      ·exact .inr rfl
     ·obtain⟨o,h5,h6⟩:=e2;exact⟨o,hk _ _ h5,h6⟩⟩
 cell:=fun x a e=>by
  obtain⟨v,o,h5,h6⟩:=I.cell x a (az x a e);exact⟨v,o,hk _ _ h5,h6⟩
 free:=I.hok.fresh hC
 freeC:=fun x a e=>I.freeC x a (az x a e)
 pin:=fun p hp=>absurd (show p∈([]:vn) from hp) (by simp)
 hok:=I.hok.kept hk
 len:=by simp[eK,xB]
end
section
variable {CX:au}{X:Cx}{c:CC}{G:GS}{T:Tx}{lv:Nat}{pins:vn}{σ:L2.St}{H:Hp}{s:Shared}
theorem xC{f:D→Option (Option D)}{d:D}{r out:List D}(h:bU f (d::r)=some out):∃o t,f d=some o∧bU f r=some t∧out=(match o with|some y=>y::t|none=>t):=by
 simp only[bU,qx,qr]at h;obtain⟨o,h1,t,h2,h3⟩:=h;refine⟨o,t,h1,h2,?_⟩;cases o<;>simp at h3<;>exact h3.symm
def TurnOk(CX:au)(G:GS)(T:Tx)(lv:Nat)(c':CC)(K:vi)(ifs:List Expr)(elt:Expr)(ρ1:List Sl)(o:Option D):Prop:=
 ∀(X':Cx) (S:Addr→Prop),XC CX X' c' G T lv→X'.K=K →
  ((ifs=[]∧o.isSome=true)∨∃e,ifs=[e]∧PT X' e (gk X'.K T S ρ1 o.isSome))∧∀y,o=some y→PE X' elt (tD X'.K T S ρ1 y)
theorem oT(h:XC CX X c G T lv){sc:Scope}(cs:aT c sc){tg iter elt:Expr}{ifs:List Expr}{pos:Pos}{cl:List (Str×Addr)}{fr:List (Nat×Nat)}{ba:List Nat}{tp:Bool}{ρ:List Sl}{S:Addr→Prop}
  {J:It} {fp:List Addr} {it:Addr} {tn:Nat→Heap→Prop} {ds outs:List D} {f:D→Option (Option D)} {RR:Value→Addr→Result→Shared→Prop} {E:vm}
  (aw:freeOf c sc (sc.names.filter fun x=>x.2 == .free)=some fr) (oz:ba.all (fun i=>(fr.lookup i).isNone)=true) (dy:dA { c with N:=ownNames sc,sc:=sc } tg=some (ba,tp))
  (az:∀x a,cl.lookup x=some a→X.env.cells.lookup x=some a) (b6:∀x,(x,NameKind.free)∈sc.names→∃a,cl.lookup x=some a)
  (I:Inv X pins σ H s) (re:RE X.K T H S ρ σ) (TU:Turn X.prog X.w X.K tg J fp it tn) (st:tn 0 s.heap) (hf:∀b∈fp,lB X pins H b) (j5:jj X.K T S H J ds) (hlen:ds.length≤sizeLine)
  (il:bU f ds=some outs) (dz:∀d o,f d=some o→∃ρ1,bJ ba tp d (frame (ownNames sc).length fr ρ)=some ρ1∧TurnOk CX G T lv { c with N:=ownNames sc,sc:=sc } X.K ifs elt ρ1 o)
  (hRR:∀(D C:Addr) (s':Shared) (H':Hp) (ys:List V) (m:vo),Inv X pins σ H' s'→aH H H'→H D=none→H' D=some (.lst ys)→aE X.K T (er H' D) S outs ys→s'.heap.Ns C m →
   (H' C=none∧C≠X.env.locals∧X.s₀.heap.objs.size≤C∧(∀x a,X.env.cells.lookup x=some a→a≠C)∧∀p∈X.pn++pins,p.1≠C)→RR (.ref D) C (.ok .next) s') :
  wpAny (model X.prog X.w) X.A (newList []) (fun acc s₃=>wpAny (model X.prog X.w) X.A (newFunctionEnv sc X.env.globals cl [] X.env.qual none .none (some X.env)) (fun cenv s₄ =>
   codeAny (model X.prog X.w) X.A (.compStart (.ListComp elt [⟨tg,iter,ifs,0⟩] sc pos) 0 (.ref it) acc { cenv with scope:=relabel sc X.env }) (RR acc cenv.locals) s₄) E s₃) E s:=by
 refine wpAny_newObj_type (wpAny_newFunctionEnv cs.nocell (by intro y hy;simp at hy) (fun h₁ hns₁ hsb₁=>?_) cs.kind)
 dsimp only at hns₁ hsb₁ ⊢;have I3:=I.lnew (t':=s.toks) (its:=[]) (ys:=[]) .nil (v9 _)
 have gu:∀b∈fp,b<s.heap.objs.size:=fun b hb=>by
  obtain⟨o,e,_⟩:=TU.obj _ _ st b hb;exact sq e
 generalize hD:s.heap.objs.size=D at *;generalize hs3:s.heap.push { cls:=.type "list",dict:=none,data:=.seq ([]:List Value).toArray }=h3 at *;have hC:h3.objs.size=D+1:=by rw[←hs3,size_push,hD]
 generalize mh:h3.objs.size=C at *;have ju:H D=none:=by rw[←hD];exact I.hok.fresh (qw _)
 have hKD:X.K.lookup D=none:=by
  cases q:X.K.lookup D with
  |none=>rfl
  |some o =>
   have e:=I.kIn D o q
   exact absurd (sq e) (by rw[hD];exact ug _)
 have k3:∀b o,s.heap.get? b=some o→h3.get? b=some o:=fun b o e=>by rw[←hs3];exact qz _ e
 have k4:∀b o,h3.get? b=some o→h₁.get? b=some o:=fun b o e=>hsb₁.extBut b o (by rw[←mh];exact uc (sq e)) (qz _ e)
 have re3:RE X.K T (upd H D (.lst [])) (fun a=>S a∨a=D) ρ σ:=re.gen (aO.add ju hKD) (fun a xs hs e _=>⟨.inl hs,by rw[aN (bE e ju)];exact e⟩) fun a hs=>by
  rcases hs with z|z
  ·obtain⟨o,e⟩:=re.dom a z;exact⟨o,by rw[aN (bE e ju)];exact e⟩
  ·subst z;exact⟨_,aM⟩
 have o9:∀b∈fp,lB X pins (upd H D (.lst [])) b:=fun b hb=>⟨by rw[aN (uc (gu b hb))];exact(hf b hb).1,(hf b hb).2⟩
 have hfl3:∀b∈fp,b<h3.objs.size:=fun b hb=>by rw[mh,hC];exact Nat.lt_succ_of_lt (gu b hb)
 have loop:∀(E':vm) (s4:Shared),s4={ s with heap:=h₁,toks:=s.toks+([]:List (Str×Value)).length } →
   codeAny (model X.prog X.w) X.A (.compLoop (.ListComp elt [⟨tg,iter,ifs,0⟩] sc pos) 0 (.ref it) (.ref D) (compEnvC sc cl C X.env)) (RR (.ref D) C) s4:=by
  rintro E' s4 rfl
  let EN:=notedBy (model X.prog X.w) X.A (compEnvC sc cl C X.env) fun e s'=>RR (.ref D) C (.error e) s'
  let Y:=xB X (ownNames sc) sc cl C { s with heap:=h3,toks:=s.toks } (upd H D (.lst [])) fp EN
  have xY:XC CX Y { c with N:=ownNames sc,sc:=sc } G T lv:=MD h cs
  have J0:Inv Y [] (eK (ownNames sc).length fr σ) (upd H D (.lst [])) { s with heap:=h₁,toks:=s.toks+([]:List (Str×Value)).length }:=
   KG h I3 cs aw az b6 o9 hfl3 (by show h3.objs.size≤C;rw[mh];exact qw _) hns₁ k4 rfl I3.bare
  have fc:∀{H':Hp},(∀b∈fp,H' b=none)→∀b∈fp,lB Y [] H' b:=fun hn b hb =>
   ⟨hn b hb,((kX (E:=EN) (N':=ownNames sc) I3 cs.kind (show h3.objs.size≤C by rw[mh];exact qw _) az b6 cs.nocell o9 hfl3).exf b hb).1,
    (kX (E:=EN) (N':=ownNames sc) I3 cs.kind (show h3.objs.size≤C by rw[mh];exact qw _) az b6 cs.nocell o9 hfl3).exfs b hb,.inl hb,
    ((kX (E:=EN) (N':=ownNames sc) I3 cs.kind (show h3.objs.size≤C by rw[mh];exact qw _) az b6 cs.nocell o9 hfl3).exf b hb).2,fun p hp=>absurd (show p∈([]:vn) from hp) (by simp)⟩
  have jq:∀(σ':L2.St) (H':Hp),aH H H'→(∃ys,H' D=some (.lst ys))→σ'.length=(ownNames sc).length→(∀j,j∉ba→σ'[j]?=(eK (ownNames sc).length fr σ)[j]?) →
    RE X.K T H' (fun a=>S a∨a=D) (frame (ownNames sc).length fr ρ) σ':=fun σ' H' sm hys hl ag=>by
   have r0:=KS (n:=(ownNames sc).length) (fr:=fr) re
   have mv:aO X.K H H' S (fun a=>S a∨a=D):=fun a n hh=>by
    have ne:a≠D:=by
     rintro rfl
     rcases hh with ⟨u,e⟩|⟨u,e⟩
     ·rw[ju]at e;cases e
     ·rw[hKD]at e;cases e
    exact⟨fun z=>z.elim n ne,fun o e=>sm a o e⟩
   refine⟨fun a hs=>?_,by simp[frame,hl],fun j sl e=>?_⟩
   ·rcases hs with z|z
    ·obtain⟨o,e⟩:=re.dom a z;exact⟨o,sm a o e⟩
    ·subst z;obtain⟨ys,e⟩:=hys;exact⟨_,e⟩
   ·have h0:=r0.at_ j sl e
    by_cases hj:j∈ba
    ·have hu:sl=.un:=by
      unfold frame at e;rw[qu]at e;cases hr:(List.range (ownNames sc).length)[j]? with
      |none=>rw[hr]at e;cases e
      |some k =>
       have ek:k=j:=by
        obtain⟨_,e'⟩:=q8.mp hr;simpa using e'.symm
       subst ek;rw[hr]at e;simp only[um,qp]at e;have:=all_eq_true.mp oz k hj
       cases q:fr.lookup k with
       |none =>
        rw[q]at e;simpa using e.symm
       |some z=>rw[q]at this;simp at this
     subst hu;trivial
    ·rw[ag j hj];cases sl with
     |un=>trivial
     |im d=>obtain⟨v,e1,r⟩:=h0;exact⟨v,e1,Rep.gen mv d v r⟩
     |mu ds'=>obtain⟨p,xs,e1,sp,hp,r⟩:=h0;exact⟨p,xs,e1,.inl sp,sm _ _ hp,r.gen mv⟩
  refine uD (fun k s'=>∃(i:Nat) (σ':L2.St) (H':Hp) (ys:List V) (pre post:List Z.D),k=ds.length+1-i∧i≤ds.length∧Inv Y [] σ' H' s'∧tn i s'.heap∧(∀b∈fp,H' b=none) ∧
   aH H H'∧H' D=some (.lst ys)∧aE X.K T H' (fun a=>S a∨a=D) pre ys∧ys.length≤i∧outs=pre++post∧bU f (ds.drop i)=some post ∧
   σ'.length=(ownNames sc).length∧(∀j,j∉ba→σ'[j]?=(eK (ownNames sc).length fr σ)[j]?)) ?_ (ds.length+1)
   ⟨0,_,_,[],[],outs,rfl,v9 _,J0,TU.keep _ _ _ st fun b _ o e=>k4 b o (k3 b o e),fun b hb=>(o9 b hb).1,aH.upd ju,aM,aE.nil,qw _,rfl,by simpa using il,by simp[eK],fun _ _=>rfl⟩
  rintro k s' ⟨i,σ',H',ys,pre,post,rfl,hi,IY,sti,fri,same,hHD,rp,hyl,ho,jd,hlσ,hag⟩;have rei:=jq σ' H' same ⟨ys,hHD⟩ hlσ hag
  have mv:aO X.K H H' S (fun a=>S a∨a=D):=fun a n hh=>by
   have ne:a≠D:=by
    rintro rfl
    rcases hh with ⟨u,e⟩|⟨u,e⟩
    ·rw[ju]at e;cases e
    ·rw[hKD]at e;cases e
   exact⟨fun z=>z.elim n ne,fun o e=>same a o e⟩
  obtain⟨it1,it2⟩:=j5 H' _ mv rei.dom
  by_cases d7:i<ds.length
  ·obtain⟨d,hd⟩:∃d,ds[i]?=some d:=⟨ds[i],by simp[d7]⟩
   have hdr:ds.drop i=d::ds.drop (i+1):=by
    obtain⟨h1,h2⟩:=q8.mp hd;rw[←h2];exact List.drop_eq_getElem_cons h1
   rw[hdr]at jd;obtain⟨o,t,hfd,ht,hpost⟩:=xC jd;obtain⟨ρ1,hb,hok⟩:=dz d o hfd;obtain⟨go,yl⟩:=it1 i d hd;refine af (TU.item Y rfl rfl rfl h.calm i [] s' σ' H' EN IY (fc fri) sti go) fun r s5 ⟨u,hr,h5⟩=>?_
   subst hr;refine af h5 fun _ s6 ⟨x,H6,I6,r6,y6,st6,fr6⟩=>?_
   obtain⟨nv,rd6⟩:=yl x H6 y6;have I6':=I6.pinned (fc fr6) (TU.obj _ _ st6)
   have hD6:H6 D=some (.lst ys):=nv _ _ hHD
   refine af (ZE xY (S:=fun a=>S a∨a=D) dy hb _ s6 σ' H6 x u (fun σ2 H2=>H2=H6∧RE X.K T H6 (fun a=>S a∨a=D) ρ1 σ2∧∀j,j∉ba→σ2[j]?=σ'[j]?) I6' r6
    ⟨rei.same nv,rd6,fun σ7 og ag7=>⟨rfl,og,ag7⟩⟩) fun _ s7 ⟨σ7,H7,I7,e7,og,ag7⟩=>?_
   subst e7;have next:∀(s9:Shared) (H9:Hp) (i4:List V) (pre':List Z.D),Inv Y ([]++lI fp s6.heap) σ7 H9 s9→aH H H9→H9 D=some (.lst i4)→aE X.K T H9 (fun a=>S a∨a=D) pre' i4→i4.length≤i+1→outs=pre'++t →
     ∃m,m<ds.length+1-i∧∃(i:Nat) (σ':L2.St) (H':Hp) (ys:List V) (pre post:List Z.D),m=ds.length+1-i∧i≤ds.length∧Inv Y [] σ' H' s9∧tn i s9.heap∧(∀b∈fp,H' b=none) ∧
      aH H H'∧H' D=some (.lst ys)∧aE X.K T H' (fun a=>S a∨a=D) pre ys∧ys.length≤i∧outs=pre++post∧bU f (ds.drop i)=some post ∧
      σ'.length=(ownNames sc).length∧(∀j,j∉ba→σ'[j]?=(eK (ownNames sc).length fr σ)[j]?):=fun s9 H9 i4 pre' I9 j1 hD9 rp9 hl9 ho9=>by
    refine⟨ds.length+1-(i+1),by lia,i+1,σ7,H9,i4,pre',t,rfl,d7,I9.unpinned,?_,fun b hb=>?_,j1,hD9,rp9,hl9,ho9,ht,?_,fun j hj=>(ag7 j hj).trans (hag j hj)⟩
    ·exact TU.keep _ _ _ st6 fun b hb o e=>(I9.pin (b,o) (ue _ (ue _ (hV hb e)))).1
    ·obtain⟨o,e,_⟩:=TU.obj _ _ st6 b hb;exact(I9.pin (b,o) (ue _ (ue _ (hV hb e)))).2.1
    ·have l1:=og.len
     have l2:=I9.len
     exact l2
   obtain⟨cu,helt⟩:=hok Y (fun a=>S a∨a=D) xY rfl
   have fin:∀(s8:Shared) (H8:Hp),Inv Y ([]++lI fp s6.heap) σ7 H8 s8→aH H7 H8 →
     (if o.isSome=true then wpAny (model X.prog X.w) X.A (eval elt (compEnvC sc cl C X.env)) (fun x s₄=>wpAny (model X.prog X.w) X.A (call (.builtin "list.append") [.ref D,x]) (fun _ s₅=>∃m,m<ds.length+1-i∧∃(i:Nat) (σ':L2.St) (H':Hp) (ys:List V) (pre post:List Z.D),m=ds.length+1-i∧i≤ds.length∧Inv Y [] σ' H' s₅∧tn i s₅.heap∧(∀b∈fp,H' b=none) ∧
      aH H H'∧H' D=some (.lst ys)∧aE X.K T H' (fun a=>S a∨a=D) pre ys∧ys.length≤i∧outs=pre++post∧bU f (ds.drop i)=some post ∧
      σ'.length=(ownNames sc).length∧(∀j,j∉ba→σ'[j]?=(eK (ownNames sc).length fr σ)[j]?)) EN s₄) EN s8
     else ∃m,m<ds.length+1-i∧∃(i:Nat) (σ':L2.St) (H':Hp) (ys:List V) (pre post:List Z.D),m=ds.length+1-i∧i≤ds.length∧Inv Y [] σ' H' s8∧tn i s8.heap∧(∀b∈fp,H' b=none) ∧
      aH H H'∧H' D=some (.lst ys)∧aE X.K T H' (fun a=>S a∨a=D) pre ys∧ys.length≤i∧outs=pre++post∧bU f (ds.drop i)=some post ∧
      σ'.length=(ownNames sc).length∧(∀j,j∉ba→σ'[j]?=(eK (ownNames sc).length fr σ)[j]?)):=fun s8 H8 I8 i6=>by
    have smH8:aH H H8:=same.trans (nv.trans i6)
    cases o with
    |none =>
     rw[if_neg (by simp)]
     refine next s8 H8 ys pre I8 smH8 (i6 _ _ hD6) ((rp.same nv).same i6) (le_succ_of_le hyl) ?_
     rw[ho,hpost]
    |some y =>
     rw[if_pos (show (some y).isSome=true from rfl)]
     refine af (helt y rfl _ s8 σ7 H8 (fun v H9=>aH H8 H9∧Rep X.K T H9 (fun a=>S a∨a=D) y v) I8 ⟨og.same i6,fun v H9 j1 rv=>⟨j1,rv⟩⟩) fun u9 s9 ⟨v,H9,I9,r9,j1,rv⟩=>?_
     have hD9:H9 D=some (.lst ys):=j1 _ _ (i6 _ _ hD6)
     refine af (qE (X:=Y) _ s9 σ7 H9 (.ref D) [v] (.ref D) [u9] (fun _ H10=>H10=upd H9 D (.lst (ys++[v]))) I9 rfl (.cons r9 .nil) ⟨D,ys,v,rfl,rfl,hD9,by lia,rfl⟩) fun _ s10 ⟨_,H10,I10,_,e10⟩=>?_
     subst e10;have smD:aH H (upd H9 D (.lst (ys++[v]))):=fun b ob e=>by
      rw[aN (bE e ju)];exact j1 _ _ (smH8 _ _ e)
     have mvD:aO X.K H9 (upd H9 D (.lst (ys++[v]))) (fun a=>S a∨a=D) (fun a=>S a∨a=D):=fun a n _=>⟨n,fun ob e=>by rw[aN (fun z=>n (.inr z))];exact e⟩
     refine next s10 _ (ys++[v]) (pre++[y]) I10 smD aM ?_ (by rw[t9];simp;lia) ?_
     ·exact aE.gen mvD _ _ (aE.app (((rp.same nv).same i6).same j1) (aE.cons rv aE.nil))
     ·rw[ho,hpost,se];rfl
   rcases cu with ⟨hifs,hsome⟩|⟨e,hifs,hpt⟩
   ·subst hifs;refine wpAny_tests_nil ?_;have z:=fin s7 H7 I7 (aH.refl _)
    rw[hsome]at z;exact z
   ·subst hifs;refine wpAny_tests_one (af (hpt _ s7 σ7 H7 (fun b H8=>b=o.isSome∧aH H7 H8) I7 ⟨og,fun H8 i6=>⟨rfl,i6⟩⟩) fun b s8 ⟨H8,I8,eb,i6⟩=>?_)
    subst eb;exact fin s8 H8 I8 i6
  ·have ei:i=ds.length:=by lia
   subst ei;refine af (TU.done Y rfl rfl rfl h.calm ds.length [] s' σ' H' EN IY (fc fri) sti (it2 _ (qw _))) fun r s5 ⟨hr,I5⟩=>?_
   subst hr;have hp0:post=[]:=by
    rw[vc]at jd;simp only[bU,qp]at jd;exact jd.symm
   subst hp0;rw[tj]at ho;subst ho;obtain⟨m,hnC,_⟩:=I5.loc;have I9:Inv X pins σ H' s5:=I3.call' I5.os I5.base I5.hok I5.bare fun b hb=>⟨(hf b hb).2.2.2.1,(hf b hb).2.1,(hf b hb).2.2.2.2.1,(hf b hb).2.2.2.2.2⟩
   have hCs:s.heap.objs.size≤C:=by rw[hD,hC];exact uq _
   refine hRR D C s5 H' ys m I9 same ju hHD (aE.disown (p:=D) (.inr rfl) (fun a z=>.inl z) rp) hnC ⟨I5.free,?_,sr I.sz hCs,fun x a e=>?_,fun p hp=>?_⟩
   ·intro z;have:=I.lt
    rw[←z]at this;exact absurd this (not_lt.mpr hCs)
   ·intro z;obtain⟨v,ob,h5,_⟩:=I.cell x a e;rw[z]at h5;exact absurd (sq h5) (not_lt.mpr hCs)
   ·intro z;have:=(I.pin p hp).1
    rw[z]at this;exact absurd (sq this) (not_lt.mpr hCs)
 exact codeAny_compStart_list (loop E _ rfl) (TU.self X.A 0 _ _ _ (TU.keep _ _ _ st fun b _ o e=>k4 b o (k3 b o e)) (loop E _ rfl))
end
section
variable {CX:au}{X:Cx}{c:CC}{G:GS}{T:Tx}{lv:Nat}{ρ:List Sl}{S:Addr→Prop}{tg:Expr}
theorem KA{H1:Hp}{a:Addr}{xs:List V}{ds:List D}(n:¬S a)(hq:SqL X.K H1 a xs)(r:aE X.K T H1 S ds xs):jj X.K T S H1 (Itl X.K a) ds:=fun H S' mv dom=>by
 obtain⟨n',k⟩:=mv a n (SqL.has hq);have c8:=SqL.keeps hq k
 refine⟨fun i d e=>?_,fun i hi=>⟨xs,c8,by rw[←r.len];exact hi⟩⟩
 obtain⟨x,e1,rx⟩:=r.get e;refine⟨⟨xs,x,c8,e1⟩,fun y H' ⟨eH,ey⟩=>?_⟩
 subst eH;have:=ey xs c8
 rw[e1]at this;cases this;exact⟨aH.refl _,Rep.gen mv d x rx⟩
theorem SL{H1:Hp}{a:Addr}{xs:List V}{ds:List D}(n:¬S a)(hq:SqT X.K H1 a xs)(r:aE X.K T H1 S ds xs):jj X.K T S H1 (Itt X.K a) ds:=fun H S' mv dom=>by
 obtain⟨n',k⟩:=mv a n (SqT.has hq);have c8:=SqT.keeps hq k
 refine⟨fun i d e=>?_,fun i hi=>⟨xs,c8,by rw[←r.len];exact hi⟩⟩
 obtain⟨x,e1,rx⟩:=r.get e;refine⟨⟨xs,x,c8,e1⟩,fun y H' ⟨eH,ey⟩=>?_⟩
 subst eH;have:=ey xs c8
 rw[e1]at this;cases this;exact⟨aH.refl _,Rep.gen mv d x rx⟩
theorem AX{H1:Hp}{lo hi:Int}:jj X.K T S H1 (nq lo (hi-lo).toNat) (cO lo hi):=fun H S' mv dom=>by
 refine⟨fun i d e=>?_,fun i h=>by
  show (hi-lo).toNat≤i
  unfold cO at h;rw[qv,sj]at h;exact h⟩
 unfold cO at e;rw[qu]at e;cases hr:(List.range (hi-lo).toNat)[i]? with
 |none=>rw[hr]at e;cases e
 |some k =>
  obtain⟨h1,e'⟩:=q8.mp hr;have ek:k=i:=by simpa using e'.symm
  subst ek;rw[hr]at e;simp only[um,qp]at e;subst e;refine⟨by show k<(hi-lo).toNat;simpa using h1,fun y H' ⟨eH,ey⟩=>?_⟩
  subst eH ey;exact⟨aH.refl _,by unfold Rep;rfl⟩
theorem QT{l:Expr}{d:D}{ds:List D}(hl:PE X l (tD X.K T S ρ d))(hi:items .seq d=some ds):PI X tg l (tI X.K T S ρ ds):=by
 intro pins s σ H R I ⟨re,q⟩;refine af (hl pins s σ H (fun v H'=>aH H H'∧Rep X.K T H' S d v) I ⟨re,fun v H' a b=>⟨a,b⟩⟩) fun v s1 ⟨x,H1,I1,r1,sm,rep⟩=>?_
 have golist:∀(a:Addr) (xs:List V),x=.ref a→¬S a→SqL X.K H1 a xs→aE X.K T H1 S ds xs→wpAny (model X.prog X.w) X.A (pyIter v) (PIE X pins σ tg R) X.xe s1:=fun a xs e n hq r=>by
  subst e;cases r1;obtain⟨its,rv,p,hz⟩:=I1.list hq;refine wpAny_pyIter_list p.isList ?_;refine⟨s1.heap.objs.size,[s1.heap.objs.size],_,_,H1,rfl,I1.kept (t':=s1.toks) fun b o e=>qz _ e,EB a _,⟨_,uk _ rfl,rfl,rfl⟩,fun b hb=>?_,q _ _ sm (KA n hq r) (by rw[r.len];exact hz)⟩
  have e:b=s1.heap.objs.size:=by simpa using hb
  subst e;exact I1.fpOk (qw _) (I1.hok.fresh (qw _))
 cases d<;>simp only[items,VN,reduceCtorEq,qp]at hi
 ·subst hi;unfold Rep at rep;obtain⟨a,xs,e,n,hq,r⟩:=rep;exact golist a xs e n (SqL.of hq) r
 ·subst hi;unfold Rep at rep;obtain⟨a,xs,e,n,hq,r⟩:=rep;subst e;cases r1;obtain⟨its,rv,p,hz⟩:=I1.tuple hq;refine wpAny_pyIter_tuple (show s1.heap.IsTuple a its.toArray from p) ?_
  refine⟨s1.heap.objs.size,[s1.heap.objs.size],_,_,H1,rfl,I1.kept (t':=s1.toks) fun b o e=>qz _ e,xO a _,⟨_,uk _ rfl,rfl,rfl⟩,fun b hb=>?_,q _ _ sm (SL n hq r) (by rw[r.len];exact hz)⟩
  have e:b=s1.heap.objs.size:=by simpa using hb
  subst e;exact I1.fpOk (qw _) (I1.hok.fresh (qw _))
 ·subst hi;unfold Rep at rep;obtain⟨a,xs,e,n,hq,r⟩:=rep;exact golist a xs e n hq r
theorem qC{lo hi:Int}(h:(hi-lo).toNat≤big):(cO lo hi).length≤sizeLine:=by
 unfold cO;rw[qv,sj];exact sr h iI
theorem gA{i:Int}(h:dW i=true):-(2 ^ 62)≤i∧i<2 ^ 62:=by
 unfold dW at h;rw[rj]at h;exact⟨of_decide_eq_true h.1,of_decide_eq_true h.2⟩
theorem QU{args:List Expr}{p pos:Pos}{as ds:List D}(hg:Gl X "range")(hm:X.mg "range" = none)(ha:PA X args (c6 X.K T S ρ as))(hs:starEach args X.env=args.map fun e=>(false,eval e X.env))(hi:items .rng (.tup as)=some ds)(hlen:as.length=args.length) :
  PI X tg (.Call (.Name "range" p) args [] pos) (tI X.K T S ρ ds):=by
 simp only[items]at hi;unfold AY at hi;split at hi
 ·rename_i j;split at hi
  ·rename_i hc;rw[rj]at hc;cases hi;obtain⟨b1,b2⟩:=gA hc.1
   match args,hlen with
   |[a],_ =>
    intro pins s σ H R I ⟨re,q⟩;refine ES hg hm ha hs pins s σ H R I ⟨re,fun vs H' sm r=>?_⟩
    unfold aE at r;obtain⟨x,r',rfl,rx,rr⟩:=r;unfold aE at rr;subst rr;unfold Rep at rx;subst rx;refine⟨j,rfl,b1,b2,?_⟩;have hz:=qC (lo:=0) (hi:=j) (by simpa using of_decide_eq_true hc.2)
    have:=q (nq 0 (j-0).toNat) H' sm AX hz
    simpa using this
  ·cases hi
 ·rename_i i j;split at hi
  ·rename_i hc;rw[rj,rj]at hc;cases hi;obtain⟨b1,b2⟩:=gA hc.1.1;obtain⟨b3,b4⟩:=gA hc.1.2
   match args,hlen with
   |[a,b],_ =>
    intro pins s σ H R I ⟨re,q⟩;refine ER hg hm ha hs (by
     have h2:=congrArg List.tail hs
     have e:starEach [a,b] X.env=(false,eval a X.env)::starEach [b] X.env:=by
      cases a<;>first|rfl|(simp[starEach]at hs)
     rw[e]at h2;exact h2) pins s σ H R I ⟨re,fun vs H' sm r=>?_⟩
    unfold aE at r;obtain⟨x,r',rfl,rx,rr⟩:=r;unfold aE at rr;obtain⟨y,r'',rfl,ry,rr⟩:=rr;unfold aE at rr;subst rr;unfold Rep at rx ry;subst rx ry;exact⟨i,j,rfl,⟨b1,b2,b3,b4⟩,q _ H' sm AX (qC (of_decide_eq_true hc.2))⟩
  ·cases hi
 ·cases hi
theorem oG(h:XC CX X c G T lv){pins:vn}{σ:L2.St}{H:Hp}{s:Shared}(I:Inv X pins σ H s){sc:Scope}(cs:aT c sc):∀x∈sc.names,x.2=.free→∃a,X.env.cells.lookup x.1=some a:=fun x hx hf=>by
 refine I.ok.has x.1 ?_;have k:=h.kd x.1
 rcases cs.fre x hx hf with e|e
 ·rw[e]at k;exact .inl k
 ·rw[e]at k
  rcases k with k|k
  ·exact .inr k
  ·exact .inl k
theorem QY(h:XC CX X c G T lv){sc:Scope}(chk:kB c sc=true){iter elt:Expr}{ifs:List Expr}{pos:Pos}{fr:List (Nat×Nat)}{ba:List Nat}{tp:Bool}{ds outs:List D}{f:D→Option (Option D)}
  (aw:freeOf c sc (sc.names.filter fun x=>x.2 == .free)=some fr) (oz:ba.all (fun i=>(fr.lookup i).isNone)=true) (dy:dA { c with N:=ownNames sc,sc:=sc } tg=some (ba,tp))
  (hi:PI X tg iter (tI X.K T S ρ ds)) (hs:∀x,foldedSetIterable iter X.env x=pure x)
  (il:bU f ds=some outs) (dz:∀d o,f d=some o→∃ρ1,bJ ba tp d (frame (ownNames sc).length fr ρ)=some ρ1∧TurnOk CX G T lv { c with N:=ownNames sc,sc:=sc } X.K ifs elt ρ1 o) :
  PE X (.ListComp elt [⟨tg,iter,ifs,0⟩] sc pos) (ez X.K T S ρ outs):=by
 intro pins s σ H Q I ⟨re,q⟩;have cs:=qU chk
 obtain⟨cl,hclos,az,b6⟩:=oV (oG h I cs);rw[eval_ListComp];refine wpAny_comprehension_free (use:=none) rfl hs hclos cs.kind cs.loc (af (hi pins s σ H (fun J H2=>aH H H2∧jj X.K T S H2 J ds∧ds.length≤sizeLine) I ⟨re,fun J H2 a b z=>⟨a,b,z⟩⟩) fun v s1 h1=>af h1 fun itv s2 h2=>?_)
 obtain⟨it,fp,tn,J,H2,e,I2,TU,gy,f2,sm,j5,hlen⟩:=h2;subst e;refine oT (RR:=fun acc C=>compPost (model X.prog X.w) X.A X.xe none (EP X pins σ Q) acc C) h cs aw oz dy az b6 I2 (re.same sm) TU gy f2 j5 hlen il dz ?_
 intro D C s' H' ys m I' j3 hD hD' rp hn ⟨c1,c2,c3,c4,c5⟩;refine⟨m,hn,fun h' c7=>⟨.ref D,H',I'.turned (t':=s'.toks) (fun b o hb e=>c7.extBut b o hb e) c1 c2.symm.symm (.inr c3) c4 c5,rfl,?_⟩⟩
 exact q D ys H' (sm.trans j3) (sm.free hD) hD' rp
theorem AG(h:XC CX X c G T lv){sc:Scope}(chk:kB c sc=true){iter elt:Expr}{ifs:List Expr}{pos spos px:Pos}{fr:List (Nat×Nat)}{ba:List Nat}{tp:Bool}{ds outs:List D}{f:D→Option (Option D)}{x:Str}{i:Nat}
  (aw:freeOf c sc (sc.names.filter fun x=>x.2 == .free)=some fr) (oz:ba.all (fun i=>(fr.lookup i).isNone)=true) (dy:dA { c with N:=ownNames sc,sc:=sc } tg=some (ba,tp))
  (hi:PI X tg iter (tI X.K T S ρ ds)) (hs:∀x,foldedSetIterable iter X.env x=pure x) (hx:gB c (.Name x px)=some i)
  (hsw:swapsWith (.ListComp elt [⟨tg,iter,ifs,0⟩] sc pos) (some (.Name x px)) spos.line X.env=pure true)
  (il:bU f ds=some outs) (dz:∀d o,f d=some o→∃ρ1,bJ ba tp d (frame (ownNames sc).length fr ρ)=some ρ1∧TurnOk CX G T lv { c with N:=ownNames sc,sc:=sc } X.K ifs elt ρ1 o) :
  PS X (.Assign [.Name x px] (.ListComp elt [⟨tg,iter,ifs,0⟩] sc pos) spos) (fun D σ H=>RE X.K T H S ρ σ∧∀p xs H',aH H H'→H p=none→H' p=some (.lst xs)→aE X.K T (er H' p) S outs xs→D.nx (σ.set i (some (.ref p))) H'):=by
 intro pins s σ H DD I ⟨re,q⟩;have cs:=qU chk
 obtain⟨cl,hclos,az,b6⟩:=oV (oG h I cs);rw[exec_Assign_Name_used _ _ _ _ hsw];refine uh (wpAny_standAt (uh ?_));show wpAny _ X.A (do let _ ←comprehension (.ListComp elt [⟨tg,iter,ifs,0⟩] sc pos) sc X.env _ (newList []) false (eval iter X.env) (some (assign (.Name x px) X.env))) _ _ s
 refine uh (uj (wpAny_comprehension_free (use:=some (assign (.Name x px) X.env)) (Q:=fun _ s'=>SP X pins DD .next s') rfl hs hclos cs.kind cs.loc
  (af (hi pins s σ H (fun J H2=>aH H H2∧jj X.K T S H2 J ds∧ds.length≤sizeLine) I ⟨re,fun J H2 a b z=>⟨a,b,z⟩⟩) fun v s1 h1=>af h1 fun itv s2 h2=>?_)) (fun _ s' hq=>ui (ui hq)) fun _ _ e=>e)
 obtain⟨it,fp,tn,J,H2,e,I2,TU,gy,f2,sm,j5,hlen⟩:=h2;subst e;refine oT (RR:=fun acc C=>compPost (model X.prog X.w) X.A X.xe (some (assign (.Name x px) X.env)) (fun _ s'=>SP X pins DD .next s') acc C) h cs aw oz dy az b6 I2 (re.same sm) TU gy f2 j5 hlen il dz ?_
 intro D C s' H' ys m I' j3 hD hD' rp hn ⟨c1,c2,c3,c4,c5⟩;obtain⟨hN,hk⟩:=gN hx;obtain⟨hl,hf⟩:=h.loc hk;show wpAny _ X.A (assign (.Name x px) X.env (.ref D)) _ _ _
 refine wpAny_assign_Name (pV I' (by rw[h.N];exact h.nd) (by rw[h.N];exact hN) hl (v:=.ref D) (u:=.ref D) rfl (fun oa I'' ⟨a,sb,ha⟩=>?_) hf)
 have hCa:C≠a:=by
  rcases ha with z|z
  ·rw[z];exact c2
  ·exact fun w=>c4 x a z w.symm
 refine⟨m,hn.sameBut sb hCa,fun h' c7=>⟨_,H',I''.turned (t':=oa.toks) (fun b o hb e=>c7.extBut b o hb e) c1 c2 (.inr c3) c4 c5,q D ys H' (sm.trans j3) (sm.free hD) hD' rp⟩⟩
end
noncomputable def Itv(K:vi)(a:Addr)(n:Nat):It:=
 ⟨fun i H=>∃xs x,SqL K H a xs∧xs.length=n∧xs[n-1-i]?=some x∧i<n,fun i H x H'=>H'=H∧∀xs,SqL K H a xs→xs[n-1-i]?=some x,fun i H=>n≤i⟩
theorem GY{P:vk}{w:World}{K:vi}{tg:Expr}(a it:Addr)(n:Nat):Turn P w K tg (Itv K a n) [it] it (fun i h=>i≤n∧h.IsRevIter it a ((n:Int)-1-(i:Int))) where
 mem:=by simp
 obj:=fun i h st b hb=>by
  have e:b=it:=by simpa using hb
  subst e;obtain⟨_,o,e,c,d⟩:=st;exact⟨o,e,fun v z=>by rw[d]at z;cases z⟩
 keep:=fun i h h' st k=>⟨st.1,st.2.at fun o e=>k it (by simp) o e⟩
 item:=by
  intro X hP hw hK hc i pins s σ H E I hf st hg;subst hP hw hK;obtain⟨xs,x,hq,hn,hx,hi⟩:=hg;obtain⟨its,rv,p,hz⟩:=I.list hq;obtain⟨u,hu,ru⟩:=rv.get hx;obtain⟨f0,f1,f2,f3,f4,f5⟩:=hf it (by simp)
  have e1:(n:Int)-1-(i:Int)=((n-1-i:Nat):Int):=by lia
  have gz:=st.2
  rw[e1]at gz;refine wpAny_pyNext_rev_item gz p.isList (x:=u) (by simpa using hu) fun h' ae sb=>?_
  have I1:Inv X pins σ H { s with heap:=h' }:=I.turned (t':=s.toks) (fun b o hb e=>(sb.2 b hb).trans e) f0 f1 f3 f4 f5
  obtain⟨o,e,c,d⟩:=id ae;have e2:((n-1-i:Nat):Int)-1=(n:Int)-1-((i+1:Nat):Int):=by lia
  rw[e2]at ae;exact⟨u,rfl,BG (s:={ s with heap:=h' }) e c d (by decide) ⟨x,H,I1,ru,⟨rfl,fun ys hy=>by rw[I.list_inj hy hq];exact hx⟩,⟨hi,ae⟩,fun b hb=>(hf b hb).1⟩⟩
 done:=by
  intro X hP hw hK hc i pins s σ H E I hf st hg;subst hP hw hK;have jf:n≤i:=hg
  have ei:i=n:=Nat.le_antisymm st.1 jf
  subst ei;obtain⟨f0,f1,f2,f3,f4,f5⟩:=hf it (by simp)
  have e1:(i:Int)-1-(i:Int)=-1:=by lia
  have gz:=st.2
  rw[e1]at gz;exact wpAny_pyNext_rev_end (I.ok.hd hc) gz fun h' eb=>⟨rfl,I.turned (t':=s.toks) (fun b o hb e=>eb b o hb e) f0 f1 f3 f4 f5⟩
 self:=fun _ _ _ _ _ st h=>wpAny_pyIter_revIter st.2 h
section
variable {CX:au}{X:Cx}{c:CC}{G:GS}{T:Tx}{lv:Nat}{ρ:List Sl}{S:Addr→Prop}{tg:Expr}
theorem SM{H1:Hp}{a:Addr}{xs:List V}{ds:List D}(n:¬S a)(hq:SqL X.K H1 a xs)(r:aE X.K T H1 S ds xs):jj X.K T S H1 (Itv X.K a xs.length) ds.reverse:=fun H S' mv dom=>by
 obtain⟨n',k⟩:=mv a n (SqL.has hq);have c8:=SqL.keeps hq k
 have hl:=r.len
 refine⟨fun i d e=>?_,fun i hi=>?_⟩
 ·have hi:i<ds.length:=by
   have:=(q8.mp e).1
   simpa using this
  rw[List.getElem?_reverse hi]at e;obtain⟨x,e1,rx⟩:=r.get e;rw[hl]at e1 hi;refine⟨⟨xs,x,c8,rfl,e1,hi⟩,fun y H' ⟨eH,ey⟩=>?_⟩
  subst eH;have:=ey xs c8
  rw[e1]at this;cases this;exact⟨aH.refl _,Rep.gen mv d x rx⟩
 ·show xs.length≤i
  rw[←hl];simpa using hi
theorem QV{a:Expr}{p pos:Pos}{d:D}{ds:List D}(hg:Gl X "reversed")(hm:X.mg "reversed" = none)(ha:PA X [a] (c6 X.K T S ρ [d]))(hs:starEach [a] X.env=[(false,eval a X.env)])(hi:vZ d=some ds) :
  PI X tg (.Call (.Name "reversed" p) [a] [] pos) (tI X.K T S ρ ds):=by
 intro pins s σ H R I ⟨re,q⟩;refine Call_ (fU I hg hm boot_reversed (t7 (af (ha pos pins s σ H (fun vs H'=>aH H H'∧aE X.K T H' S [d] vs) I ⟨re,fun vs H' a b=>⟨a,b⟩⟩) fun us s1 ⟨vs,H1,I1,r1,sm,rl⟩=>?_) hs rfl))
 unfold aE at rl;obtain⟨x,r',rfl,rx,rr⟩:=rl;unfold aE at rr;subst rr;cases r1 with
 |cons r rr =>
  cases rr;cases d<;>simp only[vZ,reduceCtorEq,qp]at hi
  rename_i ds';subst hi;unfold Rep at rx;obtain⟨l,xs,e,n,hq,rl⟩:=rx;subst e;cases r;obtain⟨its,rv,pl,hz⟩:=I1.list (SqL.of hq);have hlen:=rv.length
  refine call_reversed_list pl.isList ?_;have I2:Inv X pins σ H1 { s1 with heap:=s1.heap.push (revObj l ((its.toArray.size:Int)-1)) }:=I1.kept (t':=s1.toks) fun b o e=>qz _ e
  have hri:({ s1 with heap:=s1.heap.push (revObj l ((its.toArray.size:Int)-1)) }:Shared).heap.IsRevIter s1.heap.objs.size l ((xs.length:Int)-1):=by
   refine⟨_,uk _ rfl,rfl,?_⟩;have:(its.toArray.size:Int)=(xs.length:Int):=by rw[rh,hlen]
   show Data.fields #[.ref l,rawInt ((its.toArray.size:Int)-1)]=_
   rw[this]
  refine wpAny_pyIter_revIter hri ?_;refine⟨s1.heap.objs.size,[s1.heap.objs.size],_,_,H1,rfl,I2,GY l _ xs.length,⟨v9 _,by simpa using hri⟩,fun b hb=>?_,q _ _ sm (SM n (SqL.of hq) rl) ?_⟩
  ·have e:b=s1.heap.objs.size:=by simpa using hb
   subst e;exact I1.fpOk (qw _) (I1.hok.fresh (qw _))
  ·rw[va,rl.len];exact hz
end
theorem uG:bootBuiltins "list" = some (.type "list"):=by decide +kernel
theorem FA:typeLookup (.type "list_reverseiterator") "__len__" = pure none:=by rw[typeLookup_type,builtinLookup_eq_fast];kernel_rfl
theorem KP:typeLookup (.type "list_reverseiterator") "__length_hint__" = pure (some (.builtin "list_reverseiterator.__length_hint__")):=by rw[typeLookup_type,builtinLookup_eq_fast];kernel_rfl
section
variable {prog:vk}{w:World}{A:Around}{E:vm}{s:Shared}
theorem pJ{Q:vm}{I l:Addr}{items:Array Value}(hh:A.handled=none)(d6:l≠I)(hit:s.heap.IsRevIter I l ((items.size:Int)-1))(hl:s.heap.IsList l items)(hz:items.size≤sizeLine)
  (hQ:∀h' tk dh c',(∀b o,b≠I→s.heap.get? b=some o→h'.get? b=some o)→h'.get? s.heap.objs.size=some { cls:=.type "list",dict:=none,data:=.seq dh c',slots:=#[] } →
   dh=items.reverse→Q (.ref s.heap.objs.size) { s with heap:=h',toks:=tk }) :
  wpAny (model prog w) A (call (.type "list") [.ref I]) Q E s:=by
 refine callType_codes (Q₁:=fun obj s₁=>obj=.ref s.heap.objs.size∧s₁={ s with heap:=s.heap.push { cls:=.type "list",data:=.seq #[] } }) F.called_list (F.typeCall_list_1 _) F.entry_list_init
  (code_list_new _ ⟨rfl,rfl⟩) fun obj s₁ h₁=>?_
 obtain⟨rfl,rfl⟩:=h₁;have hIlt:I<s.heap.objs.size:=by obtain⟨o,e,_⟩:=hit;exact sq e
 have hllt:l<s.heap.objs.size:=by obtain⟨o,e,_⟩:=hl;exact sq e
 have hS:(s.heap.push { cls:=.type "list",data:=.seq #[] }).get? s.heap.objs.size=some { cls:=.type "list",data:=.seq #[] }:=uk _ rfl
 have oy:∀b o,s.heap.get? b=some o→(s.heap.push { cls:=.type "list",data:=.seq #[] }).get? b=some o:=fun b o e=>qz _ e
 refine⟨⟨_,hS,rfl⟩,F.args_list_init_2 _ _,?_⟩;generalize hSe:s.heap.objs.size=S at *;generalize hs1:s.heap.push { cls:=.type "list",data:=.seq #[] }=h1 at *;have hSI:S≠I:=Nat.ne_of_gt hIlt
 have hSl:S≠l:=Nat.ne_of_gt hllt
 show wpAny _ _ (do let old ←Builtin.List.listItems (.ref S);Builtin.List.listUpdate (.ref S) (fun _=>#[]);letGo old.toList.reverse;Builtin.List.listExtendWith (.ref S) (.ref I) .none) _ _ _
 refine uh ?_;unfold Builtin.List.listItems;refine uh (wpAny_seqItems hS rfl (ui ?_));show wpAny _ _ (updateSeq S (fun _=>#[]) >>= fun _=>letGo (#[]:Array Value).toList.reverse >>= fun _=>Builtin.List.listExtendWith (.ref S) (.ref I) .none) _ _ _
 refine uh (wpAny_updateSeq hS rfl ?_);have hS₂:=Heap.get?_update_self (Obj.mapSeq (fun _=>(#[]:Array Value))) hS rfl
 have oth:∀b o,b≠S→h1.get? b=some o→(h1.update S (Obj.mapSeq (fun _=>(#[]:Array Value)))).get? b=some o:=
  fun b o hb e=>(Heap.get?_update_other _ _ (Ne.symm hb)).trans e
 refine uh (wpAny_letGo ?_);generalize h1.update S (Obj.mapSeq (fun _=>(#[]:Array Value)))=h2 at *
 have W:=(Walks.listRev (prog:=prog) (w:=w) (A:=A.in1.in1) hh I l d6 items).toS
 have hit2:h2.IsRevIter I l ((items.size:Int)-1-((0:Nat):Int)):=by
  have e0:(items.size:Int)-1-((0:Nat):Int)=(items.size:Int)-1:=by lia
  rw[e0];exact hit.at fun o e=>oth I o (Ne.symm hSI) (oy _ _ e)
 have gq:h2.IsList l items:=hl.at fun o e=>oth l o (Ne.symm hSl) (oy _ _ e)
 have hT:({ s with heap:=h2 }:Shared).TypeIs (.ref I) "list_reverseiterator":=hit2.typeIs (s:={ s with heap:=h2 })
 have hSf:S∉[I,l]:=by simp[hSI,hSl]
 have hs1':Builtin.List.listSameRef (.ref S) (.ref I)=false:=by simp[Builtin.List.listSameRef,hSI]
 show wpAny _ _ (Builtin.List.listExtendWith (.ref S) (.ref I) .none) _ _ { s with heap:=h2 }
 unfold Builtin.List.listExtendWith;refine uh (wpAny_typeOf hT ?_);rw[if_neg (by rw[hs1'];decide)]
 refine uh (W.self 0 _ _ _ ⟨v9 _,hit2,gq⟩ ?_);refine uh (wpAny_holding ?_);unfold Builtin.List.listLengthHint;refine uh (wpAny_specialOf hT FA ?_);show wpAny _ _ (specialOf (Value.ref I) (Str.ofString "__length_hint__") >>= _) _ _ _
 refine uh (wpAny_specialOf hT KP ?_)
 (generalize hid:("list_reverseiterator.__length_hint__":String)=id0;(fail_if_success (clear hid id0));wp_delta;rw[show splitId id0=some ("list_reverseiterator","__length_hint__") from by subst hid;decide +kernel];subst hid)
 refine uh (wpAny_isInstance (b:=true) hT (by rw[isSubtype_type];kernel_rfl) ?_)
 refine ui ?_;rw[if_neg (by decide)]
 refine ui ⟨plainId_quiet F.plain_extend_loop _,codeAny_extend_loopS W hz S hSf _ items.size 0 _ _ _ rfl (v9 _) ⟨v9 _,hit2,gq⟩ hS₂ (ItemsOf.nil _) fun s' dh c' hm jt gh=>?_⟩
 refine⟨rfl,?_⟩;rw[Moved.eq_with hm];refine hQ s'.heap s'.toks dh c' (fun b o hb e=>?_) jt ?_
 ·have hbS:b≠S:=fun z=>by
   subst z;exact absurd (sq e) (by rw[hSe];exact ug _)
  exact hm.heap b o (by simp[hbS,hb]) (oth b o hbS (oy _ _ e))
 ·obtain⟨kf,gq⟩:=gh;apply Array.ext
  ·rw[kf,Array.size_reverse]
  ·intro i h3 h4;have h5:=gq i dh[i] (Array.getElem?_eq_getElem h3)
   rw[Array.getElem_reverse];obtain⟨_,e⟩:=Array.getElem?_eq_some_iff.mp h5;exact e.symm
end
section
variable {CX:au}{X:Cx}{c:CC}{G:GS}{T:Tx}{lv:Nat}{ρ:List Sl}{S:Addr→Prop}
theorem yE{a:Expr}{p pos p2 pos2:Pos}{d:D}{ds:List D}(hc:X.calm=true)(hg:Gl X "reversed")(hm:X.mg "reversed" = none)(je:Gl X "list")(hml:X.mg "list" = none)(ha:PA X [a] (c6 X.K T S ρ [d]))(hs:starEach [a] X.env=[(false,eval a X.env)])(hi:vZ d=some ds) :
  PE X (.Call (.Name "list" p2) [.Call (.Name "reversed" p) [a] [] pos] [] pos2) (ez X.K T S ρ ds):=by
 intro pins s σ H Q I ⟨re,q⟩;refine Call_ (fU I je hml uG (t7 (Calls.spliced_cons (Call_ (fU I hg hm boot_reversed (t7 (af (ha pos pins s σ H (fun vs H'=>aH H H'∧aE X.K T H' S [d] vs) I ⟨re,fun vs H' a b=>⟨a,b⟩⟩) fun us s1 ⟨vs,H1,I1,r1,sm,rl⟩=>?_) hs rfl)))) rfl rfl))
 unfold aE at rl;obtain⟨x,r',rfl,rx,rr⟩:=rl;unfold aE at rr;subst rr;cases r1 with
 |cons r rr =>
  cases rr;cases d<;>simp only[vZ,reduceCtorEq,qp]at hi
  rename_i ds';subst hi;unfold Rep at rx;obtain⟨l,xs,e,n,hq,rl⟩:=rx;subst e;cases r;obtain⟨its,rv,pl,hz⟩:=I1.list (SqL.of hq);have hlen:=rv.length
  refine call_reversed_list pl.isList ?_;refine Calls.spliced_nil ?_;have hllt:l<s1.heap.objs.size:=by obtain⟨o,e,_⟩:=pl.isList;exact sq e
  refine pJ (I:=s1.heap.objs.size) (items:=its.toArray) (I1.ok.hd hc) (uc hllt) ⟨_,uk _ rfl,rfl,rfl⟩ (pl.isList.at fun o e=>qz _ e) (by rw[rh,←hlen];exact hz) fun h' tk dh c' hk jt gh=>?_
  have e1:(s1.heap.push (revObj l ((its.toArray.size:Int)-1))).objs.size=s1.heap.objs.size+1:=size_push ..
  have I3:Inv X pins σ (upd H1 (s1.heap.push (revObj l ((its.toArray.size:Int)-1))).objs.size (.lst xs.reverse)) { s1 with heap:=h',toks:=tk }:=by
   refine I1.laid (fun b u e=>hk b u (uc (sq e)) (qz _ e)) (by rw[e1];exact uq _) ?_
   refine⟨by rw[va];exact hz,its.reverse,c',aQ.reverse rv,?_⟩
   rw[jt,gh];simp
  have aw:H1 (s1.heap.push (revObj l ((its.toArray.size:Int)-1))).objs.size=none:=I1.hok.fresh (by rw[e1];exact uq _)
  exact⟨.ref _,_,I3,rfl,q _ xs.reverse _ (sm.trans (aH.upd aw)) (sm.free aw) aM (by rw[iD aw];exact rl.rev)⟩
end
section
variable {CX:au}{X:Cx}{c:CC}{G:GS}{T:Tx}{lv:Nat}{ρ:List Sl}{S:Addr→Prop}{pos:Pos}{ea eb ec:Expr}{a b d:D}
theorem OZ{i:Nat}(h:slot ρ i=some d):ρ[i]?=some (.im d):=by
 unfold slot at h;split at h
 ·rename_i e;cases h;exact e
 ·cases h
theorem aED(h:XC CX X c G T lv){x:Str}{i:Nat}(e:bX c x=some i)(hs:slot ρ i=some d):PE X (.Name x pos) (tD X.K T S ρ d):=by
 obtain⟨hN,hk⟩:=rQ e;have hm:x∈c.N:=qq hN
 refine PE.mono (lJ (by rw[h.N];exact hN) (h.vis hk) (h.dbg x hm).1 (h.dbg x hm).2) fun σ H Q ⟨re,q⟩=>?_
 obtain⟨v,e1,r⟩:=re.at_ i _ (OZ hs);exact⟨v,e1,q v H (aH.refl H) r⟩
theorem mI(h:XC CX X c G T lv){x:Str}{i:Nat}(e:bX c x=some i):PE X (.Name x pos) (rP i):=by
 obtain⟨hN,hk⟩:=rQ e;have hm:x∈c.N:=qq hN
 exact lJ (by rw[h.N];exact hN) (h.vis hk) (h.dbg x hm).1 (h.dbg x hm).2
theorem aEQ(h:XC CX X c G T lv){x:Str}(e:aW c x=true)(hc:c.csts.contains x=true)(hd:G.cst x=some d):PE X (.Name x pos) (tD X.K T S ρ d):=by
 obtain⟨u,v,e1,r,hr⟩:=h.go.cst x d hd hc;intro pins s σ H Q I ⟨re,q⟩;exact eA I (h.glob e) e1 ⟨v,H,I,r,q v H (aH.refl H) (hr H S (VM I) re.dom)⟩ (h.gne e)
theorem aEO{i:Int}{j:Nat}:PE X (.Constant (.int i) j pos) (tD X.K T S ρ (.int i)):=PE.mono IM fun σ H Q ⟨re,q⟩=>q _ H (aH.refl H) (by unfold Rep;rfl)
theorem aIa{i:Bool}{j:Nat}:PE X (.Constant (.bool i) j pos) (tD X.K T S ρ (.bl i)):=PE.mono AO fun σ H Q ⟨re,q⟩=>q _ H (aH.refl H) (by unfold Rep;rfl)
theorem aEF{i:Str}{j:Nat}:PE X (.Constant (.str i) j pos) (tD X.K T S ρ (.str i)):=PE.mono fR fun σ H Q ⟨re,q⟩=>q _ H (aH.refl H) (by unfold Rep;rfl)
theorem aEK{j:Nat}:PE X (.Constant .none j pos) (tD X.K T S ρ .non):=PE.mono ZH fun σ H Q ⟨re,q⟩=>q _ H (aH.refl H) (by unfold Rep;rfl)
theorem nI{o:O2}(hd:ah o a b=some d):∀σ H Q,tD X.K T S ρ d σ H Q→jc (rD X.K T S o) (tD X.K T S ρ a) (tD X.K T S ρ b) σ H Q:=fun σ H Q ⟨re,q⟩ =>
 ⟨re,fun x H1 s1 r1=>⟨re.same s1,fun y H2 s2 r2=>⟨a,b,d,((re.same s1).same s2).dom,r1.same s2,r2,hd,fun v H' s3 r3=>q v H' (s1.trans (s2.trans s3)) r3⟩⟩⟩
theorem aEU{op:Operator}{o:O2}(ho:RH op=some o)(ha:PE X ea (tD X.K T S ρ a))(hb:PE X eb (tD X.K T S ρ b))(hd:ah o a b=some d):PE X (.BinOp ea op eb pos) (tD X.K T S ρ d):=
 PE.mono (VD (RM ho) ha hb) (nI hd)
theorem EU:ay X (compareOp .IsNot) (rD X.K T S .isnot):=by
 rintro pins s σ H x y v u Q I rx ry ⟨a,b,d,dom,ra,rb,e,q⟩;have go:∀k,b=.non→k=decide (x=V.non)→d=.bl (!k)→wpAny (model X.prog X.w) X.A (compareOp .IsNot v u) (EP X pins σ Q) X.xe s:=fun k hb hk hd=>by
  subst hb hd hk;unfold Rep at rb;exact RD pins s σ H x y v u Q I rx ry ⟨rb,q _ H (aH.refl H) bT⟩
 simp only[ah,JJ,isD]at e;split at e<;>simp only[um,Option.map_none,qp,reduceCtorEq]at e
 all_goals subst e
 all_goals first
  | (unfold Rep at ra;refine go _ rfl ?_ rfl;first|(subst ra;rfl)|(obtain⟨_,_,rfl,_⟩:=ra;rfl)|(obtain⟨_,_,_,_,rfl,_⟩:=ra;rfl))
  | (unfold Rep at ra rb
     subst ra rb;cases rx;cases ry;exact isnot_bool ⟨.bl _,H,I,rfl,q _ H (aH.refl H) bT⟩)
theorem eP(hu:X.A.units+64<cLine)(op:CmpOp):ay X (compareOp op) (rD X.K T S (jS op)):=by
 cases op
 ·exact aAa hu
 ·exact ZT hu
 ·exact ZU
 ·exact ZV
 ·exact ZY
 ·exact ZZ
 ·exact ZW
 ·exact EU
 ·exact ZX hu
 ·exact ET hu
theorem aET(hu:X.A.units+64<cLine){op:CmpOp}(ha:PE X ea (tD X.K T S ρ a))(hb:PE X eb (tD X.K T S ρ b))(hm:behindInMarks op eb=false)(hd:ah (jS op) a b=some d):PE X (.Compare ea [op] [eb] pos) (tD X.K T S ρ d):=
 PE.mono (AL (eP hu op) ha hb hm) (nI hd)
theorem aAk(hu:X.A.units+64<cLine){op:CmpOp}{k:Bool}(ha:PE X ea (tD X.K T S ρ a))(hb:PE X eb (tD X.K T S ρ b))(hm:behindInMarks op eb=false)(hd:ah (jS op) a b=some (.bl k)):PT X (.Compare ea [op] [eb] pos) (gk X.K T S ρ k):=
 PT.mono (AF (eP hu op) ha hb hm) fun σ H Q ⟨re,q⟩=>nI hd σ H _ ⟨re,fun v H' sm r=>by
  unfold Rep at r;exact⟨k,r,q H' sm⟩⟩
theorem oW{o o':O2}{c':D}{k:Bool}(h1:ah o a b=some (.bl k))(h2:if k=true then ah o' b c'=some d else d=.bl false):∀σ H Q,tD X.K T S ρ d σ H Q→xQ (rD X.K T S o) (rD X.K T S o') (tD X.K T S ρ a) (tD X.K T S ρ b) (tD X.K T S ρ c') σ H Q:=
 fun σ H Q ⟨re,q⟩=>⟨re,fun x H1 s1 r1=>⟨re.same s1,fun y H2 s2 r2=>⟨a,b,.bl k,((re.same s1).same s2).dom,r1.same s2,r2,h1,fun z H3 s3 r3=>by
  unfold Rep at r3;refine⟨k,r3,?_⟩;cases k with
  |true =>
   rw[if_pos rfl]at h2 ⊢;exact⟨((re.same s1).same s2).same s3,fun w' H4 s4 r4=>⟨b,c',d,(((re.same s1).same s2).same s3).same s4 |>.dom,(r2.same s3).same s4,r4,h2,fun v H' s5 r5=>q v H' (s1.trans (s2.trans (s3.trans (s4.trans s5)))) r5⟩⟩
  |false =>
   rw[if_neg sg]at h2 ⊢;subst h2;exact q _ H3 (s1.trans (s2.trans s3)) bT⟩⟩⟩
theorem RZ(hu:X.A.units+64<cLine){op dq:CmpOp}{c':D}{k:Bool}(ha:PE X ea (tD X.K T S ρ a))(hb:PE X eb (tD X.K T S ρ b))(hc:PE X ec (tD X.K T S ρ c'))(hm:lastMarks [op,dq] [eb,ec]=false)
  (h1:ah (jS op) a b=some (.bl k)) (h2:if k=true then ah (jS dq) b c'=some d else d=.bl false):PE X (.Compare ea [op,dq] [eb,ec] pos) (tD X.K T S ρ d):=
 PE.mono (vM (eP hu op) (eP hu dq) ha hb hc hm) (oW h1 h2)
theorem JN(hu:X.A.units+64<cLine){op dq:CmpOp}{c':D}{k k':Bool}(ha:PE X ea (tD X.K T S ρ a))(hb:PE X eb (tD X.K T S ρ b))(hc:PE X ec (tD X.K T S ρ c'))(hm:lastMarks [op,dq] [eb,ec]=false)
  (h1:ah (jS op) a b=some (.bl k)) (h2:if k=true then ah (jS dq) b c'=some (.bl k') else D.bl k'=.bl false):PT X (.Compare ea [op,dq] [eb,ec] pos) (gk X.K T S ρ k'):=
 PT.mono (vJ (eP hu op) (eP hu dq) ha hb hc hm) fun σ H Q ⟨re,q⟩=>oW h1 h2 σ H _ ⟨re,fun v H' sm r=>by
  unfold Rep at r;exact⟨k',r,q H' sm⟩⟩
theorem _root_.Z.aE.emp{K:vi}{H:Hp}{ds:List D}{xs:List V}(r:aE K T H S ds xs):ds.isEmpty=xs.isEmpty:=by
 have:=r.len
 cases ds<;>cases xs<;>simp_all
theorem aCo{H:Hp}{v:V}{k:Bool}(r:Rep X.K T H S a v)(h:di a=some k):aBk X.K v H k:=by
 cases a<;>simp only[di,reduceCtorEq,qp]at h
 ·unfold Rep at r;subst r;exact h.symm
 ·unfold Rep at r;subst r;exact h.symm
 ·unfold Rep at r;subst r;exact h.symm
 ·unfold Rep at r;obtain⟨p,xs,rfl,_,e,rl⟩:=r;refine .inl ⟨xs,SqL.of e,?_⟩;rw[←h];rw[rl.emp]
 ·unfold Rep at r;obtain⟨p,xs,rfl,_,e,rl⟩:=r;refine .inr (.inl ⟨xs,e,?_⟩);rw[←h];rw[rl.emp]
 ·unfold Rep at r;obtain⟨p,xs,rfl,_,e,rl⟩:=r;refine .inl ⟨xs,e,?_⟩;rw[←h];rw[rl.emp]
theorem RX{k:Bool}(ha:PE X ea (tD X.K T S ρ a))(he:∀whole,isTrue ea X.env whole=(do let v ←whole;standAt ea.pos;holding [v] (truthy v)))(h:di a=some k):PT X ea (gk X.K T S ρ k):=
 PT.mono (ID ha he) fun σ H Q ⟨re,q⟩=>⟨re,fun x H1 s1 r1=>⟨k,aCo r1 h,q H1 s1⟩⟩
theorem aAf{k:Bool}(ha:PT X ea (gk X.K T S ρ k)):PT X (.UnaryOp .Not ea pos) (gk X.K T S ρ (!k)):=PT.mono (IF ha) fun σ H Q ⟨re,q⟩=>⟨re,fun H1 s1=>q H1 s1⟩
theorem aEJ{k:Bool}(ha:PE X ea (tD X.K T S ρ a))(h:di a=some k):PE X (.UnaryOp .Not ea pos) (tD X.K T S ρ (.bl (!k))):=by
 intro pins s σ H Q I ⟨re,q⟩;refine UnaryOp_ (af (ha pins s σ H (fun v H'=>aH H H'∧Rep X.K T H' S a v) I ⟨re,fun v H' a b=>⟨a,b⟩⟩) fun v s1 ⟨x,H1,I1,r1,sm,rx⟩=>?_)
 exact not_of (af (GZ pins s1 σ H1 x v (fun b H2=>b=k∧H2=H1) I1 r1 ⟨k,aCo rx h,rfl,rfl⟩) fun b s2 ⟨H2,I2,eb,eH⟩=>by
  subst eb eH;exact⟨.bl (!b),H2,I2,rfl,q _ H2 sm bT⟩)
theorem VH{k:Bool}(hc:PT X ec (gk X.K T S ρ k))(ha:k=true→PE X ea (tD X.K T S ρ d))(hb:k=false→PE X eb (tD X.K T S ρ d)):PE X (.IfExp ec ea eb pos) (tD X.K T S ρ d):=by
 cases k with
 |true =>
  refine PE.mono (vL hc (ha rfl) (tb:=fun _ _ _=>False) (fun _ _ _ _ _ _ h=>h.elim)) fun σ H Q ⟨re,q⟩=>⟨re,fun H1 s1=>?_⟩
  exact FL ⟨re.same s1,fun v H' s2 r=>q v H' (s1.trans s2) r⟩
 |false =>
  refine PE.mono (vL hc (ta:=fun _ _ _=>False) (fun _ _ _ _ _ _ h=>h.elim) (hb rfl)) fun σ H Q ⟨re,q⟩=>⟨re,fun H1 s1=>?_⟩
  exact pG ⟨re.same s1,fun v H' s2 r=>q v H' (s1.trans s2) r⟩
theorem vR:PA X [] (c6 X.K T S ρ []):=PA.mono fT fun σ H Q ⟨re,q⟩=>q [] H (aH.refl H) aE.nil
theorem nW{es:List Expr}{ds:List D}(ha:PE X ea (tD X.K T S ρ a))(hr:PA X es (c6 X.K T S ρ ds))(hs:starEach (ea::es) X.env=(false,eval ea X.env)::starEach es X.env):PA X (ea::es) (c6 X.K T S ρ (a::ds)):=
 PA.mono (bG ha hr hs) fun σ H Q ⟨re,q⟩=>⟨re,fun x H1 s1 r1=>⟨re.same s1,fun xs H2 s2 r2=>q _ H2 (s1.trans s2) (aE.cons (r1.same s2) r2)⟩⟩
theorem aEE{es:List Expr}{ds:List D}{x1:Nat}(h:PA X es (c6 X.K T S ρ ds))(hl:ds.length≤sizeLine):PE X (.Tuple es x1 pos) (tD X.K T S ρ (.tup ds)):=
 PE.mono (ZF h) fun σ H Q ⟨re,q⟩=>⟨re,fun xs H1 s1 r1=>⟨by rw[←r1.len];exact hl,fun p hp=>q _ _ (s1.trans (aH.upd hp)) (eS (re.same s1).dom hp r1)⟩⟩
theorem aEL{es:List Expr}{ds:List D}(h:PA X es (c6 X.K T S ρ ds))(hl:ds.length≤sizeLine):PE X (.List es pos) (ez X.K T S ρ ds):=
 PE.mono (yC h) fun σ H Q ⟨re,q⟩=>⟨re,fun xs H1 s1 r1=>⟨by rw[←r1.len];exact hl,fun p hp=>q _ _ _ (s1.trans (aH.upd hp)) (s1.free hp) aM (by rw[iD hp];exact r1)⟩⟩
theorem JM{e:Expr}{ds:List D}(h:PE X e (ez X.K T S ρ ds)):PE X e (tD X.K T S ρ (.lst ds)):=
 PE.mono h fun σ H Q ⟨re,q⟩=>⟨re,fun p xs H' sm hp ej r=>q _ H' sm (by unfold Rep;exact⟨p,xs,rfl,re.nS hp,ej,r.er⟩)⟩
theorem uI{K:vi}{H:Hp}{ds:List D}{xs:List V}{i:Int}(r:aE K T H S ds xs)(h:atI ds i=some d):∃x,L2.atI xs i=some x∧Rep K T H S d x:=by
 unfold atI at h;unfold L2.atI;rw[qr]at h;obtain⟨j,h1,h2⟩:=h;obtain⟨x,e,rx⟩:=r.get h2;have pz:L2.ixN xs.length i=some j:=by rw[←r.len];exact h1
 exact⟨x,by rw[pz];exact e,rx⟩
theorem SJ{i:Int}{ds:List D}(hc:a=.lst ds∨a=.tup ds∨a=.frz ds)(hd:atI ds i=some d):∀σ H Q,tD X.K T S ρ d σ H Q→jc (rIx X.K) (tD X.K T S ρ a) (tD X.K T S ρ (.int i)) σ H Q:=fun σ H Q ⟨re,q⟩ =>
 ⟨re,fun x H1 s1 r1=>⟨re.same s1,fun y H2 s2 r2=>by
  have f6:=r1.same s2
  unfold Rep at r2
  rcases hc with rfl|rfl|rfl
  ·unfold Rep at f6;obtain⟨p,xs,ex,_,e,rl⟩:=f6;obtain⟨v,e1,rv⟩:=uI rl hd;exact .inl ⟨p,xs,i,v,ex,r2,SqL.of e,e1,q v H2 (s1.trans s2) rv⟩
  ·unfold Rep at f6;obtain⟨p,xs,ex,_,e,rl⟩:=f6;obtain⟨v,e1,rv⟩:=uI rl hd;exact .inr (.inl ⟨p,xs,i,v,ex,r2,e,e1,q v H2 (s1.trans s2) rv⟩)
  ·unfold Rep at f6;obtain⟨p,xs,ex,_,e,rl⟩:=f6;obtain⟨v,e1,rv⟩:=uI rl hd;exact .inl ⟨p,xs,i,v,ex,r2,e,e1,q v H2 (s1.trans s2) rv⟩⟩⟩
theorem aAi{i:Int}{ds:List D}(ha:PE X ea (tD X.K T S ρ a))(hb:PE X eb (tD X.K T S ρ (.int i)))(hp:lA eb)(hc:a=.lst ds∨a=.tup ds∨a=.frz ds)(hd:atI ds i=some d):PE X (.Subscript ea eb pos) (tD X.K T S ρ d):=
 PE.mono (VE aAz ha hb hp) (SJ hc hd)
theorem uA{K:vi}{H:Hp}{ds:List D}{xs:List V}{lo hi:Option Int}(r:aE K T H S ds xs):aE K T H S (cut ds lo hi) (wZ xs lo hi):=by
 unfold cut wZ;rw[r.len];exact(r.drop _).take _
noncomputable def jz(K:vi)(T:Tx)(S:Addr→Prop)(ρ:List Sl)(o:Option Int):TO:=fun σ H Q=>RE K T H S ρ σ∧∀H',aH H H'→Q o H'
theorem aEI:PO X none (jz X.K T S ρ none):=fun pins s σ H Q I ⟨re,q⟩=>QQ pins s σ H Q I (q H (aH.refl H))
theorem aEH{i:Int}(ha:PE X ea (tD X.K T S ρ (.int i))):PO X (some ea) (jz X.K T S ρ (some i)):=fun pins s σ H Q I ⟨re,q⟩=>QP ha pins s σ H Q I ⟨re,fun v H' sm r=>by
 unfold Rep at r;exact⟨i,r,q H' sm⟩⟩
theorem VG{lo hi:Option Expr}{l h:Option Int}{p2:Pos}{ds:List D}(ha:PE X ea (tD X.K T S ρ a))(hl:PO X lo (jz X.K T S ρ l))(hh:PO X hi (jz X.K T S ρ h))(hc:a=.lst ds∨a=.frz ds):PE X (.Subscript ea (.Slice lo hi none p2) pos) (ez X.K T S ρ (cut ds l h)):=
 PE.mono (vK PB ha hl hh) fun σ H Q ⟨re,q⟩=>⟨re,fun x H1 s1 r1=>⟨re.same s1,fun H2 s2=>⟨(re.same s1).same s2,fun H3 s3=>by
  have f6:=(r1.same s2).same s3
  have sm:=s1.trans (s2.trans s3)
  rcases hc with rfl|rfl
  ·unfold Rep at f6;obtain⟨p,xs,ex,_,e,rl⟩:=f6;exact⟨p,xs,ex,SqL.of e,fun p hp=>q _ _ _ (sm.trans (aH.upd hp)) (sm.free hp) aM (by rw[iD hp];exact uA rl)⟩
  ·unfold Rep at f6;obtain⟨p,xs,ex,_,e,rl⟩:=f6;exact⟨p,xs,ex,e,fun p hp=>q _ _ _ (sm.trans (aH.upd hp)) (sm.free hp) aM (by rw[iD hp];exact uA rl)⟩⟩⟩⟩
theorem aEG{lo hi:Option Expr}{l h:Option Int}{p2:Pos}{ds:List D}(ha:PE X ea (tD X.K T S ρ (.tup ds)))(hl:PO X lo (jz X.K T S ρ l))(hh:PO X hi (jz X.K T S ρ h))(hw:¬(sIx ds.length 0 l=0∧sIx ds.length ds.length h=ds.length)) :
  PE X (.Subscript ea (.Slice lo hi none p2) pos) (tD X.K T S ρ (.tup (cut ds l h))):=
 PE.mono (vK XZ ha hl hh) fun σ H Q ⟨re,q⟩=>⟨re,fun x H1 s1 r1=>⟨re.same s1,fun H2 s2=>⟨(re.same s1).same s2,fun H3 s3=>by
  have f6:=(r1.same s2).same s3
  have sm:=s1.trans (s2.trans s3)
  have re3:=((re.same s1).same s2).same s3
  unfold Rep at f6;obtain⟨p,xs,ex,_,e,rl⟩:=f6;exact⟨p,xs,ex,e,by rw[←rl.len];exact hw,fun p hp=>q _ _ (sm.trans (aH.upd hp)) (eS re3.dom hp (uA rl))⟩⟩⟩⟩
theorem aER(h:XC CX X c G T lv){cn f:Str}{fs:List (Str×D)}(ha:PE X ea (tD X.K T S ρ (.obj cn fs)))(hb:attributeBase ea f X.env (eval ea X.env)=eval ea X.env)(hf:(G.fl cn).contains f=true)(hd:fs.lookup f=some d):PE X (.Attribute ea f pos) (tD X.K T S ρ d):=
 PE.mono (ZK ha hb) fun σ H Q ⟨re,q⟩=>⟨re,fun x H1 s1 r1=>by
  unfold Rep at r1;obtain⟨p,C,dx,gs,ex,_,ec,e,rf⟩:=r1;obtain⟨v,e1,rv⟩:=(cK.look rf).1 d hd;exact⟨p,C,dx,gs,v,ex,e,h.go.cls cn C ec,h.go.fld cn C f ec hf,e1,q v H1 s1 rv⟩⟩
theorem rX(h:XC CX X c G T lv):fX CX X E0:=fun _ _ H s e s' _ z=>(h.go.cx0 _ H s e s' z).elim
theorem pX{e:Expr}{es:List Expr}(hs:starEach (e::es) X.env=(e::es).map fun e=>(false,eval e X.env)):starEach (e::es) X.env=(false,eval e X.env)::starEach es X.env∧(backTo pos (starEach es X.env)).any (·.1)=false:=by
 have h2:starEach (e::es) X.env=(false,eval e X.env)::starEach es X.env:=by
  cases e<;>first|rfl|(simp[starEach]at hs)
 have h3:starEach es X.env=es.map fun e=>(false,eval e X.env):=by
  have:=congrArg List.tail (h2.symm.trans hs)
  simpa using this
 refine⟨h2,?_⟩;rw[h3];clear h2 h3 hs
 induction es with
 |nil=>rfl
 |cons a r ih=>exact ih
theorem aAl(h:XC CX X c G T lv){x:Str}{es:List Expr}{ds:List D}{p:Pos}(hg:aW c x=true)(hf:c.fns.contains x=true)(ha:PA X es (c6 X.K T S ρ ds))(hs:starEach es X.env=es.map fun e=>(false,eval e X.env))(hlen:ds.length=es.length)(hd:G.fn x ds=some (.ok d)) :
  PE X (.Call (.Name x p) es [] pos) (fun σ H Q=>RE X.K T H S ρ σ∧∀v H1 H',aH H H1→aH H1 H'→Rep X.K T H' S d v→(G.ff x=true→rE X.K T S H1 H' d v)→Q v H'):=by
 obtain⟨f,fd,ps,hm,hk,hb,hl,F⟩:=h.go.fn x hf;have key:∀σ H Q,(RE X.K T H S ρ σ∧∀v H1 H',aH H H1→aH H1 H'→Rep X.K T H' S d v→(G.ff x=true→rE X.K T S H1 H' d v)→Q v H')→uV (i5 X.K T ps.length (G.fn x) (G.ff x)) [] E0 (c6 X.K T S ρ ds) σ H Q:=fun σ H Q ⟨re,q⟩ =>
  ⟨re,fun vs H1 s1 r1=>⟨by rw[tj,←r1.len];exact hl ds _ hd,S,ds,(re.same s1).dom,by rw[tj];exact r1,.inl ⟨d,hd,fun v H' s2 r2 fr=>q v H1 H' s1 s2 r2 fr⟩⟩⟩
 cases es with
 |nil =>
  refine PE.mono (vN F h.room (h.glob hg) hm hk hb .nil (rX h) (h.gne hg)) fun σ H Q hq=>?_
  obtain⟨re,q⟩:=hq;have bo:ds=[]:=tm.mp hlen
  subst bo;exact(key σ H Q ⟨re,q⟩).2 [] H (aH.refl H) aE.nil
 |cons e es =>
  obtain⟨h1,h2⟩:=pX (pos:=pos) hs;exact PE.mono (AM F h.room (h.glob hg) hm hk hb .nil (rX h) ha (h.gne hg) h1 h2) key
end
section
variable {CX:au}{X:Cx}{c:CC}{G:GS}{T:Tx}{lv:Nat}{ρ:List Sl}{S:Addr→Prop}{pos:Pos}{ea eb ec:Expr}{a b d:D}
def pA(X:Cx)(o:Expr)(m:Str)(args:List Expr)(apos pos:Pos):Prop:=∃pl:Sem Bool,eval (.Call (.Attribute o m apos) args [] pos) X.env=(do
   let ov ←eval o X.env
   standAt apos.atName
   let (f,first) ←holding [ov] (getMethod ov m pl)
   callWith pos f first (backTo pos (starEach args X.env)) (backToKw pos (keywordEach [] X.env)))
theorem aAg(h:XC CX X c G T lv){m cn:Str}{fs:List (Str×D)}{es:List Expr}{ds:List D}{apos:Pos}(ht:pA X ea m es apos pos)(ho:PE X ea (tD X.K T S ρ (.obj cn fs)))(hn:fs.lookup m=none)
  (ha:PA X es (c6 X.K T S ρ ds)) (hs:starEach es X.env=es.map fun e=>(false,eval e X.env)) (hlen:ds.length=es.length) (hd:G.me cn m (.obj cn fs::ds)=some (.ok d)) :
  PE X (.Call (.Attribute ea m apos) es [] pos) (fun σ H Q=>RE X.K T H S ρ σ∧∀v H1 H',aH H H1→aH H1 H'→Rep X.K T H' S d v→(G.mf cn m=true→rE X.K T S H1 H' d v)→Q v H'):=by
 obtain⟨pl,ht⟩:=ht;intro pins s σ H Q I ⟨re,q⟩;refine PySem.W.methodCall_KW (pl:=pl) (af (ho pins s σ H (fun v H'=>aH H H'∧Rep X.K T H' S (.obj cn fs) v) I ⟨re,fun v H' a b=>⟨a,b⟩⟩) fun u s1 ⟨x,H1,I1,rx,sm,ro⟩=>?_) ht
 have ro':=ro
 unfold Rep at ro;obtain⟨p,C,dx,gs,ex,_,ec,e,rf⟩:=ro;subst ex;obtain rfl:u=Value.ref p:=rx;obtain⟨f,fd,ps,hm,hb,hl,F⟩:=h.go.me cn C m _ _ ec hd;refine oE I1 e (h.go.cls cn C ec) hm ((cK.look rf).2 hn) ?_;have fin:∀(us:List Value) (vs:List V) (s2:Shared) (H2:Hp),Inv X pins σ H2 s2→aQ vs us→aH H1 H2→aE X.K T H2 S ds vs→wpAny (model X.prog X.w) X.A (call (.ref f) (.ref p::us)) (EP X pins σ Q) X.xe s2:=fun us vs s2 H2 I2 r2 fz rl=>by
  refine rS (us:=.ref p::us) (vs:=.ref p::vs) (dvs:=[]) (ds:=[]) (E:=E0) F h.room hb .nil (rX h) I2 (.cons rfl r2) ?_;refine⟨?_,S,.obj cn fs::ds,((re.same sm).same fz).dom,?_,.inl ⟨d,hd,fun v H' s3 r3 fr=>q v H2 H' (sm.trans fz) s3 r3 fr⟩⟩
  ·have:=hl _ _ hd
   simp only[tj,uw]at this ⊢;rw[←rl.len];exact this
  ·rw[tj];exact aE.cons (ro'.same fz) rl
 cases es with
 |nil =>
  have bo:ds=[]:=tm.mp hlen
  subst bo;exact callWith_K0 (first:=[.ref p]) I1.kIn hm.kp (fin [] [] s1 H1 I1 .nil (aH.refl _) aE.nil)
 |cons e es =>
  obtain⟨h1,h2⟩:=pX (pos:=pos) hs;refine callWith_K (first:=[.ref p]) (h₀:=X.base) I.ok.mod.kin hm.kp (af (ha pos pins s1 σ H1 (fun vs H'=>aH H1 H'∧aE X.K T H' S ds vs) I1 ⟨re.same sm,fun vs H' a b=>⟨a,b⟩⟩) fun us s2 ⟨vs,H2,I2,r,fz,rl⟩=>⟨I2.kIn,?_⟩) h1 h2
  exact fin us vs s2 H2 I2 r fz rl
theorem EH{CX:au}{k:Nat}{f C:Addr}{fd:vj}{ps:List Str}{sp:Sp}{E:XK}{pins:vn}{σ:L2.St}{H:Hp}{s:Shared}{Q:VK}{us:List Value}{vs:List V}(M:Mk X.K C f)(F:FnOk X.prog X.w X.K X.mg X.base CX k f fd ps sp)(hr:Room (k+1) X.A)(hb:Binds X.K fd ps [])
  (hx:fX CX X E) (I:Inv X pins σ H s) (r:aQ vs us)
  (h:∀x dx,H x=none→H dx=none→dx≠x→X.K.lookup x=none→X.K.lookup dx=none→sp (.ref x::vs) (upd (upd H dx (.own x)) x (.ins C dx [])) (fun v H2=>v=.non∧Q (.ref x) H2) E) :
  wpAny (model X.prog X.w) X.A (call (.ref C) us) (EP X pins σ Q) X.xe s:=by
 have nk:∀a,s.heap.objs.size≤a→X.K.lookup a=none:=fun a ha=>by
  cases q:X.K.lookup a with
  |none=>rfl
  |some o=>exact absurd (sq (I.kIn a o q)) (not_lt.mpr ha)
 have hq:=h (s.heap.objs.size+1) s.heap.objs.size (I.hok.fresh (uq _)) (I.hok.fresh (qw _)) (uc (uu _)) (nk _ (uq _)) (nk _ (qw _))
 have I2:=Inv.made (C:=C) I
 have r2:aQ (V.ref (s.heap.objs.size+1)::vs) (Value.ref (s.heap.objs.size+1)::us):=.cons rfl r
 have hl:(Value.ref (s.heap.objs.size+1)::us++[]).length=ps.length:=by
  have e:=r2.length
  rw[F.len _ _ _ _ hq]at e;rw[tj];exact e.symm
 refine wpAny_call (JP (f:=f) I.kIn M.makes M.init (u0.mp M.fn) (codeAny_mono (F.run _ X.stack _ _ ⟨Value.ref (s.heap.objs.size+1)::us,[]⟩ (Value.ref (s.heap.objs.size+1)::us) _ _ E (hr.make C us [])
  (I2.env0.make C us []) (by have:=hb _ (Value.ref (s.heap.objs.size+1)::us) I2.kIn hl;rw[tj]at this;exact this) r2 hq) fun r s' c8=>?_))
 cases r with
 |error e=>exact hx pins σ _ _ e s' I2 c8
 |ok fl =>
  cases fl with
  |ret u =>
   obtain⟨v,H',I3,rv,ev,q3⟩:=I2.after c8;subst ev;exact⟨rv,⟨V.ref (s.heap.objs.size+1),H',I3,rfl,q3⟩⟩
  |next=>exact False.elim c8
  |brk=>exact False.elim c8
  |cont=>exact False.elim c8
theorem aHZ(h:XC CX X c G T lv){x:Str}{es:List Expr}{ds:List D}{p:Pos}(hg:aW c x=true)(hf:c.cls.contains x=true)(ha:PA X es (c6 X.K T S ρ ds))(hs:starEach es X.env=es.map fun e=>(false,eval e X.env))(hlen:ds.length=es.length)(hd:G.mo x ds=some (.ok d)) :
  PE X (.Call (.Name x p) es [] pos) (tD X.K T S ρ d):=by
 obtain⟨C,f,fd,ps,j,hj,hm,M,hb,hl,F⟩:=h.go.mo x hf ds d hd;have fin:∀(pins:vn) (σ:L2.St) (H:Hp) (Q:VK) (us:List Value) (vs:List V) (s2:Shared) (H2:Hp),RE X.K T H S ρ σ→(∀v H',aH H H'→Rep X.K T H' S d v→Q v H')→Inv X pins σ H2 s2→aQ vs us→aH H H2→aE X.K T H2 S ds vs→wpAny (model X.prog X.w) X.A (call (.ref C) us) (EP X pins σ Q) X.xe s2:=fun pins σ H Q us vs s2 H2 re q I2 r2 fz rl=>by
  refine EH (E:=E0) M F (h.room.mono hj) hb (rX h) I2 r2 fun y dx hy hdx ne ky kdx=>?_
  have dom2:=(re.same fz).dom
  have m1:aO X.K H2 (upd H2 dx (.own y)) S S:=fun a n _=>⟨n,fun o e=>by rw[aN (bE e hdx)];exact e⟩
  have hy1:(upd H2 dx (.own y)) y=none:=by rw[aN (Ne.symm ne)];exact hy
  have m2:=aO.add (S:=S) (o:=.ins C dx []) hy1 ky
  refine⟨by simp only[uw];rw[←rl.len];exact hl,y,dx,vs,(fun a=>S a∨a=y),ds,d,rfl,aM,.inr rfl,fun a hs=>?_,aE.gen m2 _ _ (aE.gen m1 _ _ rl),hd,fun H' kp rp=>⟨rfl,q _ H' ?_ (rp S fun a ha=>⟨.inl ha,?_⟩)⟩⟩
  ·rcases hs with z|z
   ·obtain⟨o,e⟩:=dom2 a z;exact⟨o,by rw[aN (bE e hy),aN (bE e hdx)];exact e⟩
   ·subst z;exact⟨_,aM⟩
  ·intro b o e;have e2:=fz b o e
   refine kp b o (bE e2 hy) ?_;rw[aN (bE e2 hy),aN (bE e2 hdx)];exact e2
  ·intro z;subst z;obtain⟨o,e⟩:=dom2 a ha;rw[hy]at e;cases e
 cases es with
 |nil =>
  have bo:ds=[]:=tm.mp hlen
  subst bo;intro pins s σ H Q I ⟨re,q⟩;refine wpAny_Call_Name_kw (eA I (h.glob hg) hm ?_ (h.gne hg));exact callWith_K0 I.kIn M.kp (fin pins σ H Q [] [] s H re q I .nil (aH.refl _) aE.nil)
 |cons e es =>
  obtain⟨h1,h2⟩:=pX (pos:=pos) hs;intro pins s σ H Q I ⟨re,q⟩;refine wpAny_Call_Name_kw (eA I (h.glob hg) hm ?_ (h.gne hg));refine callWith_K (h₀:=X.base) I.ok.mod.kin M.kp (af (ha pos pins s σ H (fun vs H'=>aH H H'∧aE X.K T H' S ds vs) I ⟨re,fun vs H' a b=>⟨a,b⟩⟩) fun us s1 ⟨vs,H1,I1,r,sm,rl⟩=>⟨I1.kIn,?_⟩) h1 h2
  exact fin pins σ H Q us vs s1 H1 re q I1 r sm rl
noncomputable def rBf(K:vi)(T:Tx)(S:Addr→Prop)(g:List D→Option D):List V→Hp→VK→Prop:=fun xs H Q =>
 ∃ds d,(∀a,S a→∃o,H a=some o)∧aE K T H S ds xs∧g ds=some d∧∀v H',aH H H'→Rep K T H' S d v→Q v H'
theorem rep1{K:vi}{H:Hp}{xs:List V}(r:aE K T H S [a] xs):∃x,xs=[x]∧Rep K T H S a x:=by
 unfold aE at r;obtain⟨x,r',rfl,rx,rr⟩:=r;unfold aE at rr;subst rr;exact⟨x,rfl,rx⟩
theorem rep2{K:vi}{H:Hp}{xs:List V}(r:aE K T H S [a,b] xs):∃x y,xs=[x,y]∧Rep K T H S a x∧Rep K T H S b y:=by
 unfold aE at r;obtain⟨x,r',rfl,rx,rr⟩:=r;obtain⟨y,rfl,ry⟩:=rep1 rr;exact⟨x,y,rfl,rx,ry⟩
theorem hG{K:vi}{H:Hp}{i:Int}:Rep K T H S (.int i) (.int i):=by unfold Rep;rfl
theorem aFD:fY X (.builtin "len") (rBf X.K T S TM):=by
 rintro pins s σ H xs us Q I r ⟨ds,d,dom,rl,e,q⟩;unfold TM at e;split at e
 ·obtain⟨x,rfl,rx⟩:=rep1 rl;cases e;unfold Rep at rx;obtain⟨p,ys,rfl,_,hq,ry⟩:=rx;exact iH pins s σ H _ us Q I r ⟨p,ys,rfl,.inl (SqL.of hq),by rw[←ry.len];exact q _ H (aH.refl H) hG⟩
 ·obtain⟨x,rfl,rx⟩:=rep1 rl;cases e;unfold Rep at rx;obtain⟨p,ys,rfl,_,hq,ry⟩:=rx;exact iH pins s σ H _ us Q I r ⟨p,ys,rfl,.inr hq,by rw[←ry.len];exact q _ H (aH.refl H) hG⟩
 ·obtain⟨x,rfl,rx⟩:=rep1 rl;cases e;unfold Rep at rx;obtain⟨p,ys,rfl,_,hq,ry⟩:=rx;exact iH pins s σ H _ us Q I r ⟨p,ys,rfl,.inl hq,by rw[←ry.len];exact q _ H (aH.refl H) hG⟩
 ·obtain⟨x,rfl,rx⟩:=rep1 rl;unfold Rep at rx;subst rx;split at e
  ·rename_i hz;cases e;exact uF pins s σ H _ us Q I r ⟨_,rfl,sr hz iI,q _ H (aH.refl H) hG⟩
  ·cases e
 ·cases e
noncomputable def rBl(K:vi)(T:Tx)(S:Addr→Prop):List V→Hp→VK→Prop:=fun xs H Q =>
 ∃ds es,aE K T H S ds xs∧wN ds=some (.lst es)∧∀p ys H',aH H H'→H p=none→H' p=some (.lst ys)→aE K T (er H' p) S es ys→Q (.ref p) H'
theorem aBi:fY X (.type "list") (rBl X.K T S):=by
 rintro pins s σ H xs us Q I r ⟨ds,es,rl,e,q⟩;unfold wN at e;split at e
 ·obtain⟨x,rfl,rx⟩:=rep1 rl;cases e;unfold Rep at rx;obtain⟨p,ys,rfl,_,hq,ry⟩:=rx;exact iG pins s σ H _ us Q I r ⟨p,ys,rfl,.inl (SqL.of hq),fun l hl=>q l ys _ (aH.upd hl) hl aM (by rw[iD hl];exact ry)⟩
 ·obtain⟨x,rfl,rx⟩:=rep1 rl;cases e;unfold Rep at rx;obtain⟨p,ys,rfl,_,hq,ry⟩:=rx;exact iG pins s σ H _ us Q I r ⟨p,ys,rfl,.inr hq,fun l hl=>q l ys _ (aH.upd hl) hl aM (by rw[iD hl];exact ry)⟩
 ·obtain⟨x,rfl,rx⟩:=rep1 rl;cases e;unfold Rep at rx;obtain⟨p,ys,rfl,_,hq,ry⟩:=rx;exact iG pins s σ H _ us Q I r ⟨p,ys,rfl,.inl hq,fun l hl=>q l ys _ (aH.upd hl) hl aM (by rw[iD hl];exact ry)⟩
 ·cases e
theorem UG:fY X (.type "tuple") (rBf X.K T S tT):=by
 rintro pins s σ H xs us Q I r ⟨ds,d,dom,rl,e,q⟩;unfold tT at e;split at e
 ·obtain⟨x,rfl,rx⟩:=rep1 rl;cases e;unfold Rep at rx;obtain⟨p,ys,rfl,_,hq,ry⟩:=rx;exact jT pins s σ H _ us Q I r ⟨p,ys,rfl,.inl ⟨SqL.of hq,fun l hl=>q _ _ (aH.upd hl) (eS dom hl ry)⟩⟩
 ·obtain⟨x,rfl,rx⟩:=rep1 rl;cases e;have rx':=rx
  unfold Rep at rx;obtain⟨p,ys,rfl,_,hq,ry⟩:=rx;exact jT pins s σ H _ us Q I r ⟨p,ys,rfl,.inr ⟨hq,q _ H (aH.refl H) rx'⟩⟩
 ·cases e
theorem qK{K:vi}{H:Hp}:∀{ds:List D} {ns:List Int} {ys:List V} {us:List Value},gQ ds=some ns→aE K T H S ds ys→aQ ys us→IntsAre us ns
 |[],ns,ys,us,h,r,v=>by
  simp only[gQ]at h;cases h;unfold aE at r;subst r;cases v;exact .nil
 |d::ds,ns,ys,us,h,r,v=>by
  cases d<;>simp only[gQ,reduceCtorEq]at h
  rename_i i;rw[rq]at h;obtain⟨r',h1,rfl⟩:=h;unfold aE at r;obtain⟨x,w,rfl,rx,rr⟩:=r;unfold Rep at rx;subst rx;cases v with
  |cons v1 v2 =>
   obtain⟨t,rfl⟩:=v1;exact .cons i t (qK h1 rr v2)
section
variable {prog:vk}{w:World}{A:Around}{E:vm}{s:Shared}
theorem yN{l:Addr}{vs:List Value}{ns:List Int}{Q:vm}(hh:A.handled=none)(hl:s.heap.IsList l vs.toArray)(hi:IntsAre vs ns)(d6:0<ns.length)
  (h:∀h' M (t:Tok) tk,(∀b o,s.heap.get? b=some o→h'.get? b=some o)→M∈ns→(∀a,a∈ns→a≤M)→Q (.int M t) { s with heap:=h',toks:=tk }) :
  wpAny (model prog w) A (call (.builtin "max") [.ref l]) Q E s:=by
 obtain⟨xs,e⟩:=hi.allInts.items;have jo:ns=xs.toList.map (·.1):=by
  rw[←hi.numsOf,←nums_intItems,←e]
 have hsz:0<xs.size:=by
  have h3:=d6;rw[jo,qv,length_toList]at h3;exact h3
 rw[e]at hl;refine max_intList hh hl hsz fun v h' tk hv hk=>?_
 obtain⟨t,rfl⟩:=intItems_at hv;obtain⟨h1,h2⟩:=argBest_gt (numAt xs) (xs.size-1);refine h _ _ t tk hk ?_ fun a ha=>?_
 ·rw[jo,numAt_eq];exact getD_mem (by rw[qv,length_toList];lia)
 ·rw[jo]at ha;obtain⟨j,hj,rfl⟩:=mem_getD ha;rw[qv,length_toList]at hj;rw[←numAt_eq];exact h2 j (by lia)
end
theorem aFC(hc:X.calm=true):fY X (.builtin "max") (rBf X.K T S LD):=by
 rintro pins s σ H xs us Q I r ⟨ds,d,dom,rl,e,q⟩;unfold LD at e;split at e
 ·obtain⟨x,y,rfl,rx,ry⟩:=rep2 rl;cases e;unfold Rep at rx ry;subst rx ry;exact GK hc pins s σ H _ us Q I r ⟨_,_,rfl,q _ H (aH.refl H) hG⟩
 ·obtain⟨x,rfl,rx⟩:=rep1 rl;split at e
  ·rename_i i t he;cases e;unfold Rep at rx;obtain⟨p,ys,rfl,_,hq,ry⟩:=rx;obtain⟨u,rfl,ru⟩:=vals1 r;cases ru;obtain⟨its,rv,pl,hz⟩:=I.list (SqL.of hq);have hi:=qK he ry rv
   refine yN (I.ok.hd hc) pl.isList hi (by simp) fun h' M tt tk hk hM hle=>⟨.int M,H,I.kept (t':=tk) hk,⟨_,rfl⟩,?_⟩
   obtain⟨m1,m2,m3⟩:=qF t i;have e1:lN i t∈i::t:=by
    rcases m1 with z|z
    ·rw[z];simp
    ·exact rg _ z
   have e2:M≤lN i t:=by
    rcases sv.mp hM with z|z
    ·rw[z];exact m2
    ·exact m3 M z
   have e3:M=lN i t:=Int.le_antisymm e2 (hle _ e1)
   rw[e3];exact q _ H (aH.refl H) hG
  ·cases e
 ·cases e
end
section
variable {CX:au}{X:Cx}{c:CC}{G:GS}{T:Tx}{lv:Nat}{ρ:List Sl}{S:Addr→Prop}{pos:Pos}{ea eb ec:Expr}{a b d:D}
noncomputable def la:D→Option String
 |.non=>some "NoneType"
 |.bl _=>some "bool"
 |.int _=>some "int"
 |.str _=>some "str"
 |.lst _=>some "list"
 |.tup _=>some "tuple"
 |_=>none
theorem KC{pins:vn}{σ:L2.St}{H:Hp}{s:Shared}{A:Around}{E:vm}{Q:vm}{x:V}{u c:Value}{tn:String}{k:Bool}(I:Inv X pins σ H s)(rx:RelV x u)(rep:Rep X.K T H S d x)(ht:la d=some tn)
  (e:kitOne X.K (.type tn) c=some k) (h:∀tk,Q (.bool k) { s with toks:=tk }):wpAny (model X.prog X.w) A (call (.builtin "isinstance") [u,c]) Q E s:=by
 cases d<;>simp only[la,reduceCtorEq,qp]at ht
 all_goals subst ht
 ·unfold Rep at rep;subst rep;exact gO I rx (.non) e h
 ·unfold Rep at rep;subst rep;exact gO I rx (.bl _) e h
 ·unfold Rep at rep;subst rep;exact gO I rx (.int _) e h
 ·unfold Rep at rep;subst rep;exact gO I rx (.str _) e h
 ·unfold Rep at rep;obtain⟨p,xs,rfl,_,hq,_⟩:=rep;exact gO I rx (.lst hq) e h
 ·unfold Rep at rep;obtain⟨p,xs,rfl,_,hq,_⟩:=rep;obtain rfl:u=Value.ref p:=rx;obtain⟨its,rv,⟨o,h1,h2,_⟩,_⟩:=I.tuple hq;exact kia_one PySem.W.kitx_tuple I.kIn ⟨o,h1,h2⟩ e (fun z=>nomatch z) h
theorem gP(K:vi):∀(t n:String),(t,n)∈([("NoneType","int"),("NoneType","bool"),("NoneType","str"),("NoneType","list"),("NoneType","tuple"),("bool","str"),("bool","list"),("bool","tuple"),("int","bool"),("int","str"),("int","list"),("int","tuple"),
  ("str","int"),("str","bool"),("str","list"),("str","tuple"),("list","int"),("list","bool"),("list","str"),("list","tuple"),("tuple","int"),("tuple","bool"),("tuple","str"),("tuple","list")]:List (String×String))→kitOne K (.type t) (.type n)=some false:=by
 intro t n h;simp only[sv,Prod.mk.injEq,uz,or_false]at h
 rcases h with ⟨rfl,rfl⟩|⟨rfl,rfl⟩|⟨rfl,rfl⟩|⟨rfl,rfl⟩|⟨rfl,rfl⟩|⟨rfl,rfl⟩|⟨rfl,rfl⟩|⟨rfl,rfl⟩|⟨rfl,rfl⟩|⟨rfl,rfl⟩|⟨rfl,rfl⟩|⟨rfl,rfl⟩|⟨rfl,rfl⟩|⟨rfl,rfl⟩|⟨rfl,rfl⟩|⟨rfl,rfl⟩|⟨rfl,rfl⟩|⟨rfl,rfl⟩|⟨rfl,rfl⟩|⟨rfl,rfl⟩|⟨rfl,rfl⟩|⟨rfl,rfl⟩|⟨rfl,rfl⟩|⟨rfl,rfl⟩<;>kernel_rfl
theorem KD(K:vi):kitOne K (.type "bool") (.type "int")=some true:=by kernel_rfl
theorem iS(K:vi)(t:String):kitOne K (.type t) (.type t)=some true:=by
 unfold kitOne;rw[if_pos (by simp)]
theorem XD:¬(("bool":Str) = "int")∧¬(("str":Str) = "int")∧¬(("list":Str) = "int")∧¬(("tuple":Str) = "int")∧¬(("int":Str) = "bool")∧¬(("str":Str) = "bool")∧¬(("list":Str) = "bool")∧¬(("tuple":Str) = "bool") ∧
  ¬(("int":Str) = "str")∧¬(("bool":Str) = "str")∧¬(("list":Str) = "str")∧¬(("tuple":Str) = "str")∧¬(("int":Str) = "list")∧¬(("bool":Str) = "list")∧¬(("str":Str) = "list")∧¬(("tuple":Str) = "list") ∧
  ¬(("int":Str) = "tuple")∧¬(("bool":Str) = "tuple")∧¬(("str":Str) = "tuple")∧¬(("list":Str) = "tuple"):=by decide +kernel
theorem aAB{t:Str}{k:Bool}{tn:String}(K:vi)(ht:jE.contains t=true)(hd:la d=some tn)(h:iV G t d=some k):∃n:String,bootBuiltins t=some (.type n)∧kitOne K (.type tn) (.type n)=some k:=by
 obtain⟨n1,n2,n3,n4,n5,n6,n7,n8,n9,n10,n11,n12,n13,n14,n15,n16,n17,n18,n19,n20⟩:=XD;have ht':t = "int"∨t = "bool"∨t = "str"∨t = "list"∨t = "tuple":=by
  simpa [jE] using ht
 have b1:bootBuiltins "int" = some (.type "int"):=by decide +kernel
 have b2:bootBuiltins "bool" = some (.type "bool"):=by decide +kernel
 have b3:bootBuiltins "str" = some (.type "str"):=by decide +kernel
 have b4:bootBuiltins "list" = some (.type "list"):=by decide +kernel
 have b5:bootBuiltins "tuple" = some (.type "tuple"):=by decide +kernel
 rcases ht' with rfl|rfl|rfl|rfl|rfl<;>cases d<;>simp only[la,reduceCtorEq,qp]at hd
 all_goals subst hd
 all_goals simp only[iV,n1,n2,n3,n4,n5,n6,n7,n8,n9,n10,n11,n12,n13,n14,n15,n16,n17,n18,n19,n20,if_true,if_false,true_or,or_true,or_false,or_self,qp]at h
 all_goals subst h
 all_goals first
  |exact⟨_,b1,by first|exact iS K _|exact KD K|exact gP K _ _ (by decide)⟩
  |exact⟨_,b2,by first|exact iS K _|exact gP K _ _ (by decide)⟩
  |exact⟨_,b3,by first|exact iS K _|exact gP K _ _ (by decide)⟩
  |exact⟨_,b4,by first|exact iS K _|exact gP K _ _ (by decide)⟩
  |exact⟨_,b5,by first|exact iS K _|exact gP K _ _ (by decide)⟩
theorem pK:bootBuiltins "isinstance" = some (.builtin "isinstance"):=by decide +kernel
theorem aEN(h:XC CX X c G T lv){t:Str}{p p2:Pos}{k:Bool}{tn:String}(hg:aW c "isinstance" = true)(hm:X.mg "isinstance" = none)(hgt:aW c t=true)(hmt:X.mg t=none)(ht:jE.contains t=true)(ha:PE X ea (tD X.K T S ρ a))(hs:starEach [ea,.Name t p2] X.env=[(false,eval ea X.env),(false,eval (.Name t p2) X.env)])
  (hd:la a=some tn) (hi:iV G t a=some k):PE X (.Call (.Name "isinstance" p) [ea,.Name t p2] [] pos) (tD X.K T S ρ (.bl k)):=by
 obtain⟨n,hb,hk⟩:=aAB X.K ht hd hi;have hnn:t≠"__name__":=by
  intro z;subst z
  revert ht
  decide +kernel
 have hp:PE X (.Name t p2) (tC (.ty n)):=AN (h.glob hgt) hmt hb rfl hnn (h.gne hgt)
 have hc:fY X (.builtin "isinstance") (fun xs H Q=>∃x,xs=[x,.ty n]∧Rep X.K T H S a x∧Q (.bl k) H):=by
  rintro pins s σ H xs us Q I r ⟨x,rfl,rep,q⟩;obtain⟨u,w',rfl,r1,r2⟩:=vals2 r;obtain rfl:w'=Value.type n:=r2;exact KC I r1 rep hd hk fun tk=>⟨.bl k,H,I.tok tk,rfl,q⟩
 have hs1:starEach [ea,.Name t p2] X.env=(false,eval ea X.env)::starEach [.Name t p2] X.env:=hs
 refine PE.mono (fS hc (h.glob hg) hm pK (bG ha (bG hp fT) hs1) (by decide +kernel) ?_ ?_ ?_) fun σ H Q ⟨re,q⟩=>⟨re,fun x H1 s1 r1=>⟨x,rfl,r1,q _ H1 s1 bT⟩⟩
 all_goals first|exact h.gne hg|exact hs1|rfl|decide +kernel
end
theorem kZ{o:Expr}{m:Str}{env:Env}(ho:jM o=true):attributeBase o m env (eval o env)=eval o env:=by
 cases o<;>first|rfl|(simp[jM]at ho)
theorem xJ{env:Env}{pos:Pos}:∀(l:List Expr),(backTo pos (l.map fun e=>(false,eval e env))).all (!·.1)=true
 |[]=>rfl
 |_::r=>xJ r
theorem vT{X:Cx}{o:Expr}{m:Str}{args:List Expr}{apos pos:Pos}(ho:jM o=true)(hs:starEach args X.env=args.map fun e=>(false,eval e X.env))(hl:args.length<30)(hp:(apos.endLine == pos.line)=true):pA X o m args apos pos:=by
 refine⟨do return (←importBound o X.env).getD true,?_⟩
 show (do
  let ov ←attributeBase o m X.env (eval o X.env)
  standAt apos.atName
  methodCall o m apos pos X.env ov (args.length+0) (backTo pos (starEach args X.env)) (backToKw pos (keywordEach [] X.env)))=_
 rw[kZ ho];have hf:methodCallForm (args.length+0) (backTo pos (starEach args X.env)) (backToKw pos (keywordEach [] X.env))=true:=by
  unfold methodCallForm;rw[hs,xJ];simp[backToKw,keywordEach]
  first|lia|(refine⟨?_,?_⟩<;>first|rfl|lia)
 have hpp:methodCallPos true o X.env apos pos=pure pos:=by
  unfold methodCallPos;rw[hp];rfl
 unfold methodCall;rw[hf,hpp];unfold calleeOf;rfl
section
variable {K:vi}{T:Tx}{H:Hp}{S:Addr→Prop}
theorem bB.len:∀{kvs:List (Int×D)} {gs:List (Key×V)},bB K T H S kvs gs→kvs.length=gs.length
 |[],gs,h=>by unfold bB at h;subst h;rfl
 | (i,d)::kvs,gs,h=>by
  unfold bB at h;obtain⟨x,r,rfl,_,q⟩:=h;exact congrArg (· + 1) (bB.len q)
theorem bB.nil:bB K T H S [] []:=by unfold bB;rfl
theorem bB.cons{i:Int}{d:D}{x:V}{kvs:List (Int×D)}{gs:List (Key×V)}(h:Rep K T H S d x)(g:bB K T H S kvs gs):bB K T H S ((i,d)::kvs) ((Sum.inl i,x)::gs):=by unfold bB;exact⟨x,gs,rfl,h,g⟩
theorem KJ{i j:Int}(h:¬i=j):¬(Sum.inl i:Key)=Sum.inl j:=fun z=>h (Sum.inl.inj z)
theorem bB.val{k:Int}:∀{kvs:List (Int×D)} {gs:List (Key×V)},bB K T H S kvs gs→(∀d,cC kvs k=some d→∃x,lC gs (Sum.inl k)=some x∧Rep K T H S d x)∧(cC kvs k=none→lC gs (Sum.inl k)=none)
 |[],gs,h=>by unfold bB at h;subst h;exact⟨fun d e=>(nomatch (show none=some d from e)),fun _=>rfl⟩
 | (i,d)::kvs,gs,h=>by
  unfold bB at h;obtain⟨x,r,rfl,p,q⟩:=h;obtain⟨i1,i2⟩:=bB.val (k:=k) q
  by_cases e:i=k
  ·have e1:cC ((i,d)::kvs) k=some d:=by unfold cC;rw[List.find?_cons_of_pos (by simpa using e)];rfl
   rw[e1,kD (congrArg Sum.inl e)];exact⟨fun d' z=>⟨x,rfl,by cases z;exact p⟩,fun z=>by cases z⟩
  ·have e1:cC ((i,d)::kvs) k=cC kvs k:=by unfold cC;rw[List.find?_cons_of_neg (by simpa using e)]
   rw[e1,kE (KJ e)];exact⟨i1,i2⟩
theorem bB.any{k:Int}:∀{kvs:List (Int×D)} {gs:List (Key×V)},bB K T H S kvs gs→(kvs.any fun kv=>decide (kv.1=k))=gs.any fun kv=>decide (kv.1=(Sum.inl k:Key))
 |[],gs,h=>by unfold bB at h;subst h;rfl
 | (i,d)::kvs,gs,h=>by
  unfold bB at h;obtain⟨x,r,rfl,p,q⟩:=h;rw[any_cons,any_cons,bB.any q]
  congr 1
  exact decide_eq_decide.mpr ⟨fun z=>congrArg Sum.inl z,fun z=>Sum.inl.inj z⟩
theorem bB.repl{k:Int}{d:D}{v:V}(hv:Rep K T H S d v):∀{kvs:List (Int×D)} {gs:List (Key×V)},bB K T H S kvs gs→bB K T H S (kvs.map fun kv=>if kv.1=k then(kv.1,d) else kv) (gs.map fun kv=>if kv.1=(Sum.inl k:Key) then(kv.1,v) else kv)
 |[],gs,h=>by unfold bB at h;subst h;exact bB.nil
 | (i,d')::kvs,gs,h=>by
  unfold bB at h;obtain⟨x,r,rfl,p,q⟩:=h;rw[tu,tu]
  by_cases e:i=k
  ·rw[if_pos e,if_pos (congrArg Sum.inl e)];exact bB.cons hv (bB.repl hv q)
  ·rw[if_neg e,if_neg (KJ e)];exact bB.cons p (bB.repl hv q)
theorem bB.snoc{k:Int}{d:D}{v:V}(hv:Rep K T H S d v):∀{kvs:List (Int×D)} {gs:List (Key×V)},bB K T H S kvs gs→bB K T H S (kvs++[(k,d)]) (gs++[(Sum.inl k,v)])
 |[],gs,h=>by unfold bB at h;subst h;exact bB.cons hv bB.nil
 | (i,d')::kvs,gs,h=>by
  unfold bB at h;obtain⟨x,r,rfl,p,q⟩:=h;exact bB.cons p (bB.snoc hv q)
theorem bB.put{k:Int}{d:D}{v:V}(hv:Rep K T H S d v){kvs:List (Int×D)}{gs:List (Key×V)}(h:bB K T H S kvs gs):bB K T H S (jW kvs k d) (putK gs (Sum.inl k) v):=by
 unfold jW putK;rw[bB.any h];split
 ·exact bB.repl hv h
 ·exact bB.snoc hv h
end
section
variable {CX:au}{X:Cx}{c:CC}{G:GS}{T:Tx}{lv:Nat}{ρ:List Sl}{S:Addr→Prop}{pos:Pos}{ea eb ec:Expr}{a b d:D}
theorem aES(hu:X.A.units+1<cLine){i:Int}{kvs:List (Int×D)}(ha:PE X ea (tD X.K T S ρ (.dct kvs)))(hb:PE X eb (tD X.K T S ρ (.int i)))(hp:lA eb)(hd:cC kvs i=some d):PE X (.Subscript ea eb pos) (tD X.K T S ρ d):=
 PE.mono (AK hu ha hb hp) fun σ H Q ⟨re,q⟩=>⟨re,fun x H1 s1 r1=>⟨re.same s1,fun y H2 s2 r2=>by
  have r1:=r1.same s2
  unfold Rep at r1 r2;subst r2;obtain⟨p,gs,rfl,_,e,rk⟩:=r1;obtain⟨v,e1,rv⟩:=(bB.val (k:=i) rk).1 d hd;refine⟨p,v,rfl,?_,q v H2 (s1.trans s2) rv⟩;rw[←e1];exact zP.k (k:=Sum.inl i) e⟩⟩
theorem pY{i:Nat}{kvs:List (Int×D)}{σ:L2.St}{H:Hp}(re:RE X.K T H S ρ σ)(h:mE ρ i=some kvs):∃p gs,σ[i]?=some (some (.ref p))∧H p=some (.dK gs)∧bB X.K T H S kvs gs:=by
 unfold mE at h;split at h
 ·rename_i e;cases h;obtain⟨v,e1,r⟩:=re.at_ i _ e;unfold Rep at r;obtain⟨p,gs,rfl,_,e2,rk⟩:=r;exact⟨p,gs,e1,e2,rk⟩
 ·rename_i e;cases h;obtain⟨p,ob,e1,_,e2,rm⟩:=re.at_ i _ e;obtain⟨gs,rfl,rk⟩:=rm.dct;exact⟨p,gs,e1,e2,rk⟩
 ·cases h
theorem aEM(h:XC CX X c G T lv)(hu:X.A.units+1<cLine){x:Str}{p2:Pos}{j:Nat}{i:Int}{kvs:List (Int×D)}(e:bX c x=some j)(hb:PE X eb (tD X.K T S ρ (.int i)))(hp:lA eb)(hs:mE ρ j=some kvs)(hd:cC kvs i=some d):PE X (.Subscript (.Name x p2) eb pos) (tD X.K T S ρ d):=
 PE.mono (AK hu (mI h e) hb hp) fun σ H Q ⟨re,q⟩=>by
  obtain⟨p,gs,e1,e2,rk⟩:=pY re hs;refine⟨.ref p,e1,re,fun y H2 s2 r2=>?_⟩
  unfold Rep at r2;subst r2;obtain⟨v,e3,rv⟩:=(bB.val (k:=i) (bB.gen (show aO X.K H H2 S S from fun a n _=>⟨n,fun o e=>s2 a o e⟩) _ _ rk)).1 d hd
  refine⟨p,v,rfl,?_,q v H2 s2 rv⟩;rw[←e3];exact zP.k (k:=Sum.inl i) (s2 _ _ e2)
theorem aAh(xc:XC CX X c G T lv){y:Str}{p py q:Pos}{i:Nat}{kvs:List (Int×D)}(hg:aW c "len" = true)(hm:X.mg "len" = none)(e:bX c y=some i)(hs:mE ρ i=some kvs) :
  PE X (.Call (.Name "len" p) [.Name y py] [] q) (tD X.K T S ρ (.int kvs.length)):=by
 have st:starEach [.Name y py] X.env=(false,eval (.Name y py) X.env)::starEach [] X.env:=rfl
 refine PE.mono (fS GL (xc.glob hg) hm (by decide +kernel) (bG (mI xc e) fT st) (by decide +kernel) (by decide +kernel) rfl rfl) fun σ H Q ⟨re,q⟩=>?_
 obtain⟨p,gs,e1,e2,rk⟩:=pY re hs;exact⟨_,e1,p,gs,rfl,e2,by rw[←bB.len rk];exact q _ H (aH.refl H) hG⟩
end
theorem UF:bootBuiltins "enumerate" = some (.type "enumerate"):=by decide +kernel
theorem zV{X:Cx}{pins:vn}{σ:L2.St}{H:Hp}{s:Shared}{h':Heap}{t':Nat}{a b:Addr}(I:Inv X pins σ H s)(k:∀c o,c≠a→c≠b→s.heap.get? c=some o→h'.get? c=some o)(fa:lB X pins H a)(fb:lB X pins H b):Inv X pins σ H { s with heap:=h',toks:=t' }:=by
 have nc:∀{c:Addr},c∉[a,b]→c≠a∧c≠b:=fun {c} h=>⟨fun z=>h (by simp[z]),fun z=>h (by simp[z])⟩
 have sees:∀c u,H c=some u→c≠a∧c≠b:=fun c u e=>⟨fun z=>(by rw[z,fa.1]at e;cases e),fun z=>(by rw[z,fb.1]at e;cases e)⟩
 refine I.step (g':=s.gens) (d':=s.drawn) (ch:=[a,b]) (fun c hc=>?_) (fun c o _ _ hc e _=>k c o (nc hc).1 (nc hc).2 e) (fun c o _ _ hc e _=>⟨o.slots,k c o (nc hc).1 (nc hc).2 e⟩) (fun _ _ _ _ n=>n)
  (fun c o hc e=>⟨o,k c o (nc hc).1 (nc hc).2 e⟩) (fun _ _ e=>e) (fun _ _ _ e=>e) (fun c ps e=>⟨#[],by rw[e];simp⟩) (fun m hm=>?_) (fun c u e=>?_) I.bare
 ·rcases sv.mp hc with rfl|hc
  ·exact⟨fa.2.2.2.1,fa.2.1,fa.2.2.2.2.1,fa.2.2.2.2.2⟩
  ·obtain rfl:=su.mp hc;exact⟨fb.2.2.2.1,fb.2.1,fb.2.2.2.2.1,fb.2.2.2.2.2⟩
 ·obtain⟨o,es,ep,ho,r⟩:=hm;exact⟨o,es,ep,k _ o (Ne.symm fa.2.1) (Ne.symm fb.2.1) ho,r⟩
 ·refine(I.hok c u e).stay (fun d v hd q=>?_) (fun _ q=>q) fun _ _ q=>q
  have n:d≠a∧d≠b:=by
   rcases hd with z|z
   ·rw[z];exact sees c u e
   ·exact sees d _ z
  exact k d v n.1 n.2 q
noncomputable def Ite(K:vi)(a:Addr):It:=
 ⟨fun i H=>∃xs x,SqL K H a xs∧xs[i]?=some x,fun i H x H'=>∃p y,x=.ref p∧H p=none∧H'=upd H p (.tup [.int i,y])∧∀xs,SqL K H a xs→xs[i]?=some y,fun i H=>∃xs,SqL K H a xs∧xs.length≤i⟩
theorem EC{P:vk}{w:World}{K:vi}{es:List Expr}{j:Nat}{q:Pos}(a e it:Addr)(d6:e≠it):Turn P w K (.Tuple es j q) (Ite K a) [e,it] e (fun i h=>(∃old,IsEnum h e it (i:Nat) old)∧h.IsListIter it a i) where
 mem:=by simp
 obj:=fun i h st b hb=>by
  obtain⟨⟨old,he⟩,hi⟩:=st
  rcases sv.mp hb with rfl|hb
  ·exact⟨_,he,fun v z=>by
    have z':Data.fields _=Data.cell v:=z
    cases z'⟩
  ·obtain rfl:=su.mp hb;obtain⟨o,e,c,d⟩:=hi;exact⟨o,e,fun v z=>by rw[d]at z;cases z⟩
 keep:=fun i h h' st k=>⟨let ⟨old,he⟩:=st.1;⟨old,k e (by simp) _ he⟩,st.2.at fun o x=>k it (by simp) o x⟩
 item:=by
  intro X hP hw hK hc i pins s σ H E I hf st hg;subst hP hw hK;obtain⟨xs,x,hq,hx⟩:=hg;obtain⟨its,rv,p,hz⟩:=I.list hq;obtain⟨u,hu,ru⟩:=rv.get hx;obtain⟨⟨old,he⟩,hi⟩:=st;have hT:=I.hok.fresh (qw s.heap.objs.size)
  have eT:e≠s.heap.objs.size:=uc (sq he)
  have iT:it≠s.heap.objs.size:=by obtain⟨o,e',_⟩:=hi;exact uc (sq e')
  refine wpAny_pyNext_enum_item he hi p.isList (x:=u) (by simpa using hu) d6 fun h1 ho hi1 hT1 hsz hk=>?_
  refine⟨_,rfl,wpAny_letOwnedTupleGo_enum (s:={ s with heap:=h1,toks:=s.toks+1 }) ho fun h2 he2 hs=>?_⟩
  have I1:Inv X pins σ (upd H s.heap.objs.size (.tup [.int i,x])) { s with heap:=s.heap.push { cls:=.type "tuple",data:=.seq #[.int i s.toks,u] },toks:=s.toks }:=
   I.laid (fun b o e=>qz _ e) (qw _) ⟨sr (show 2≤big from by decide) iI,[.int i s.toks,u],.cons ⟨_,rfl⟩ (.cons ru .nil),⟨_,uk _ rfl,rfl,_,rfl⟩⟩
  have fo:∀b,b∈[e,it]→b≠s.heap.objs.size→lB X pins (upd H s.heap.objs.size (.tup [.int i,x])) b:=fun b hb hn=>by
   obtain⟨f0,f1⟩:=hf b hb;exact⟨(aN hn).trans f0,f1⟩
  have I2:Inv X pins σ (upd H s.heap.objs.size (.tup [.int i,x])) { s with heap:=h2,toks:=s.toks+1 }:=by
   have q:=zV (h':=h2) (t':=s.toks+1) I1 (fun b o n1 n2 eb=>by
    rw[hs.2 b n1]
    rcases Heap.get?_push_cases eb with ⟨rfl,rfl⟩|eb
    ·exact hT1
    ·exact hk b o n1 n2 eb) (fo e (by simp) eT) (fo it (by simp) iT)
   exact q
  refine⟨.ref s.heap.objs.size,_,I2,rfl,⟨_,x,rfl,hT,rfl,fun ys hy=>by rw[I.list_inj hy hq];exact hx⟩,⟨⟨_,by simpa using he2⟩,hi1.at fun o y=>(hs.2 it d6.symm).trans y⟩,fun b hb=>?_⟩
  rcases sv.mp hb with rfl|hb
  ·exact(fo b (by simp) eT).1
  ·obtain rfl:=su.mp hb;exact(fo b (by simp) iT).1
 done:=by
  intro X hP hw hK hc i pins s σ H E I hf st hg;subst hP hw hK;obtain⟨xs,hq,hx⟩:=hg;obtain⟨its,rv,p,hz⟩:=I.list hq;obtain⟨⟨old,he⟩,hi⟩:=st;have hl:=rv.length
  exact wpAny_pyNext_enum_end (I.ok.hd hc) he hi p.isList (by simp;lia) fun h' eb=>⟨rfl,zV I (t':=s.toks) (fun b o n1 n2 y=>eb b o n2 y) (hf e (by simp)) (hf it (by simp))⟩
 self:=fun _ _ _ _ _ st h=>let ⟨_,he⟩:=st.1;wpAny_pyIter_enum he h
section
variable {CX:au}{X:Cx}{c:CC}{G:GS}{T:Tx}{lv:Nat}{ρ:List Sl}{S:Addr→Prop}
theorem qS:∀{ds:List D} {k i:Nat} {d:D},(oP k ds)[i]?=some d→∃d',ds[i]?=some d'∧d=.tup [.int (k+i:Nat),d']
 |[],k,i,d,h=>by cases i<;>cases h
 |x::r,k,0,d,h=>by cases h;exact⟨x,rfl,rfl⟩
 |x::r,k,i+1,d,h=>by
  obtain⟨d',e1,e2⟩:=qS (ds:=r) (k:=k+1) (i:=i) h;exact⟨d',e1,by rw[e2,show k+1+i=k+(i+1) by lia]⟩
theorem lU:∀{ds:List D} {k:Nat},(oP k ds).length=ds.length
 |[],_=>rfl
 |x::r,k=>congrArg (· + 1) (lU (ds:=r) (k:=k+1))
theorem KB{H1:Hp}{a:Addr}{xs:List V}{ds:List D}(n:¬S a)(hq:SqL X.K H1 a xs)(r:aE X.K T H1 S ds xs):jj X.K T S H1 (Ite X.K a) (oP 0 ds):=fun H S' mv dom=>by
 obtain⟨n',k⟩:=mv a n (SqL.has hq);have c8:=SqL.keeps hq k
 refine⟨fun i d e=>?_,fun i hi=>⟨xs,c8,by rw[←r.len];rw[lU]at hi;exact hi⟩⟩
 obtain⟨d',e1,rfl⟩:=qS e;obtain⟨x,e2,rx⟩:=r.get e1;refine⟨⟨xs,x,c8,e2⟩,fun v H' hy=>?_⟩
 obtain⟨p,y,rfl,hp,rfl,ey⟩:=hy;have:=ey xs c8
 rw[e2]at this;cases this;rw[t8];exact⟨aH.upd hp,eS dom hp (aE.cons (by unfold Rep;rfl) (aE.cons (Rep.gen mv d' x rx) aE.nil))⟩
theorem IK{a:Expr}{p pos q:Pos}{d:D}{ds:List D}{es:List Expr}{j:Nat}(hg:Gl X "enumerate")(hm:X.mg "enumerate" = none)(ha:PA X [a] (c6 X.K T S ρ [d]))(hs:starEach [a] X.env=[(false,eval a X.env)])(hi:yW d=some ds) :
  PI X (.Tuple es j q) (.Call (.Name "enumerate" p) [a] [] pos) (tI X.K T S ρ ds):=by
 intro pins s σ H R I ⟨re,q⟩;refine Call_ (fU I hg hm UF (t7 (af (ha pos pins s σ H (fun vs H'=>aH H H'∧aE X.K T H' S [d] vs) I ⟨re,fun vs H' a b=>⟨a,b⟩⟩) fun us s1 ⟨vs,H1,I1,r1,sm,rl⟩=>?_) hs rfl))
 unfold aE at rl;obtain⟨x,r',rfl,rx,rr⟩:=rl;unfold aE at rr;subst rr;cases r1 with
 |cons r rr =>
  cases rr;cases d<;>simp only[yW,reduceCtorEq,qp]at hi
  rename_i ds';subst hi;unfold Rep at rx;obtain⟨l,xs,e,n,hq,rl⟩:=rx;subst e;cases r;obtain⟨its,rv,pl,hz⟩:=I1.list (SqL.of hq);refine call_enumerate_list pl.isList fun h' hE hI hsz hk=>?_
  refine wpAny_pyIter_enum hE ?_;refine⟨s1.heap.objs.size+1,[s1.heap.objs.size+1,s1.heap.objs.size],_,_,H1,rfl,I1.kept (t':=s1.toks) hk,EC l _ _ (Nat.succ_ne_self _),⟨⟨.none,by simpa using hE⟩,hI⟩,fun b hb=>?_,q _ _ sm (KB n (SqL.of hq) rl) ?_⟩
  ·have hb:s1.heap.objs.size≤b:=by
    rcases sv.mp hb with rfl|hb
    ·exact uq _
    ·rw[su.mp hb];exact qw _
   exact I1.fpOk hb (I1.hok.fresh hb)
  ·rw[lU,rl.len];exact hz
end
structure Plain (e:Expr):Prop where
 star:∀(env:Env) (es:List Expr),starEach (e::es) env=(false,eval e env)::starEach es env
 marks:∀op,behindInMarks op e=false
 set_:∀env x,foldedSetIterable e env x=pure x
 ix:lA e
theorem dE{n:Nat}{c:CC}{e:Expr}{ir:IE}(h:cE n c e=some ir):Plain e:=by
 cases e<;>first|exact⟨fun _ _=>rfl,fun _=>rfl,fun _ _=>rfl,fun _ _=>rfl⟩|(cases n<;>exact nomatch (show none=some ir from h))
section
variable {CX:au}{G:GS}{T:Tx}{lv:Nat}
def gc(CX:au)(G:GS)(T:Tx)(lv n:Nat):Prop:=∀(X:Cx) (c:CC) (S:Addr→Prop) (ρ:List Sl) (e:Expr) (ir:IE),XC CX X c G T lv→cE n c e=some ir→∀d,ev G ir ρ=some d →
 PE X e (tD X.K T S ρ d)∧(gJ c e=true→∀ds,d=.lst ds→PE X e (ez X.K T S ρ ds))
def nj(CX:au)(G:GS)(T:Tx)(lv n:Nat):Prop:=∀(X:Cx) (c:CC) (S:Addr→Prop) (ρ:List Sl) (e:Expr) (ir:IE),XC CX X c G T lv→cT n c e=some ir→∀k,ev G ir ρ=some (.bl k)→PT X e (gk X.K T S ρ k)
def qi(CX:au)(G:GS)(T:Tx)(lv n:Nat):Prop:=∀(X:Cx) (c:CC) (S:Addr→Prop) (ρ:List Sl) (k:Bool) (vs:List Expr) (ir:IE) (pos:Pos),XC CX X c G T lv →
 (cB n c false k vs=some ir→∀d,ev G ir ρ=some d→PE X (.BoolOp (if k then .And else .Or) vs pos) (tD X.K T S ρ d)) ∧
 (cB n c true k vs=some ir→∀b,ev G ir ρ=some (.bl b)→PW X (.BoolOp (if k then .And else .Or) vs pos) (gk X.K T S ρ b))
def jx(CX:au)(G:GS)(T:Tx)(lv n:Nat):Prop:=∀(X:Cx) (c:CC) (S:Addr→Prop) (ρ:List Sl) (es:List Expr) (ir:IE),XC CX X c G T lv→cA n c es=some ir→∀d,ev G ir ρ=some d →
 ∃ds,d=.tup ds∧ds.length=es.length∧PA X es (c6 X.K T S ρ ds)∧starEach es X.env=es.map fun e=>(false,eval e X.env)
def MV(k:Src)(tg:Expr):Prop:=k=.enum→∃es j p,tg=.Tuple es j p
theorem ON{c:CC}{tg:Expr}{ba:List Nat}{tp:Bool}{k:Src}(dy:dA c tg=some (ba,tp))(h:KW tp k=true):MV k tg:=fun e=>by
 subst e;have ht:tp=true:=by simpa [KW,aAC] using h
 subst ht;cases tg<;>first|exact⟨_,_,_,rfl⟩|exact nomatch (show none=some _ from dy)|skip
 obtain⟨i,_,h2⟩:=aP dy;cases h2
def OkI(CX:au)(G:GS)(T:Tx)(lv n:Nat):Prop:=∀(X:Cx) (c:CC) (S:Addr→Prop) (ρ:List Sl) (e:Expr) (k:Src) (ir:IE),XC CX X c G T lv→cI n c e=some (k,ir)→∀d ds,ev G ir ρ=some d→items k d=some ds →
 (∀tg,MV k tg→PI X tg e (tI X.K T S ρ ds))∧∀x,foldedSetIterable e X.env x=pure x
theorem JH{n:Nat}(hE:gc CX G T lv n)(hA:jx CX G T lv n):jx CX G T lv (n+1):=by
 intro X c S ρ es ir xc h d hd;cases es with
 |nil =>
  cases (show some IE.nil=some ir from h)
  simp only[ev,qp]at hd;exact⟨[],hd.symm,rfl,vR,rfl⟩
 |cons e es =>
  obtain⟨x,hx,h⟩:=aG h;obtain⟨y,hy,rfl⟩:=aP h;simp only[ev,qx,qr]at hd;obtain⟨a,ha,w,hw,hd⟩:=hd;obtain⟨ds,rfl,hl,pa,hs⟩:=hA X c S ρ es y xc hy w hw;simp only[qp]at hd;have st:=(dE hx).star X.env es
  refine⟨a::ds,hd.symm,by simp[hl],nW (hE X c S ρ e x xc hx a ha).1 pa st,?_⟩
  rw[st,hs];rfl
theorem JG{n:Nat}(hE:gc CX G T lv n)(hT:nj CX G T lv n)(hB:qi CX G T lv n):qi CX G T lv (n+1):=by
 intro X c S ρ k vs ir pos xc;refine⟨fun h d hd=>?_,fun h b hb=>?_⟩
 ·cases vs with
  |nil=>exact nomatch (show none=some ir from h)
  |cons a r =>
   cases r with
   |nil =>
    exact ZG (hE X c S ρ a ir xc h d hd).1
   |cons b r =>
    obtain⟨x,hx,h⟩:=aG h;obtain⟨y,hy,rfl⟩:=aP h;cases k with
    |true =>
     simp only[if_true,ev,qx,qr]at hd;obtain⟨w,hw,hd⟩:=hd;have p1:=(hE X c S ρ a x xc hx w hw).1
     cases w<;>first|(simp only[reduceCtorEq]at hd;done)|skip
     rename_i kk;cases kk with
     |true =>
      simp only[qr]at hd;obtain⟨z,hz,hd⟩:=hd;have p2:=(hB X c S ρ true (b::r) y pos xc).1 hy z hz
      have j6:z=d:=by cases z<;>simp_all
      subst j6;exact PE.mono (IT p1 p2) fun σ H Q ⟨re,q⟩=>⟨re,fun x H1 s1 r1=>by
       unfold Rep at r1;exact⟨true,r1,FL ⟨re.same s1,fun v H' s2 r=>q v H' (s1.trans s2) r⟩⟩⟩
     |false =>
      simp only[qp]at hd;subst hd;exact PE.mono (IT p1 (tb:=fun _ _ _=>False) (fun _ _ _ _ _ _ h=>h.elim)) fun σ H Q ⟨re,q⟩=>⟨re,fun x H1 s1 r1=>by
       unfold Rep at r1;exact⟨false,r1,pG (q _ H1 s1 bT)⟩⟩
    |false =>
     simp only[r8,if_false,ev,qx,qr]at hd;obtain⟨w,hw,hd⟩:=hd;have p1:=(hE X c S ρ a x xc hx w hw).1
     cases w<;>first|(simp only[reduceCtorEq]at hd;done)|skip
     rename_i kk;cases kk with
     |false =>
      simp only[qr]at hd;obtain⟨z,hz,hd⟩:=hd;have p2:=(hB X c S ρ false (b::r) y pos xc).1 hy z hz
      have j6:z=d:=by cases z<;>simp_all
      subst j6;exact PE.mono (VC p1 p2) fun σ H Q ⟨re,q⟩=>⟨re,fun x H1 s1 r1=>by
       unfold Rep at r1;exact⟨false,r1,pG ⟨re.same s1,fun v H' s2 r=>q v H' (s1.trans s2) r⟩⟩⟩
     |true =>
      simp only[qp]at hd;subst hd;exact PE.mono (VC p1 (tb:=fun _ _ _=>False) (fun _ _ _ _ _ _ h=>h.elim)) fun σ H Q ⟨re,q⟩=>⟨re,fun x H1 s1 r1=>by
       unfold Rep at r1;exact⟨true,r1,FL (q _ H1 s1 bT)⟩⟩
 ·cases vs with
  |nil=>exact nomatch (show none=some ir from h)
  |cons a r =>
   cases r with
   |nil =>
    cases k with
    |true=>exact QK (hT X c S ρ a ir xc h b hb)
    |false=>exact HX (hT X c S ρ a ir xc h b hb)
   |cons b' r =>
    obtain⟨x,hx,h⟩:=aG h;obtain⟨y,hy,rfl⟩:=aP h;cases k with
    |true =>
     simp only[if_true,ev,qx,qr]at hb;obtain⟨w,hw,hb⟩:=hb;cases w<;>first|(simp only[reduceCtorEq]at hb;done)|skip
     rename_i kk;have p1:=hT X c S ρ a x xc hx kk hw
     cases kk with
     |true =>
      simp only[qr]at hb;obtain⟨z,hz,hb⟩:=hb;have j6:z=.bl b:=by cases z<;>simp_all
      subst j6;have p2:=(hB X c S ρ true (b'::r) y pos xc).2 hy b hz
      exact PW.mono (HZ p1 p2) fun σ H Q ⟨re,q⟩=>⟨re,fun H1 s1=>FL ⟨re.same s1,fun H' s2=>q H' (s1.trans s2)⟩⟩
     |false =>
      simp only[qp,D.bl.injEq]at hb;subst hb;exact PW.mono (HZ p1 (tB':=fun _ _ _=>False) (fun _ _ _ _ _ _ _ h=>h.elim)) fun σ H Q ⟨re,q⟩=>⟨re,fun H1 s1=>pG (q H1 s1)⟩
    |false =>
     simp only[r8,if_false,ev,qx,qr]at hb;obtain⟨w,hw,hb⟩:=hb;cases w<;>first|(simp only[reduceCtorEq]at hb;done)|skip
     rename_i kk;have p1:=hT X c S ρ a x xc hx kk hw
     cases kk with
     |false =>
      simp only[qr]at hb;obtain⟨z,hz,hb⟩:=hb;have j6:z=.bl b:=by cases z<;>simp_all
      subst j6;have p2:=(hB X c S ρ false (b'::r) y pos xc).2 hy b hz
      exact PW.mono (HY p1 p2) fun σ H Q ⟨re,q⟩=>⟨re,fun H1 s1=>pG ⟨re.same s1,fun H' s2=>q H' (s1.trans s2)⟩⟩
     |true =>
      simp only[qp,D.bl.injEq]at hb;subst hb;exact PW.mono (HY p1 (tB':=fun _ _ _=>False) (fun _ _ _ _ _ _ _ h=>h.elim)) fun σ H Q ⟨re,q⟩=>⟨re,fun H1 s1=>FL (q H1 s1)⟩
theorem gH(xc:XC CX X c G T lv){x:Str}(h1:fK.contains x=true)(h2:c.fns.contains x=false)(h3:c.cls.contains x=false):X.mg x=none:=xc.go.bi x h1 h2 h3
theorem JE{n:Nat}(hE:gc CX G T lv n)(hA:jx CX G T lv n):OkI CX G T lv (n+1):=by
 intro X c S ρ e k ir xc h d ds hd hi;have h:(match (lW c e).bind fun q=>(srcOf q.1).map fun k=>(k,q.2) with
  |some q=>(match q.1 with
   |.rng=>(cA n c q.2).map fun y=>(Src.rng,IE.tup y)
   |.enum=>(one? q.2).bind fun a=>(cE n c a).map fun y=>(Src.enum,y)
   |k=>(one? q.2).bind fun a=>(cE n c a).map fun y=>(k,y))
  |none=>(cE n c e).map fun y=>(Src.seq,y))=some (k,ir):=h
 cases hb:((lW c e).bind fun q=>(srcOf q.1).map fun k=>(k,q.2)) with
 |none =>
  rw[hb]at h;obtain⟨y,hy,e1⟩:=aP h;cases e1;exact⟨fun tg _=>QT (hE X c S ρ e ir xc hy d hd).1 hi,(dE hy).set_ X.env⟩
 |some q =>
  rw[hb]at h;obtain⟨r,hr,hq⟩:=aG hb;obtain⟨k',hk,rfl⟩:=aP hq;obtain⟨p1,p2,rfl,hg,ho⟩:=jC hr;obtain⟨hf,hc⟩:=AR ho
  by_cases hen:k'=Src.enum
  ·subst hen;have hx:r.1 = "enumerate":=by
    unfold srcOf at hk;split at hk
    ·cases hk
    ·split at hk
     ·cases hk
     ·split at hk
      ·assumption
      ·cases hk
   obtain⟨x,args⟩:=r;dsimp only at hx;subst hx;obtain⟨a,ha,h⟩:=aG h;obtain rfl:=bM ha;obtain⟨y,hy,e1⟩:=aP h;cases e1;have st:=(dE hy).star X.env []
   refine⟨fun tg ht=>?_,fun _=>rfl⟩
   obtain⟨es,j,p,rfl⟩:=ht rfl;exact IK (xc.glob hg) (gH xc (by decide +kernel) hf hc) (nW (hE X _ S ρ a ir xc hy d hd).1 vR st) st hi
  have hx:(r.1 = "range"∧k'=.rng)∨(r.1 = "reversed"∧k'=.rev):=by
   unfold srcOf at hk;split at hk
   ·rename_i e0;cases hk;exact .inl ⟨e0,rfl⟩
   ·split at hk
    ·rename_i e0;cases hk;exact .inr ⟨e0,rfl⟩
    ·split at hk
     ·cases hk;exact absurd rfl hen
     ·cases hk
  obtain⟨x,args⟩:=r
  rcases hx with ⟨rfl,rfl⟩|⟨rfl,rfl⟩
  ·obtain⟨y,hy,e1⟩:=aP h;cases e1;simp only[ev,rq]at hd;obtain⟨as,has,rfl⟩:=hd;have kh:ev G y ρ=some (.tup as):=by
    unfold bF at has;split at has
    ·cases has;assumption
    ·cases has
   obtain⟨as',e1,hl,pa,hs⟩:=hA X _ S ρ args y xc hy _ kh;cases e1;exact⟨fun tg _=>QU (xc.glob hg) (gH xc (by decide +kernel) hf hc) pa hs hi hl,fun _=>rfl⟩
  ·obtain⟨a,ha,h⟩:=aG h;obtain rfl:=bM ha;obtain⟨y,hy,e1⟩:=aP h;cases e1;have st:=(dE hy).star X.env []
   exact⟨fun tg _=>QV (xc.glob hg) (gH xc (by decide +kernel) hf hc) (nW (hE X _ S ρ a ir xc hy d hd).1 vR st) st hi,fun _=>rfl⟩
end
section
variable {CX:au}{X:Cx}{c:CC}{G:GS}{T:Tx}{lv:Nat}{ρ:List Sl}{S:Addr→Prop}{pos p:Pos}{ea:Expr}
noncomputable def SO:Bool→CmpOp
 |false=>.In
 |true=>.NotIn
theorem IU(h:XC CX X c G T lv){x y:Str}{kvs:List (Str×D)}(e:aW c x=true)(hk:G.dk x=some kvs)(ha:PE X ea (tD X.K T S ρ (.str y)))(neg:Bool):PC X (SO neg) ea (.Name x p) (tD X.K T S ρ (.bl (neg != (kvs.lookup y).isSome))):=by
 obtain⟨a,hm,hs,o,vs,hl,hd,hks,_⟩:=h.go.dk x kvs hk;intro pins s σ H Q I ⟨re,q⟩;refine af (ha pins s σ H (fun v H'=>aH H H'∧Rep X.K T H' S (.str y) v) I ⟨re,fun v H' sm r=>⟨sm,r⟩⟩) fun iv s1 ⟨v,H1,I1,ry,sm,r⟩=>?_
 refine eA I1 (h.glob e) hm ?_ (h.gne e);unfold Rep at r;subst r;obtain⟨t,rfl⟩:=ry;have dd:s1.heap.DictOf (bP X.prog X.w) a vs:=Heap.dictOf_iff.mpr ⟨o,I1.kIn a o hl,hd⟩
 have fin:∀b,b=(neg != (kvs.lookup y).isSome)→EP X pins σ Q (.bool b) { s1 with toks:=s1.toks+1 }:=fun b hb=>⟨.bl b,H1,I1.tok _,rfl,q _ H1 sm (by rw[hb];unfold Rep;rfl)⟩
 cases neg with
 |false=>exact wpAny_in_of (knd:=bP X.prog X.w) (eU X.prog X.w y t) hs dd.mapOf (fin _ (by rw[hks];simp))
 |true=>exact wpAny_notIn_of (knd:=bP X.prog X.w) (eU X.prog X.w y t) hs dd.mapOf (fin _ (by rw[hks];simp))
theorem aEP(h:XC CX X c G T lv){x y:Str}{kvs:List (Str×D)}(e:aW c x=true)(hk:G.dk x=some kvs)(ha:PE X ea (tD X.K T S ρ (.str y)))(neg:Bool):PE X (.Compare ea [SO neg] [.Name x p] pos) (tD X.K T S ρ (.bl (neg != (kvs.lookup y).isSome))):=ZL (IU h e hk ha neg) (by cases neg<;>rfl)
theorem aAj(h:XC CX X c G T lv){x y:Str}{kvs:List (Str×D)}(e:aW c x=true)(hk:G.dk x=some kvs)(ha:PE X ea (tD X.K T S ρ (.str y)))(neg:Bool):PT X (.Compare ea [SO neg] [.Name x p] pos) (gk X.K T S ρ (neg != (kvs.lookup y).isSome)):=
 PT.mono (YX (IU h e hk ha neg) (by cases neg<;>rfl)) fun σ H Q ⟨re,q⟩=>⟨re,fun v H' sm r=>by
  unfold Rep at r;exact⟨_,r,q H' sm⟩⟩
end
end Z
namespace Z
open PySem PySem.W PyProof.Rows
structure Ord (n:Nat) (lt:Nat→Nat→Bool):Prop where
 tot:∀a b,a<n→b<n→a≠b→lt a b=false→lt b a=true
 asy:∀a b,a<n→b<n→lt a b=true→lt b a=false
 tra:∀a b c,a<n→b<n→c<n→lt a b=true→lt b c=true→lt a c=true
noncomputable def fp(p:Array Nat)(i:Nat):Nat:=p.getD i 0
theorem iW{p q:Array Nat}{i j:Nat}(h:p[i]?=q[j]?):fp p i=fp q j:=by
 unfold fp;rw[getD_eq_getD_getElem?,getD_eq_getD_getElem?,h]
structure Prm (n:Nat) (p:Array Nat):Prop where
 pm:p.toList.Perm (List.range n)
theorem Prm.size{n:Nat}{p:Array Nat}(h:Prm n p):p.size=n:=by
 have:=h.pm.length_eq
 simpa using this
theorem Prm.lt{n:Nat}{p:Array Nat}(h:Prm n p){i:Nat}(hi:i<n):fp p i<n:=by
 have hs:=h.size
 have:p[i]∈p.toList:=by simp
 have:=h.pm.mem_iff.mp this
 unfold fp;rw[getD_eq_getD_getElem?,Array.getElem?_eq_getElem (by lia)]
 simpa using this
theorem Prm.ne{n:Nat}{p:Array Nat}(h:Prm n p){i j:Nat}(hi:i<n)(hj:j<n)(e:i≠j):fp p i≠fp p j:=by
 have hs:=h.size
 have nd:p.toList.Nodup:=h.pm.nodup_iff.mpr List.nodup_range
 unfold fp;rw[getD_eq_getD_getElem?,Array.getElem?_eq_getElem (by lia),getD_eq_getD_getElem?,Array.getElem?_eq_getElem (by lia)]
 simp only[getD_some];intro z;have l1:i<p.toList.length:=by simp;lia
 have l2:j<p.toList.length:=by simp;lia
 exact e ((List.getElem_inj (h₀:=l1) (h₁:=l2) nd).mp (by simpa using z))
theorem Prm.perm{n:Nat}{p q:Array Nat}(h:Prm n p)(k:q.Perm p):Prm n q:=⟨(Array.perm_iff_toList_perm.mp k).trans h.pm⟩
section
variable {n:Nat}{lt:Nat→Nat→Bool}{p:Array Nat}
def nt(lt:Nat→Nat→Bool)(p:Array Nat)(k:Nat):Prop:=∀i j,i<j→j<k→lt (fp p i) (fp p j)=true
theorem lR{k d:Nat}(hk:k<p.size)(hd:d≤k)(i:Nat):fp (bubble p k d) i=if i=k-d then fp p k else if k-d<i∧i≤k then fp p (i-1) else fp p i:=by
 have e:=getElem?_bubble hk d hd i
 by_cases h1:i=k-d
 ·rw[if_pos h1]at e ⊢;exact iW e
 ·rw[if_neg h1]at e ⊢
  by_cases h2:k-d<i∧i≤k
  ·rw[if_pos h2]at e ⊢;exact iW e
  ·rw[if_neg h2]at e ⊢;exact iW e
end
noncomputable def gE:Bool→Keyed→Array Keyed→Nat→Nat→Nat→StateT SortSt Sem (Option Nat):=sortPriv% PySem.Builtin.gallop
noncomputable def vU:Array Keyed→Array Keyed→StateT SortSt Sem (Array Keyed):=sortPriv% PySem.Builtin.mergeLo
noncomputable def vV:Array Keyed→Array Keyed→StateT SortSt Sem (Array Keyed):=sortPriv% PySem.Builtin.mergeHi
section
variable {prog:vk}{w:World}{A:Around}{E:vm}{κ:SortKind}{it:Array Keyed}{n:Nat}{lt:Nat→Nat→Bool}{s:Shared}{α β:Type}
def SK(prog:vk)(w:World)(A:Around)(E:vm)(s:Shared){α:Type}(m:StateT SortSt Sem α)(Q:α→SortSt→Prop)(st:SortSt):Prop:=kasC (model prog w) A E m (fun a ae s'=>s'=s∧Q a ae) st s
theorem aC{m:StateT SortSt Sem α}{f:α→StateT SortSt Sem β}{Q:β→SortSt→Prop}{st:SortSt}(h:SK prog w A E s m (fun a ae=>SK prog w A E s (f a) Q ae) st):SK prog w A E s (m >>= f) Q st:=by
 refine kasC_bind (uj h (fun r s' hr=>?_) fun _ _ e=>e)
 obtain⟨rfl,h⟩:=hr;exact h
theorem bO{m:StateT SortSt Sem α}{Q Q':α→SortSt→Prop}{st:SortSt}(h:SK prog w A E s m Q st)(hq:∀a ae,Q a ae→Q' a ae):SK prog w A E s m Q' st:=uj h (fun r s' hr=>⟨hr.1,hq _ _ hr.2⟩) fun _ _ e=>e
theorem aF{a:α}{Q:α→SortSt→Prop}{st:SortSt}(h:Q a st):SK prog w A E s (pure a) Q st:=kasC_pure ⟨rfl,h⟩
theorem dC{c:Prop}[Decidable c]{a b:StateT SortSt Sem α}{Q:α→SortSt→Prop}{st:SortSt}(hc:c)(h:SK prog w A E s a Q st):SK prog w A E s (if c then a else b) Q st:=by rw[if_pos hc];exact h
theorem dD{c:Prop}[Decidable c]{a b:StateT SortSt Sem α}{Q:α→SortSt→Prop}{st:SortSt}(hc:¬c)(h:SK prog w A E s b Q st):SK prog w A E s (if c then a else b) Q st:=by rw[if_neg hc];exact h
theorem eF{Q:SortSt→SortSt→Prop}{st:SortSt}(h:Q st st):SK prog w A E s get Q st:=kasC_get ⟨rfl,h⟩
theorem bL{f:SortSt→SortSt}{Q:PUnit→SortSt→Prop}{st:SortSt}(h:Q ⟨⟩ (f st)):SK prog w A E s (modify f) Q st:=kasC_modify ⟨rfl,h⟩
theorem YB{x:SortSt}{Q:PUnit→SortSt→Prop}{st:SortSt}(h:Q ⟨⟩ x):SK prog w A E s (set x) Q st:=by
 show SK prog w A E s (modify fun _=>x) Q st
 exact bL h
theorem gX{x:String}{Q:PUnit→SortSt→Prop}{st:SortSt}(h:Q ⟨⟩ st):SK prog w A E s (liftM (rule x):StateT SortSt Sem PUnit) Q st:=kasC_lift (wpAny_rule ⟨rfl,h⟩)
theorem bD{arr:Array Keyed}{i:Nat}{x:Keyed}{Q:Keyed→SortSt→Prop}{st:SortSt}(e:arr[i]?=some x)(h:Q x st):SK prog w A E s (elem' arr i) Q st:=by
 rw[elem'_eq,e];exact aF h
def fx(prog:vk)(w:World)(A:Around)(κ:SortKind)(it:Array Keyed)(n:Nat)(lt:Nat→Nat→Bool)(s:Shared):Prop:=∀i j (C:Bool→Shared→Prop),i<n→j<n→C (lt i j) s→kas_cmp prog w A κ it i j C s
theorem uZ(hc:fx prog w A κ it n lt s){i j:Nat}{Q:Option Bool→SortSt→Prop}{st:SortSt}(hk:kindOf st=κ)(hi:i<n)(hj:j<n)(h:Q (some (lt i j)) st):SK prog w A E s (lt' (kas_item it i) (kas_item it j)) Q st:=by
 unfold SK;rw[lt'_eq];refine kasC_bind (kasC_get ?_);rw[hk];exact kasC_bind (kasC_lift (wpAny_attempt (uj (hc i j (fun c s'=>s'=s∧c=lt i j) hi hj ⟨rfl,rfl⟩) (fun c s' hc=>by obtain⟨rfl,rfl⟩:=hc;exact kasC_pure ⟨rfl,h⟩) fun _ _ hF=>hF.elim)))
abbrev pW(Q I:β→SortSt→Prop)(r:ForInStep β)(st:SortSt):Prop:=match r with
 |.done b=>Q b st
 |.yield b=>I b st
theorem zY{f:Nat→β→StateT SortSt Sem (ForInStep β)}{Q:β→SortSt→Prop}(I:Nat→β→SortSt→Prop)(hf:∀x i b st,I i b st→SK prog w A E s (f x b) (pW Q (I (i+1))) st) :
  ∀(m a i:Nat) (b:β) (st:SortSt),I i b st→(∀b st,I (i+m) b st→Q b st)→SK prog w A E s (forIn (range' a m) b f) Q st
 | 0,a,i,b,st,hI,hQ=>by
  show SK prog w A E s (forIn [] b f) Q st
  exact kasC_nil ⟨rfl,hQ b st hI⟩
 |m+1,a,i,b,st,hI,hQ=>by
  show SK prog w A E s (forIn (a::range' (a+1) m) b f) Q st
  refine kasC_cons (uj (hf a i b st hI) (fun r s' hr=>?_) fun _ _ e=>e)
  obtain⟨r,ae⟩:=r;obtain⟨e,h⟩:=hr;rw[e];cases r with
  |done b'=>exact⟨rfl,h⟩
  |yield b'=>exact zY I hf m (a+1) (i+1) b' ae h fun b st z=>hQ b st (by rwa [Nat.add_assoc,add_comm 1 m]at z)
theorem gZ{a m:Nat}{f:Nat→β→StateT SortSt Sem (ForInStep β)}{Q:β→SortSt→Prop}{b:β}{st:SortSt}(I:Nat→β→SortSt→Prop)(h0:I 0 b st)(hf:∀x i b st,I i b st→SK prog w A E s (f x b) (pW Q (I (i+1))) st)(hQ:∀b st,I (m-a) b st→Q b st):SK prog w A E s (forIn [a:m] b f) Q st:=
 kasC_range (zY I hf (m-a) a 0 b st h0 fun b st h=>hQ b st (by rwa [t8]at h))
theorem fN(hc:fx prog w A κ it n lt s){left:Bool}{key base k hint m:Nat}{q:Nat→Nat}{arr:Array Keyed}{st:SortSt}{Q:Option Nat→SortSt→Prop}(hk:kindOf st=κ)(hkey:key<n)(hq:∀i,i<k→q i<n)(ha:∀i,i<k→arr[base+i]?=some (kas_item it (q i)))
  (hb:∀i,i<k→(if left then lt (q i) key else !lt key (q i))=decide (i<m)) (hm:m≤k) (hh:hint<k) (h:Q (some m) st):SK prog w A E s (gE left (kas_item it key) arr base k hint) Q st:=by
 have bey:∀(i:Nat) (R:Option Bool→SortSt→Prop),i<k→R (some (decide (i<m))) st→SK prog w A E s (do let x ←elem' arr (base+i);if left then lt' x (kas_item it key) else return (←lt' (kas_item it key) x).map (!·)) R st:=fun i R hi hR=>by
  refine aC (bD (ha i hi) ?_);have e:=hb i hi
  cases left with
  |true =>
   rw[if_pos rfl]at e ⊢;exact uZ hc hk (hq i hi) hkey (by rw[e];exact hR)
  |false =>
   rw[if_neg (by decide)]at e ⊢
   exact aC (uZ hc hk hkey (hq i hi) (aF (by show R (some (!lt key (q i))) st;rw[e];exact hR)))
 unfold gE;refine aC (bey hint _ hh ?_);dsimp only;have fin:∀(lo hi:Nat),lo≤m→m≤hi→hi≤k→SK prog w A E s (forIn [:k] ((none,lo,hi):Option (Option Nat)×Nat×Nat) fun x bj =>
   if bj.snd.fst ≥ bj.snd.snd then pure (ForInStep.done (none,bj.snd.fst,bj.snd.snd))
   else do
    let qf ←(do let x ←elem' arr (base+(bj.snd.fst+(bj.snd.snd-bj.snd.fst) / 2));if left then lt' x (kas_item it key) else return (←lt' (kas_item it key) x).map (!·))
    match qf with
     |some more=>if more=true then pure (ForInStep.yield (none,bj.snd.fst+(bj.snd.snd-bj.snd.fst) / 2+1,bj.snd.snd)) else pure (ForInStep.yield (none,bj.snd.fst,bj.snd.fst+(bj.snd.snd-bj.snd.fst) / 2))
     |x=>pure (ForInStep.done (some none,bj.snd.fst,bj.snd.snd))) (fun b ae=>b=(none,m,m)∧ae=st) st:=fun lo hi h1 h2 h3=>by
  refine gZ (fun i b ae=>ae=st∧∃lo hi,b=(none,lo,hi)∧lo≤m∧m≤hi∧hi≤k∧hi+i≤k+lo) ⟨rfl,lo,hi,rfl,h1,h2,h3,by lia⟩ ?_ ?_
  ·rintro x i b ae ⟨rfl,lo,hi,rfl,h1,h2,h3,h4⟩;dsimp only
   by_cases hl:lo ≥ hi
   ·rw[if_pos hl];refine aF ⟨?_,rfl⟩;rw[show lo=m by lia,show hi=m by lia]
   ·rw[if_neg hl];refine aC (bey _ _ (by lia) ?_)
    dsimp only
    by_cases hx:lo+(hi-lo) / 2<m
    ·rw[if_pos (by simpa using hx)]
     exact aF ⟨rfl,_,_,rfl,by lia,h2,h3,by lia⟩
    ·rw[if_neg (by simpa using hx)]
     exact aF ⟨rfl,_,_,rfl,h1,by lia,by lia,by lia⟩
  ·rintro b ae ⟨rfl,lo,hi,rfl,h1,h2,h3,h4⟩;refine⟨?_,rfl⟩;rw[show lo=m by lia,show hi=m by lia]
 by_cases hx:hint<m
 ·rw[if_pos (by simpa using hx)]
  refine aC (bO (gZ (Q:=fun b ae=>ae=st∧∃l o,b=((none,l,o):Option (Option Nat)×Nat×Nat)∧l<o∧hint+l<m∧m≤hint+min o (k-hint)) (fun i b ae=>ae=st∧∃l o,b=(none,l,o)∧l<o∧hint+l<m∧i+1≤o) ⟨rfl,0,1,rfl,by lia,by lia,by lia⟩ ?_ ?_) fun b ae hb=>?_)
  ·rintro x i b ae ⟨rfl,l,o,rfl,h1,h2,h3⟩;dsimp only
   by_cases ho:o ≥ k-hint
   ·rw[if_pos ho];exact aF ⟨rfl,l,o,rfl,h1,h2,by lia⟩
   ·rw[if_neg ho];refine aC (bey _ _ (by lia) ?_)
    dsimp only
    by_cases hy:hint+o<m
    ·rw[if_neg (by simpa using hy)]
     exact aF ⟨rfl,_,_,rfl,by lia,hy,by lia⟩
    ·rw[if_pos (by simpa using hy)]
     exact aF ⟨rfl,l,o,rfl,h1,h2,by lia⟩
  ·rintro b ae ⟨rfl,l,o,rfl,h1,h2,h3⟩;exact⟨rfl,l,o,rfl,h1,h2,by lia⟩
  ·obtain⟨rfl,l,o,rfl,h1,h2,h3⟩:=hb;dsimp only;refine aC (bO (fin (hint+l+1) (hint+min o (k-hint)) (by lia) h3 (by lia)) fun b ae hb=>?_)
   obtain⟨rfl,rfl⟩:=hb;exact aF h
 ·rw[if_neg (by simpa using hx)]
  refine aC (bO (gZ (Q:=fun b ae=>ae=st∧∃l o,b=((none,l,o):Option (Option Nat)×Nat×Nat)∧l<o∧m+l≤hint∧hint+1-min o (hint+1)≤m) (fun i b ae=>ae=st∧∃l o,b=(none,l,o)∧l<o∧m+l≤hint∧i+1≤o) ⟨rfl,0,1,rfl,by lia,by lia,by lia⟩ ?_ ?_) fun b ae hb=>?_)
  ·rintro x i b ae ⟨rfl,l,o,rfl,h1,h2,h3⟩;dsimp only
   by_cases ho:o ≥ hint+1
   ·rw[if_pos ho];exact aF ⟨rfl,l,o,rfl,h1,h2,by lia⟩
   ·rw[if_neg ho];refine aC (bey _ _ (by lia) ?_)
    dsimp only
    by_cases hy:hint-o<m
    ·rw[if_pos (by simpa using hy)]
     exact aF ⟨rfl,l,o,rfl,h1,h2,by lia⟩
    ·rw[if_neg (by simpa using hy)]
     exact aF ⟨rfl,_,_,rfl,by lia,by lia,by lia⟩
  ·rintro b ae ⟨rfl,l,o,rfl,h1,h2,h3⟩;exact⟨rfl,l,o,rfl,h1,h2,by lia⟩
  ·obtain⟨rfl,l,o,rfl,h1,h2,h3⟩:=hb;dsimp only;refine aC (bO (fin (hint+1-min o (hint+1)) (hint-l) h3 (by lia) (by lia)) fun b ae hb=>?_)
   obtain⟨rfl,rfl⟩:=hb;exact aF h
end
section
variable {lt:Nat→Nat→Bool}{it:Array Keyed}{xs ys:List Nat}
abbrev So(lt:Nat→Nat→Bool)(zs:List Nat):Prop:=zs.Pairwise fun i j=>lt i j=true
noncomputable def aK(it:Array Keyed)(zs:List Nat):Array Keyed:=(zs.map (kas_item it)).toArray
theorem aI{zs:List Nat}:(aK it zs).size=zs.length:=by unfold aK;simp
theorem bH{zs:List Nat}{i x:Nat}(h:zs[i]?=some x):(aK it zs)[i]?=some (kas_item it x):=by
 unfold aK;rw[List.getElem?_toArray,qu,h];rfl
theorem lX{zs:List Nat}{x:Nat}:(aK it zs).push (kas_item it x)=aK it (zs++[x]):=by unfold aK;simp
theorem cR{zs us:List Nat}:aK it zs++aK it us=aK it (zs++us):=by unfold aK;simp
theorem dI{zs:List Nat}{i j:Nat}:(aK it zs).extract i j=aK it ((zs.drop i).take (j-i)):=by
 unfold aK;rw[List.extract_toArray,List.extract_eq_take_drop,←List.map_drop,←map_take]
structure MG (lt:Nat→Nat→Bool) (n:Nat) (xs ys:List Nat):Prop where
 o:Ord n lt
 xn:∀x∈xs,x<n
 yn:∀y∈ys,y<n
 sx:So lt xs
 sy:So lt ys
 ne:∀x∈xs,∀y∈ys,x≠y
def MI(lt:Nat→Nat→Bool)(it:Array Keyed)(xs ys:List Nat)(out:Array Keyed)(ia ib:Nat):Prop:=
 ∃zs,out=aK it zs∧zs.Perm (xs.take ia++ys.take ib)∧So lt zs∧∀z∈zs,∀x,x∈xs.drop ia∨x∈ys.drop ib→lt z x=true
def Res(lt:Nat→Nat→Bool)(it:Array Keyed)(xs ys:List Nat)(r:Array Keyed):Prop:=∃zs,r=aK it zs∧zs.Perm (xs++ys)∧So lt zs
variable {n:Nat}
theorem cQ{l:List Nat}{i x:Nat}(h:l[i]?=some x):l.drop i=x::l.drop (i+1):=by
 obtain⟨hi,e⟩:=q8.mp h;rw[List.drop_eq_getElem_cons hi,e]
theorem eO{l:List Nat}{i x:Nat}(h:l[i]?=some x):l.take (i+1)=l.take i++[x]:=by rw[uy,h];rfl
theorem jF{l:List Nat}(h:So lt l){i x:Nat}(hx:l[i]?=some x):∀y∈l.drop (i+1),lt x y=true:=by
 have:=List.Pairwise.drop (i:=i) h
 rw[cQ hx]at this;exact(vf.mp this).1
theorem eW{l m:List Nat}(h1:So lt l)(h2:So lt m)(h:∀a∈l,∀b∈m,lt a b=true):So lt (l++m):=vg.mpr ⟨h1,h2,h⟩
theorem MI.pushB(g:MG lt n xs ys){out:Array Keyed}{ia ib x y:Nat}(h:MI lt it xs ys out ia ib)(hx:xs[ia]?=some x)(hy:ys[ib]?=some y)(hl:lt y x=true):MI lt it xs ys (out.push (kas_item it y)) ia (ib+1):=by
 obtain⟨zs,rfl,hp,hs,hz⟩:=h;have hyd:y∈ys.drop ib:=by rw[cQ hy];exact ur
 refine⟨zs++[y],lX,?_,eW hs (pairwise_singleton _ _) fun a ha b hb=>?_,fun z du v hv=>?_⟩
 ·rw[eO hy,←se];exact hp.append_right [y]
 ·rw[su.mp hb];exact hz a ha y (.inr hyd)
 ·rcases vh.mp du with q|q
  ·exact hz z q v (hv.imp id fun w=>by rw[cQ hy];exact rg _ w)
  ·rw[su.mp q]
   rcases hv with hv|hv
   ·rw[cQ hx]at hv
    rcases sv.mp hv with e|hv
    ·rw[e];exact hl
    ·have xm:=qq hx
     exact g.o.tra _ _ _ (g.yn y (qq hy)) (g.xn x xm) (g.xn v (mem_of_mem_drop hv)) hl (jF g.sx hx v hv)
   ·exact jF g.sy hy v hv
theorem MI.pushA(g:MG lt n xs ys){out:Array Keyed}{ia ib x y:Nat}(h:MI lt it xs ys out ia ib)(hx:xs[ia]?=some x)(hy:ys[ib]?=some y)(hl:lt x y=true):MI lt it xs ys (out.push (kas_item it x)) (ia+1) ib:=by
 obtain⟨zs,rfl,hp,hs,hz⟩:=h;have hxd:x∈xs.drop ia:=by rw[cQ hx];exact ur
 refine⟨zs++[x],lX,?_,eW hs (pairwise_singleton _ _) fun a ha b hb=>?_,fun z du v hv=>?_⟩
 ·rw[eO hx];refine(hp.append_right [x]).trans ?_;rw[se,se];exact List.Perm.append_left _ perm_append_comm
 ·rw[su.mp hb];exact hz a ha x (.inl hxd)
 ·rcases vh.mp du with q|q
  ·exact hz z q v (hv.imp (fun w=>by rw[cQ hx];exact rg _ w) id)
  ·rw[su.mp q]
   rcases hv with hv|hv
   ·exact jF g.sx hx v hv
   ·rw[cQ hy]at hv
    rcases sv.mp hv with e|hv
    ·rw[e];exact hl
    ·exact g.o.tra _ _ _ (g.xn x (qq hx)) (g.yn y (qq hy)) (g.yn v (mem_of_mem_drop hv)) hl (jF g.sy hy v hv)
theorem kQ{zs:List Nat}{i k x:Nat}(h:zs[i+k]?=some x):(aK it zs).extract i (i+(k+1))=((aK it zs).extract i (i+k)).push (kas_item it x):=by
 rw[dI,dI,show i+(k+1)-i=k+1 by lia,show i+k-i=k by lia,uy,getElem?_drop,h,lX]
 rfl
theorem MI.moveA(g:MG lt n xs ys){ia ib y:Nat}(hy:ys[ib]?=some y):∀(k:Nat) {out:Array Keyed},MI lt it xs ys out ia ib→(∀i,i<k→∃x,xs[ia+i]?=some x∧lt x y=true)→MI lt it xs ys (out++(aK it xs).extract ia (ia+k)) (ia+k) ib
 | 0,out,h,_=>by
  rw[dI,show ia+0-ia=0 by lia,take_zero,show aK it []=#[] from rfl,append_empty]
  exact h
 |k+1,out,h,hl=>by
  obtain⟨x,hx,fh⟩:=hl k (uu k);rw[kQ hx,Array.append_push];exact(MI.moveA g hy k h fun i hi=>hl i (by lia)).pushA g hx hy fh
theorem MI.moveB(g:MG lt n xs ys){ia ib x:Nat}(hx:xs[ia]?=some x):∀(k:Nat) {out:Array Keyed},MI lt it xs ys out ia ib→(∀i,i<k→∃y,ys[ib+i]?=some y∧lt y x=true)→MI lt it xs ys (out++(aK it ys).extract ib (ib+k)) ia (ib+k)
 | 0,out,h,_=>by
  rw[dI,show ib+0-ib=0 by lia,take_zero,show aK it []=#[] from rfl,append_empty]
  exact h
 |k+1,out,h,hl=>by
  obtain⟨y,hy,fh⟩:=hl k (uu k);rw[kQ hy,Array.append_push];exact(MI.moveB g hx k h fun i hi=>hl i (by lia)).pushB g hx hy fh
theorem jP{zs:List Nat}{i:Nat}:(aK it zs).extract i (aK it zs).size=aK it (zs.drop i):=by
 rw[dI,aI,List.take_of_length_le (by rw[vd];lia)]
theorem MI.doneB(g:MG lt n xs ys){out:Array Keyed}{ia ib:Nat}(h:MI lt it xs ys out ia ib)(hb:ib=ys.length):Res lt it xs ys (out++(aK it xs).extract ia (aK it xs).size++(aK it ys).extract ib (aK it ys).size):=by
 obtain⟨zs,rfl,hp,hs,hz⟩:=h;subst hb;refine⟨zs++xs.drop ia,by rw[jP,jP,vc,cR,cR,tj],?_,eW hs (List.Pairwise.drop g.sx) fun a ha b hb=>hz a ha b (.inl hb)⟩
 rw[vb]at hp;refine(hp.append_right _).trans ?_;rw[se];refine(List.Perm.append_left _ perm_append_comm).trans ?_;rw[←se,take_append_drop]
theorem MI.doneA(g:MG lt n xs ys){out:Array Keyed}{ia ib:Nat}(h:MI lt it xs ys out ia ib)(ha:ia=xs.length):Res lt it xs ys (out++(aK it xs).extract ia (aK it xs).size++(aK it ys).extract ib (aK it ys).size):=by
 obtain⟨zs,rfl,hp,hs,hz⟩:=h;subst ha;refine⟨zs++ys.drop ib,by rw[jP,jP,vc,cR,cR,tj],?_,eW hs (List.Pairwise.drop g.sy) fun a ha b hb=>hz a ha b (.inr hb)⟩
 rw[vb]at hp;refine(hp.append_right _).trans ?_;rw[se,take_append_drop]
theorem MI.last(g:MG lt n xs ys){out:Array Keyed}{ia ib x:Nat}(h:MI lt it xs ys out ia ib)(ha:ia+1=xs.length)(hx:xs[ia]?=some x)(hl:∀y∈ys,lt y x=true):Res lt it xs ys (out++(aK it ys).extract ib (aK it ys).size++(aK it xs).extract ia (aK it xs).size):=by
 obtain⟨zs,rfl,hp,hs,hz⟩:=h;have e:xs.drop ia=[x]:=by rw[cQ hx,ha,vc]
 refine⟨zs++ys.drop ib++[x],by rw[jP,jP,e,cR,cR],?_,eW (eW hs (List.Pairwise.drop g.sy) fun a ha b hb=>hz a ha b (.inr hb)) (pairwise_singleton _ _) fun a ha b hb=>?_⟩
 ·rw[←e];refine((hp.append_right _).append_right _).trans ?_;rw[se (xs.take ia),take_append_drop,se];refine(List.Perm.append_left _ perm_append_comm).trans ?_;rw[←se,take_append_drop]
 ·rw[su.mp hb]
  rcases vh.mp ha with q|q
  ·exact hz a q x (.inl (by rw[e];exact su.mpr rfl))
  ·exact hl a (mem_of_mem_drop q)
theorem bound:∀(k:Nat) (f:Nat→Bool),(∀i j,i<j→j<k→f j=true→f i=true)→∃m,m≤k∧∀i,i<k→f i=decide (i<m)
 | 0,f,_=>⟨0,qw _,fun i hi=>absurd hi (Nat.not_lt_zero _)⟩
 |k+1,f,h=>by
  obtain⟨m,hm,e⟩:=bound k f fun i j a b=>h i j a (by lia)
  cases hf:f k with
  |false =>
   refine⟨m,by lia,fun i hi=>?_⟩
   by_cases q:i=k
   ·rw[q,hf];exact(qy (by lia)).symm
   ·exact e i (by lia)
  |true =>
   refine⟨k+1,qw _,fun i hi=>?_⟩
   rw[tw hi]
   by_cases q:i=k
   ·rw[q];exact hf
   ·exact h i k (by lia) (by lia) hf
end
section
variable {prog:vk}{w:World}{A:Around}{E:vm}{κ:SortKind}{it:Array Keyed}{n:Nat}{lt:Nat→Nat→Bool}{s:Shared}{xs ys:List Nat}
def SS(st ae:SortSt):Prop:=kindOf ae=kindOf st∧arrOf ae=arrOf st∧pendingOf ae=pendingOf st∧failedOf ae=failedOf st
theorem SS.refl{st:SortSt}:SS st st:=⟨rfl,rfl,rfl,rfl⟩
theorem getD_at{l:List Nat}{i:Nat}(h:i<l.length):l[i]?=some (l.getD i 0):=by
 rw[qt h,q9,qt h];rfl
theorem HG{l:List Nat}(h:So lt l){i j x y:Nat}(hx:l[i]?=some x)(hy:l[j]?=some y)(df:i<j):lt x y=true:=
 jF h hx y (qq (i:=j-(i+1)) (by rw[getElem?_drop];rw[show i+1+(j-(i+1))=j by lia];exact hy))
theorem aFo(g:MG lt n xs ys){ia ib y:Nat}(hy:ys[ib]?=some y):∃m,m≤xs.length-ia∧(∀i,i<xs.length-ia→(!lt y (xs.getD (ia+i) 0))=decide (i<m))∧(∀i,i<m→∃x,xs[ia+i]?=some x∧lt x y=true)∧∀x,xs[ia+m]?=some x→lt y x=true:=by
 have ym:=qq hy
 obtain⟨m,hm,e⟩:=bound (xs.length-ia) (fun i=>!lt y (xs.getD (ia+i) 0)) fun i j df hj h=>by
  have h1:=getD_at (l:=xs) (i:=ia+i) (by lia)
  have h2:=getD_at (l:=xs) (i:=ia+j) (by lia)
  have h3:lt y (xs.getD (ia+j) 0)=false:=by simpa using h
  show (!lt y (xs.getD (ia+i) 0))=true
  cases q:lt y (xs.getD (ia+i) 0) with
  |false=>rfl
  |true =>
   have:=g.o.tra _ _ _ (g.yn y ym) (g.xn _ (qq h1)) (g.xn _ (qq h2)) q (HG g.sx h1 h2 (by lia))
   rw[h3]at this;cases this
 refine⟨m,hm,e,fun i hi=>?_,fun x hx=>?_⟩
 ·have h1:=getD_at (l:=xs) (i:=ia+i) (by lia)
  refine⟨_,h1,?_⟩;have:=e i (by lia)
  rw[tw hi]at this;have xm:=qq h1
  exact g.o.tot _ _ (g.yn y ym) (g.xn _ xm) (fun z=>g.ne _ xm y ym z.symm) (by simpa using this)
 ·have hl:=(q8.mp hx).1
  have:=e m (by lia)
  rw[qy (ug m),getD_at (l:=xs) (i:=ia+m) hl |>.symm.trans hx |> rn]at this
  simpa using this
theorem aFm(g:MG lt n xs ys){ia ib x:Nat}(hx:xs[ia]?=some x):∃m,m≤ys.length-ib∧(∀i,i<ys.length-ib→lt (ys.getD (ib+i) 0) x=decide (i<m))∧(∀i,i<m→∃y,ys[ib+i]?=some y∧lt y x=true)∧∀y,ys[ib+m]?=some y→lt x y=true:=by
 have xm:=qq hx
 obtain⟨m,hm,e⟩:=bound (ys.length-ib) (fun i=>lt (ys.getD (ib+i) 0) x) fun i j df hj h=>by
  have h1:=getD_at (l:=ys) (i:=ib+i) (by lia)
  have h2:=getD_at (l:=ys) (i:=ib+j) (by lia)
  exact g.o.tra _ _ _ (g.yn _ (qq h1)) (g.yn _ (qq h2)) (g.xn x xm) (HG g.sy h1 h2 (by lia)) h
 refine⟨m,hm,e,fun i hi=>?_,fun y hy=>?_⟩
 ·exact⟨_,getD_at (l:=ys) (i:=ib+i) (by lia),by rw[e i (by lia)];exact tw hi⟩
 ·have hl:=(q8.mp hy).1
  have:=e m (by lia)
  rw[qy (ug m),getD_at (l:=ys) (i:=ib+m) hl |>.symm.trans hy |> rn]at this
  have ym:=qq hy
  exact g.o.tot _ _ (g.yn y ym) (g.xn x xm) (fun z=>g.ne x xm y ym z.symm) this
theorem zZ(hc:fx prog w A κ it n lt s)(g:MG lt n xs ys){ia ib y m:Nat}{st:SortSt}{Q:Option Nat→SortSt→Prop}(hk:kindOf st=κ)(hy:ys[ib]?=some y)(hi:ia<xs.length)(hm:m≤xs.length-ia)(e:∀i,i<xs.length-ia→(!lt y (xs.getD (ia+i) 0))=decide (i<m))(h:Q (some m) st) :
  SK prog w A E s (gE false (kas_item it y) (aK it xs) ia ((aK it xs).size-ia) 0) Q st:=by
 rw[aI];exact fN hc (q:=fun i=>xs.getD (ia+i) 0) hk (g.yn y (qq hy)) (fun i hi=>g.xn _ (qq (getD_at (by lia)))) (fun i hi=>bH (getD_at (by lia))) (fun i hi=>e i hi) hm (by lia) h
theorem PF(hc:fx prog w A κ it n lt s)(g:MG lt n xs ys){ia ib x m:Nat}{st:SortSt}{Q:Option Nat→SortSt→Prop}(hk:kindOf st=κ)(hx:xs[ia]?=some x)(hi:ib<ys.length)(hm:m≤ys.length-ib)(e:∀i,i<ys.length-ib→lt (ys.getD (ib+i) 0) x=decide (i<m))(h:Q (some m) st) :
  SK prog w A E s (gE true (kas_item it x) (aK it ys) ib ((aK it ys).size-ib) 0) Q st:=by
 rw[aI];exact fN hc (q:=fun i=>ys.getD (ib+i) 0) hk (g.xn x (qq hx)) (fun i hi=>g.yn _ (qq (getD_at (by lia)))) (fun i hi=>bH (getD_at (by lia))) (fun i hi=>e i hi) hm (by lia) h
def LI(lt:Nat→Nat→Bool)(it:Array Keyed)(xs ys:List Nat)(st:SortSt)(de dc:Nat)(b:Option (Array Keyed)×Array Keyed×Nat×Nat×Nat×Nat×Nat)(ae:SortSt):Prop:=
 SS st ae∧∃av bb ar mg ac bc,b=(none,av,bb,ar,mg,ac,bc)∧MI lt it xs ys av bb ar∧bb+1<xs.length∧ar<ys.length∧de+dc≤bb+ar
def LQ(lt:Nat→Nat→Bool)(it:Array Keyed)(xs ys:List Nat)(st:SortSt)(de dc:Nat)(b:Option (Array Keyed)×Array Keyed×Nat×Nat×Nat×Nat×Nat)(ae:SortSt):Prop:=
 SS st ae∧((∃r rest,b=(some r,rest)∧Res lt it xs ys r)∨∃av bb ar mg ac bc,b=(none,av,bb,ar,mg,ac,bc)∧MI lt it xs ys av bb ar∧bb+1<xs.length∧ar<ys.length∧de+dc≤bb+ar)
theorem LI.mk{st ae:SortSt}{de dc ia ib mg ac bc:Nat}{out:Array Keyed}(s:SS st ae)(m:MI lt it xs ys out ia ib)(ha:ia+1<xs.length)(hb:ib<ys.length)(hr:de+dc≤ia+ib):LI lt it xs ys st de dc (none,out,ia,ib,mg,ac,bc) ae:=⟨s,_,_,_,_,_,_,rfl,m,ha,hb,hr⟩
theorem LI.q{st ae:SortSt}{de dc:Nat}{b:Option (Array Keyed)×Array Keyed×Nat×Nat×Nat×Nat×Nat}(h:LI lt it xs ys st de dc b ae):LQ lt it xs ys st de dc b ae:=⟨h.1,.inr h.2⟩
abbrev loT(it:Array Keyed)(xs ys:List Nat)(out:Array Keyed)(ia ib mg ac bc:Nat):StateT SortSt Sem (ForInStep (Option (Array Keyed)×Array Keyed×Nat×Nat×Nat×Nat×Nat)):=
 elem' (aK it xs) ia >>= fun v=>if (ia+1+1 == (aK it xs).size)=true then pure (ForInStep.done (some (out.push v++(aK it ys).extract ib (aK it ys).size++(aK it xs).extract (ia+1) (aK it xs).size),out.push v,ia+1,ib,mg,ac,bc))
  else if (decide (ac<7)&&decide (bc<7))=true then pure (ForInStep.done (none,out.push v,ia+1,ib,mg,ac,bc)) else pure (ForInStep.yield (none,out.push v,ia+1,ib,mg,ac,bc))
theorem yK(hc:fx prog w A κ it n lt s)(g:MG lt n xs ys){x0 y0 xl:Nat}(j8:xs[0]?=some x0)(j7:ys[0]?=some y0)(h1:lt y0 x0=true)(ow:xs[xs.length-1]?=some xl)(h2:∀y∈ys,lt y xl=true){st:SortSt}(hk:kindOf st=κ){Q:Array Keyed→SortSt→Prop}
  (h:∀r ae,Res lt it xs ys r→SS st ae→Q r ae):SK prog w A E s (vU (aK it xs) (aK it ys)) Q st:=by
 have lx:0<xs.length:=(q8.mp j8).1
 have ly:0<ys.length:=(q8.mp j7).1
 have m1:MI lt it xs ys #[kas_item it y0] 0 1:=MI.pushB g (out:=#[]) (ib:=0) ⟨[],rfl,.refl _,List.Pairwise.nil,fun z hz=>by cases hz⟩ j8 j7 h1
 have dt:∀{out:Array Keyed} {ia ib:Nat},MI lt it xs ys out ia ib→ia+1=xs.length→Res lt it xs ys (out++(aK it ys).extract ib (aK it ys).size++(aK it xs).extract ia (aK it xs).size):=fun {out ia ib} m e=>m.last g e (x:=xl) (by rw[show ia=xs.length-1 by lia];exact ow) h2
 unfold vU;refine aC (gX ?_);refine aC (bD (bH j7) ?_)
 by_cases c1:1=ys.length
 ·refine dC (by rw[aI];simpa using c1) ?_
  exact aF (h _ _ (m1.doneB g c1) SS.refl)
 refine dD (by rw[aI];simpa using c1) ?_
 by_cases c2:0+1=xs.length
 ·refine dC (by rw[aI];simpa using c2) ?_
  exact aF (h _ _ (dt m1 c2) SS.refl)
 refine dD (by rw[aI];simpa using c2) ?_
 refine aC (eF ?_);refine aC (bO (gZ (Q:=fun b ae=>SS st ae∧∃r rest,b=(some r,rest)∧Res lt it xs ys r) (fun i b ae=>SS st ae∧∃out ia ib mg,b=(none,out,ia,ib,mg)∧MI lt it xs ys out ia ib∧ia+1<xs.length∧ib<ys.length∧i+1≤ia+ib) ⟨SS.refl,_,_,_,_,rfl,m1,by lia,by lia,by lia⟩ ?_ ?_) ?_)
 ·rintro _ i b gz ⟨s1,out,ia,ib,mg,rfl,m,ha,hb,hr⟩;refine aC (bO (gZ (Q:=fun b ae=>SS st ae∧((∃r rest,b=(some r,rest)∧Res lt it xs ys r)∨∃av bb ar ac bc,b=(none,av,bb,ar,ac,bc)∧MI lt it xs ys av bb ar∧bb+1<xs.length∧ar<ys.length∧ia+ib+1≤bb+ar))
   (fun j b ae=>SS st ae∧∃av bb ar ac bc,b=(none,av,bb,ar,ac,bc)∧MI lt it xs ys av bb ar∧bb+1<xs.length∧ar<ys.length∧ia+ib+j≤bb+ar) ⟨s1,_,_,_,_,_,rfl,m,ha,hb,by(try dsimp only);lia⟩ ?_ ?_) ?_)
  ·rintro _ j b gy ⟨s2,out,bb,ar,ac,bc,rfl,m,cz,dg,fi⟩;clear lx ly c1 c2 ha hb hr;have hx:=getD_at (l:=xs) (i:=bb) (by lia)
   have hy:=getD_at (l:=ys) (i:=ar) dg
   generalize xs.getD bb 0=x at hx;generalize ys.getD ar 0=y at hy;have xm:=qq hx
   have ym:=qq hy
   refine aC (bD (bH hy) (aC (bD (bH hx) (aC (uZ hc (s2.1.trans hk) (g.yn y ym) (g.xn x xm) ?_)))))
   by_cases hl:lt y x=true
   ·refine dC hl ?_;refine aC (bD (bH hy) ?_);have m':=m.pushB g hx hy hl
    by_cases e:ar+1=ys.length
    ·refine dC (by rw[aI];simpa using e) ?_
     exact aF ⟨s2,.inl ⟨_,_,rfl,m'.doneB g e⟩⟩
    ·refine dD (by rw[aI];simpa using e) ?_
     split
     ·exact aF ⟨s2,.inr ⟨_,_,_,_,_,rfl,m',cz,by(try dsimp only);lia,by(try dsimp only);lia⟩⟩
     ·exact aF ⟨s2,_,_,_,_,_,rfl,m',cz,by(try dsimp only);lia,by(try dsimp only);lia⟩
   ·refine dD hl ?_;have hl':lt x y=true:=g.o.tot _ _ (g.yn y ym) (g.xn x xm) (fun z=>g.ne x xm y ym z.symm) (by simpa using hl)
    refine aC (bD (bH hx) ?_);have m':=m.pushA g hx hy hl'
    by_cases e:bb+1+1=xs.length
    ·refine dC (by rw[aI];simpa using e) ?_
     exact aF ⟨s2,.inl ⟨_,_,rfl,dt m' e⟩⟩
    ·refine dD (by rw[aI];simpa using e) ?_
     split
     ·exact aF ⟨s2,.inr ⟨_,_,_,_,_,rfl,m',by(try dsimp only);lia,dg,by(try dsimp only);lia⟩⟩
     ·exact aF ⟨s2,_,_,_,_,_,rfl,m',by(try dsimp only);lia,dg,by(try dsimp only);lia⟩
  ·rintro b gy ⟨s2,out,bb,ar,ac,bc,rfl,m,cz,dg,fi⟩;rw[aI,aI]at fi;exact⟨s2,.inr ⟨_,_,_,_,_,rfl,m,cz,dg,by lia⟩⟩
  ·rintro b gy ⟨s2,⟨r,rest,rfl,hR⟩|⟨out,de,dc,ac,bc,rfl,m,pq,pk,hr1⟩⟩
   ·exact aF ⟨s2,_,_,rfl,hR⟩
   refine aC (gX ?_);refine aC (bO (gZ (Q:=LQ lt it xs ys st de dc) (fun _=>LI lt it xs ys st de dc) ⟨s2,_,_,_,_,_,_,rfl,m,pq,pk,qw _⟩ ?_ ?_) ?_)
   ·rintro _ j b jk ⟨s3,out,bb,ar,f7,ac',i0,rfl,m,cz,dg,fi⟩;clear lx ly c1 c2 ha hb hr pq pk hr1;have hy:=getD_at (l:=ys) (i:=ar) dg
    generalize ys.getD ar 0=y at hy;obtain⟨k,k1,k2,k3,k4⟩:=aFo g (ia:=bb) hy;have mA:=m.moveA g hy k k3
    have pT:∀(fe:SortSt) (s4:SS st fe) (out:Array Keyed) (ia ib mg ac bc x y:Nat),MI lt it xs ys out ia ib→ia+1<xs.length→xs[ia]?=some x→ys[ib]?=some y→lt x y=true→de+dc≤ia+ib →
      SK prog w A E s (loT it xs ys out ia ib mg ac bc)
       (pW (LQ lt it xs ys st de dc) (LI lt it xs ys st de dc)) fe:=fun fe s4 out ia ib mg ac bc x y m hi hx hy hl hr=>by
     unfold loT;refine aC (bD (bH hx) ?_);have m2:=m.pushA g hx hy hl
     have hj:=(q8.mp hy).1
     by_cases e5:ia+1+1=xs.length
     ·exact dC (by rw[aI];simpa using e5) (aF ⟨s4,.inl ⟨_,_,rfl,dt m2 e5⟩⟩)
     refine dD (by rw[aI];simpa using e5) ?_
     have L:=LI.mk (mg:=mg) (ac:=ac) (bc:=bc) s4 m2 (by lia) hj (by lia:de+dc≤ia+1+ib)
     by_cases e6:(decide (ac<7)&&decide (bc<7))=true
     ·exact dC e6 (aF L.q)
     ·exact dD e6 (aF L)
    have bz:∀(fe:SortSt) (s4:SS st fe) (out:Array Keyed) (ia mg ac bc x:Nat),MI lt it xs ys out ia ar→ia+1<xs.length→xs[ia]?=some x→lt y x=true→de+dc≤ia+ar →
      SK prog w A E s (elem' (aK it ys) ar >>= fun v=>if (ar+1 == (aK it ys).size)=true then pure (ForInStep.done (some (out.push v++(aK it xs).extract ia (aK it xs).size++(aK it ys).extract (ar+1) (aK it ys).size),out.push v,ia,ar+1,mg,ac,bc))
       else elem' (aK it xs) ia >>= fun x=>gE true x (aK it ys) (ar+1) ((aK it ys).size-(ar+1)) 0 >>= fun r=>match r with
        |some k=>if k > 0 then(if (ar+1+k == (aK it ys).size)=true then pure (ForInStep.done (some (out.push v++(aK it ys).extract (ar+1) (ar+1+k)++(aK it xs).extract ia (aK it xs).size++(aK it ys).extract (ar+1+k) (aK it ys).size),out.push v++(aK it ys).extract (ar+1) (ar+1+k),ia,ar+1+k,mg,ac,k))
          else loT it xs ys (out.push v++(aK it ys).extract (ar+1) (ar+1+k)) ia (ar+1+k) mg ac k)
          else loT it xs ys (out.push v) ia (ar+1) mg ac k
        |_=>pure (ForInStep.done (some (out.push v++(aK it xs).extract ia (aK it xs).size++(aK it ys).extract (ar+1) (aK it ys).size),out.push v,ia,ar+1,mg,ac,bc)))
       (pW (LQ lt it xs ys st de dc) (LI lt it xs ys st de dc)) fe:=fun fe s4 out ia mg ac bc x m hi hx hl hr=>by
     refine aC (bD (bH hy) ?_);have m':=m.pushB g hx hy hl
     by_cases e3:ar+1=ys.length
     ·exact dC (by rw[aI];simpa using e3) (aF ⟨s4,.inl ⟨_,_,rfl,m'.doneB g e3⟩⟩)
     refine dD (by rw[aI];simpa using e3) ?_
     refine aC (bD (bH hx) ?_);obtain⟨j2,j1',j2',j3',ot⟩:=aFm g (ib:=ar+1) hx;refine aC (PF hc g (s4.1.trans hk) hx (by lia) j1' j2' ?_)
     have mB:=m'.moveB g hx j2 j3'
     by_cases o6:j2 > 0
     ·refine dC o6 ?_
      by_cases e4:ar+1+j2=ys.length
      ·exact dC (by rw[aI];simpa using e4) (aF ⟨s4,.inl ⟨_,_,rfl,mB.doneB g e4⟩⟩)
      refine dD (by rw[aI];simpa using e4) ?_
      have f9:=getD_at (l:=ys) (i:=ar+1+j2) (by lia)
      exact pT _ s4 _ _ _ _ _ _ _ _ mB hi hx f9 (ot _ f9) (by lia)
     ·refine dD o6 ?_;have j0:j2=0:=by lia
      have f9:=getD_at (l:=ys) (i:=ar+1) (by lia)
      exact pT _ s4 _ _ _ _ _ _ _ _ m' hi hx f9 (ot _ (by rw[j0];exact f9)) (by lia)
    by_cases iq:f7 > 1
    ·refine dC iq ?_;refine aC (bL ?_);refine aC (bD (bH hy) ?_);refine aC (zZ hc g (s3.1.trans hk) hy (by(try dsimp only);lia) k1 k2 ?_)
     by_cases fj:k > 0
     ·refine dC fj ?_
      by_cases e1:bb+k+1=xs.length
      ·exact dC (by rw[aI];simpa using e1) (aF ⟨s3,.inl ⟨_,_,rfl,dt mA e1⟩⟩)
      refine dD (by rw[aI];simpa using e1) ?_
      by_cases e2:bb+k=xs.length
      ·exact dC (by rw[aI];simpa using e2) (aF ⟨s3,.inl ⟨_,_,rfl,mA.doneA g e2⟩⟩)
      refine dD (by rw[aI];simpa using e2) ?_
      have hx:=getD_at (l:=xs) (i:=bb+k) (by lia)
      refine bz _ ?_ _ (bb+k) (f7-1) k i0 _ mA (by lia) hx (k4 _ hx) (by lia)
      exact s3
     ·refine dD fj ?_;have kz:k=0:=by lia
      have hx:=getD_at (l:=xs) (i:=bb) (by lia)
      refine bz _ ?_ _ bb (f7-1) k i0 _ m cz hx (k4 _ (by rw[kz];exact hx)) fi
      exact s3
    ·refine dD iq ?_;refine aC (bL ?_);refine aC (bD (bH hy) ?_);refine aC (zZ hc g (s3.1.trans hk) hy (by(try dsimp only);lia) k1 k2 ?_)
     by_cases fj:k > 0
     ·refine dC fj ?_
      by_cases e1:bb+k+1=xs.length
      ·exact dC (by rw[aI];simpa using e1) (aF ⟨s3,.inl ⟨_,_,rfl,dt mA e1⟩⟩)
      refine dD (by rw[aI];simpa using e1) ?_
      by_cases e2:bb+k=xs.length
      ·exact dC (by rw[aI];simpa using e2) (aF ⟨s3,.inl ⟨_,_,rfl,mA.doneA g e2⟩⟩)
      refine dD (by rw[aI];simpa using e2) ?_
      have hx:=getD_at (l:=xs) (i:=bb+k) (by lia)
      refine bz _ ?_ _ (bb+k) f7 k i0 _ mA (by lia) hx (k4 _ hx) (by lia)
      exact s3
     ·refine dD fj ?_;have kz:k=0:=by lia
      have hx:=getD_at (l:=xs) (i:=bb) (by lia)
      refine bz _ ?_ _ bb f7 k i0 _ m cz hx (k4 _ (by rw[kz];exact hx)) fi
      exact s3
   ·rintro b jk ⟨s3,out,bb,ar,f7,ac',i0,rfl,m,cz,dg,fi⟩;exact⟨s3,.inr ⟨_,_,_,_,_,_,rfl,m,cz,dg,fi⟩⟩
   ·rintro b jk ⟨s3,⟨r,rest,rfl,hR⟩|⟨out,ia2,ib2,mg2,ac2,bc2,rfl,m,ma,l9,hr2⟩⟩
    ·exact aF ⟨s3,_,_,rfl,hR⟩
    ·dsimp only;refine aC (bL ?_);exact aF ⟨s3,_,_,_,_,rfl,m,ma,l9,by lia⟩
 ·rintro b gz ⟨s1,out,ia,ib,mg,rfl,m,ha,hb,hr⟩;rw[aI,aI]at hr;lia
 ·rintro b gz ⟨s1,r,rest,rfl,hR⟩;exact aF (h _ _ hR s1)
end
section
variable {lt:Nat→Nat→Bool}{it:Array Keyed}{xs ys:List Nat}{n:Nat}
def MH(lt:Nat→Nat→Bool)(it:Array Keyed)(xs ys:List Nat)(out:Array Keyed)(na nb:Nat):Prop:=
 ∃zs,out=(aK it zs).reverse∧zs.Perm (xs.drop na++ys.drop nb)∧So lt zs∧∀z∈zs,∀v,v∈xs.take na∨v∈ys.take nb→lt v z=true
theorem vF{zs:List Nat}{x:Nat}:(aK it zs).reverse.push (kas_item it x)=(aK it (x::zs)).reverse:=by unfold aK;simp
theorem kH{l:List Nat}(h:So lt l){i x:Nat}(hx:l[i]?=some x):∀y∈l.take i,lt y x=true:=by
 intro y hy;have:=List.Pairwise.take (i:=i+1) h
 rw[eO hx]at this;exact(vg.mp this).2.2 y hy x (su.mpr rfl)
theorem MH.pushA(g:MG lt n xs ys){out:Array Keyed}{na nb x y:Nat}(h:MH lt it xs ys out (na+1) (nb+1))(hx:xs[na]?=some x)(hy:ys[nb]?=some y)(hl:lt y x=true):MH lt it xs ys (out.push (kas_item it x)) na (nb+1):=by
 obtain⟨zs,rfl,hp,hs,hz⟩:=h;refine⟨x::zs,vF,?_,vf.mpr ⟨fun z du=>hz z du x (.inl (by rw[eO hx];simp)),hs⟩,fun z du v hv=>?_⟩
 ·rw[cQ hx];exact hp.cons x
 ·rcases sv.mp du with e|du
  ·rw[e]
   rcases hv with hv|hv
   ·exact kH g.sx hx v hv
   ·rw[eO hy]at hv
    rcases vh.mp hv with hv|hv
    ·exact g.o.tra _ _ _ (g.yn v (mem_of_mem_take hv)) (g.yn y (qq hy)) (g.xn x (qq hx)) (kH g.sy hy v hv) hl
    ·rw[su.mp hv];exact hl
  ·exact hz z du v (hv.imp (fun q=>by rw[eO hx];exact uf _ q) id)
theorem MH.pushB(g:MG lt n xs ys){out:Array Keyed}{na nb x y:Nat}(h:MH lt it xs ys out (na+1) (nb+1))(hx:xs[na]?=some x)(hy:ys[nb]?=some y)(hl:lt x y=true):MH lt it xs ys (out.push (kas_item it y)) (na+1) nb:=by
 obtain⟨zs,rfl,hp,hs,hz⟩:=h;refine⟨y::zs,vF,?_,vf.mpr ⟨fun z du=>hz z du y (.inr (by rw[eO hy];simp)),hs⟩,fun z du v hv=>?_⟩
 ·rw[cQ hy];exact(hp.cons y).trans (List.perm_middle).symm
 ·rcases sv.mp du with e|du
  ·rw[e]
   rcases hv with hv|hv
   ·rw[eO hx]at hv
    rcases vh.mp hv with hv|hv
    ·exact g.o.tra _ _ _ (g.xn v (mem_of_mem_take hv)) (g.xn x (qq hx)) (g.yn y (qq hy)) (kH g.sx hx v hv) hl
    ·rw[su.mp hv];exact hl
   ·exact kH g.sy hy v hv
  ·exact hz z du v (hv.imp id fun q=>by rw[eO hy];exact uf _ q)
theorem DM{out e:Array Keyed}{v:Keyed}:out++(e.push v).reverse=out.push v++e.reverse:=by
 apply Array.toList_inj.mp;simp
theorem MH.moveA(g:MG lt n xs ys){na nb y:Nat}(hy:ys[nb]?=some y):∀(k:Nat) {out:Array Keyed},MH lt it xs ys out (na+k) (nb+1)→(∀i,i<k→∃x,xs[na+i]?=some x∧lt y x=true)→MH lt it xs ys (out++((aK it xs).extract na (na+k)).reverse) na (nb+1)
 | 0,out,h,_=>by
  rw[dI,show na+0-na=0 by lia,take_zero,show (aK it []).reverse=#[] from rfl,append_empty]
  exact h
 |k+1,out,h,hl=>by
  obtain⟨x,hx,fh⟩:=hl k (uu k);rw[kQ hx,DM];exact MH.moveA g hy k (MH.pushA g h hx hy fh) fun i hi=>hl i (by lia)
theorem MH.moveB(g:MG lt n xs ys){na nb x:Nat}(hx:xs[na]?=some x):∀(k:Nat) {out:Array Keyed},MH lt it xs ys out (na+1) (nb+k)→(∀i,i<k→∃y,ys[nb+i]?=some y∧lt x y=true)→MH lt it xs ys (out++((aK it ys).extract nb (nb+k)).reverse) (na+1) nb
 | 0,out,h,_=>by
  rw[dI,show nb+0-nb=0 by lia,take_zero,show (aK it []).reverse=#[] from rfl,append_empty]
  exact h
 |k+1,out,h,hl=>by
  obtain⟨y,hy,fh⟩:=hl k (uu k);rw[kQ hy,DM];exact MH.moveB g hx k (MH.pushB g h hx hy fh) fun i hi=>hl i (by lia)
theorem qQ{zs:List Nat}{i:Nat}:(aK it zs).extract 0 i=aK it (zs.take i):=by rw[dI,drop_zero,Nat.sub_zero]
theorem MH.doneA(g:MG lt n xs ys){out:Array Keyed}{nb:Nat}(h:MH lt it xs ys out 0 nb):Res lt it xs ys ((aK it xs).extract 0 0++(aK it ys).extract 0 nb++out.reverse):=by
 obtain⟨zs,rfl,hp,hs,hz⟩:=h;refine⟨ys.take nb++zs,by rw[qQ,qQ,Array.reverse_reverse,cR,cR,take_zero,nil_append],?_,eW (List.Pairwise.take g.sy) hs fun a ha b hb=>hz b hb a (.inr ha)⟩
 refine(hp.append_left _).trans ?_;rw[drop_zero];refine perm_append_comm.trans ?_;rw[se];refine List.Perm.append_left _ (perm_append_comm.trans ?_);rw[take_append_drop]
theorem MH.doneB(g:MG lt n xs ys){out:Array Keyed}{na:Nat}(h:MH lt it xs ys out na 0):Res lt it xs ys ((aK it xs).extract 0 na++(aK it ys).extract 0 0++out.reverse):=by
 obtain⟨zs,rfl,hp,hs,hz⟩:=h;refine⟨xs.take na++zs,by rw[qQ,qQ,Array.reverse_reverse,cR,cR,take_zero,tj],?_,eW (List.Pairwise.take g.sx) hs fun a ha b hb=>hz b hb a (.inl ha)⟩
 refine(hp.append_left _).trans ?_;rw[drop_zero,←se,take_append_drop]
theorem MH.first(g:MG lt n xs ys){out:Array Keyed}{na y:Nat}(h:MH lt it xs ys out na 1)(hy:ys[0]?=some y)(hl:∀x∈xs,lt y x=true):Res lt it xs ys ((aK it ys).extract 0 1++(aK it xs).extract 0 na++out.reverse):=by
 obtain⟨zs,rfl,hp,hs,hz⟩:=h;have e:ys.take 1=[y]:=by rw[eO hy];rfl
 refine⟨[y]++xs.take na++zs,by rw[qQ,qQ,Array.reverse_reverse,cR,cR,e],?_,eW (eW (pairwise_singleton _ _) (List.Pairwise.take g.sx) fun a ha b hb=>?_) hs fun a ha b hb=>?_⟩
 ·refine(hp.append_left _).trans ?_;rw[se,←se (xs.take na),take_append_drop];refine perm_append_comm.trans ?_;rw[se];refine List.Perm.append_left _ (perm_append_comm.trans ?_);rw[←e,take_append_drop]
 ·rw[su.mp ha];exact hl b (mem_of_mem_take hb)
 ·rcases vh.mp ha with q|q
  ·exact hz b hb a (.inr (by rw[e];exact q))
  ·exact hz b hb a (.inl q)
theorem aFn(g:MG lt n xs ys){na nb y:Nat}(hn:na≤xs.length)(hy:ys[nb]?=some y):∃m,m≤na∧(∀i,i<na→(!lt y (xs.getD (0+i) 0))=decide (i<m))∧(∀i,i<na-m→∃x,xs[m+i]?=some x∧lt y x=true)∧∀i x,i+1=m→xs[i]?=some x→lt x y=true:=by
 obtain⟨m,m1,m2,m3,m4⟩:=aFo g (ia:=0) hy;have ym:=qq hy
 refine⟨min m na,min_le_right _ _,fun i hi=>?_,fun i hi=>?_,fun i x hi hx=>?_⟩
 ·rw[m2 i (by lia)]
  exact decide_eq_decide.mpr (by lia)
 ·have h1:=getD_at (l:=xs) (i:=min m na+i) (by lia)
  refine⟨_,h1,?_⟩;have:=m2 (min m na+i) (by lia)
  rw[qy (by lia),t8]at this
  simpa using this
 ·obtain⟨x',dw,hl⟩:=m3 i (by lia)
  rw[t8,hx]at dw;cases dw;exact hl
theorem aFl(g:MG lt n xs ys){na nb x:Nat}(hn:nb≤ys.length)(hx:xs[na]?=some x):∃m,m≤nb∧(∀i,i<nb→lt (ys.getD (0+i) 0) x=decide (i<m))∧(∀i,i<nb-m→∃y,ys[m+i]?=some y∧lt x y=true)∧∀i y,i+1=m→ys[i]?=some y→lt y x=true:=by
 obtain⟨m,m1,m2,m3,m4⟩:=aFm g (ib:=0) hx;have xm:=qq hx
 refine⟨min m nb,min_le_right _ _,fun i hi=>?_,fun i hi=>?_,fun i y hi hy=>?_⟩
 ·rw[m2 i (by lia)]
  exact decide_eq_decide.mpr (by lia)
 ·have h1:=getD_at (l:=ys) (i:=min m nb+i) (by lia)
  refine⟨_,h1,?_⟩;have:=m2 (min m nb+i) (by lia)
  rw[qy (by lia),t8]at this
  have ym:=qq h1
  exact g.o.tot _ _ (g.yn _ ym) (g.xn x xm) (fun z=>g.ne x xm _ ym z.symm) this
 ·obtain⟨y',bY,hl⟩:=m3 i (by lia)
  rw[t8,hy]at bY;cases bY;exact hl
end
section
variable {prog:vk}{w:World}{A:Around}{E:vm}{κ:SortKind}{it:Array Keyed}{n:Nat}{lt:Nat→Nat→Bool}{s:Shared}{xs ys:List Nat}
theorem vC(hc:fx prog w A κ it n lt s)(g:MG lt n xs ys){na nb y m:Nat}{st:SortSt}{Q:Option Nat→SortSt→Prop}(hk:kindOf st=κ)(hy:ys[nb]?=some y)(hi:0<na)(hn:na≤xs.length)(hm:m≤na)(e:∀i,i<na→(!lt y (xs.getD (0+i) 0))=decide (i<m))(h:Q (some m) st) :
  SK prog w A E s (gE false (kas_item it y) (aK it xs) 0 na (na-1)) Q st:=
 fN hc (q:=fun i=>xs.getD (0+i) 0) hk (g.yn y (qq hy)) (fun i hi=>g.xn _ (qq (getD_at (by lia)))) (fun i hi=>bH (getD_at (by lia))) (fun i hi=>e i hi) hm (by lia) h
theorem HL(hc:fx prog w A κ it n lt s)(g:MG lt n xs ys){na nb x m:Nat}{st:SortSt}{Q:Option Nat→SortSt→Prop}(hk:kindOf st=κ)(hx:xs[na]?=some x)(hi:0<nb)(hn:nb≤ys.length)(hm:m≤nb)(e:∀i,i<nb→lt (ys.getD (0+i) 0) x=decide (i<m))(h:Q (some m) st) :
  SK prog w A E s (gE true (kas_item it x) (aK it ys) 0 nb (nb-1)) Q st:=
 fN hc (q:=fun i=>ys.getD (0+i) 0) hk (g.xn x (qq hx)) (fun i hi=>g.yn _ (qq (getD_at (by lia)))) (fun i hi=>bH (getD_at (by lia))) (fun i hi=>e i hi) hm (by lia) h
end
end Z
set_option maxHeartbeats 2000000
namespace Z
open PySem PySem.W PyProof.Rows
section
variable {prog:vk}{w:World}{A:Around}{E:vm}{κ:SortKind}{it:Array Keyed}{n:Nat}{lt:Nat→Nat→Bool}{s:Shared}{xs ys:List Nat}
theorem MH.doneA'(g:MG lt n xs ys){out:Array Keyed}{na nb:Nat}(h:MH lt it xs ys out na nb)(e:na=0):Res lt it xs ys ((aK it xs).extract 0 na++(aK it ys).extract 0 nb++out.reverse):=by
 subst e;exact h.doneA g
theorem MH.doneB'(g:MG lt n xs ys){out:Array Keyed}{na nb:Nat}(h:MH lt it xs ys out na nb)(e:nb=0):Res lt it xs ys ((aK it xs).extract 0 na++(aK it ys).extract 0 nb++out.reverse):=by
 subst e;exact h.doneB g
theorem MH.cast{out:Array Keyed}{na nb aq ai:Nat}(h:MH lt it xs ys out na nb)(e1:na=aq)(e2:nb=ai):MH lt it xs ys out aq ai:=by
 subst e1 e2;exact h
def HI(lt:Nat→Nat→Bool)(it:Array Keyed)(xs ys:List Nat)(st:SortSt)(c9 b9:Nat)(b:Option (Array Keyed)×Nat×Nat×Array Keyed×Nat×Nat×Nat)(ae:SortSt):Prop:=
 SS st ae∧∃aq ai av mg ac bc,b=(none,aq,ai,av,mg,ac,bc)∧MH lt it xs ys av aq ai∧0<aq∧1<ai∧aq≤xs.length∧ai≤ys.length∧aq+ai≤c9+b9
def HQ(lt:Nat→Nat→Bool)(it:Array Keyed)(xs ys:List Nat)(st:SortSt)(c9 b9:Nat)(b:Option (Array Keyed)×Nat×Nat×Array Keyed×Nat×Nat×Nat)(ae:SortSt):Prop:=
 SS st ae∧((∃r rest,b=(some r,rest)∧Res lt it xs ys r)∨∃aq ai av mg ac bc,b=(none,aq,ai,av,mg,ac,bc)∧MH lt it xs ys av aq ai∧0<aq∧1<ai∧aq≤xs.length∧ai≤ys.length∧aq+ai≤c9+b9)
theorem HI.mk{st ae:SortSt}{c9 b9 na nb mg ac bc:Nat}{out:Array Keyed}(s:SS st ae)(m:MH lt it xs ys out na nb)(h1:0<na)(h2:1<nb)(h3:na≤xs.length)(h4:nb≤ys.length)(hr:na+nb≤c9+b9):HI lt it xs ys st c9 b9 (none,na,nb,out,mg,ac,bc) ae:=⟨s,_,_,_,_,_,_,rfl,m,h1,h2,h3,h4,hr⟩
theorem HI.q{st ae:SortSt}{c9 b9:Nat}{b:Option (Array Keyed)×Nat×Nat×Array Keyed×Nat×Nat×Nat}(h:HI lt it xs ys st c9 b9 b ae):HQ lt it xs ys st c9 b9 b ae:=⟨h.1,.inr h.2⟩
abbrev hiE(it:Array Keyed)(xs ys:List Nat)(out:Array Keyed)(na nb:Nat):Array Keyed:=(aK it xs).extract 0 na++(aK it ys).extract 0 nb++out.reverse
abbrev hiF(it:Array Keyed)(xs ys:List Nat)(out:Array Keyed)(na nb:Nat):Array Keyed:=(aK it ys).extract 0 nb++(aK it xs).extract 0 na++out.reverse
abbrev hiT(it:Array Keyed)(xs ys:List Nat)(out:Array Keyed)(na nb mg ac bc:Nat):StateT SortSt Sem (ForInStep (Option (Array Keyed)×Nat×Nat×Array Keyed×Nat×Nat×Nat)):=
 elem' (aK it xs) (na-1) >>= fun v=>if (na-1 == 0)=true then pure (ForInStep.done (some (hiE it xs ys (out.push v) (na-1) nb),na-1,nb,out.push v,mg,ac,bc))
  else if (decide (ac<7)&&decide (bc<7))=true then pure (ForInStep.done (none,na-1,nb,out.push v,mg,ac,bc)) else pure (ForInStep.yield (none,na-1,nb,out.push v,mg,ac,bc))
theorem yL(hc:fx prog w A κ it n lt s)(g:MG lt n xs ys){x0 y0 xl:Nat}(j8:xs[0]?=some x0)(j7:ys[0]?=some y0)(h1:lt y0 x0=true)(ow:xs[xs.length-1]?=some xl)(h2:∀y∈ys,lt y xl=true){st:SortSt}(hk:kindOf st=κ){Q:Array Keyed→SortSt→Prop}
  (h:∀r ae,Res lt it xs ys r→SS st ae→Q r ae):SK prog w A E s (vV (aK it xs) (aK it ys)) Q st:=by
 have lx:0<xs.length:=(q8.mp j8).1
 have ly:0<ys.length:=(q8.mp j7).1
 have sza:(aK it xs).size=xs.length:=aI
 have szb:(aK it ys).size=ys.length:=aI
 have hy0x:∀x∈xs,lt y0 x=true:=fun x hx=>by
  have:xs=x0::xs.drop 1:=by rw[←cQ j8,drop_zero]
  rw[this]at hx
  rcases sv.mp hx with e|hx
  ·rw[e];exact h1
  ·exact g.o.tra _ _ _ (g.yn y0 (qq j7)) (g.xn x0 (qq j8)) (g.xn x (mem_of_mem_drop hx)) h1 (jF g.sx j8 x hx)
 have m1:MH lt it xs ys #[kas_item it xl] (xs.length-1) ys.length:=by
  refine⟨[xl],rfl,?_,pairwise_singleton _ _,fun z hz v hv=>?_⟩
  ·rw[cQ ow,show xs.length-1+1=xs.length by lia,vc,vc]
   exact List.Perm.refl _
  ·rw[su.mp hz]
   rcases hv with hv|hv
   ·exact kH g.sx ow v hv
   ·rw[vb]at hv;exact h2 v hv
 have first:∀{out:Array Keyed} {na nb:Nat},MH lt it xs ys out na nb→nb=1→Res lt it xs ys ((aK it ys).extract 0 nb++(aK it xs).extract 0 na++out.reverse):=fun {out na nb} m e=>by
  subst e;exact m.first g j7 hy0x
 unfold vV;refine aC (gX ?_);refine aC (bD (bH (by rw[aI];exact ow)) ?_)
 by_cases c1:xs.length-1=0
 ·refine dC (by rw[aI];simpa using c1) ?_
  refine aF (h _ _ ?_ SS.refl);rw[aI,aI];exact m1.doneA' g c1
 refine dD (by rw[aI];simpa using c1) ?_
 by_cases c2:ys.length=1
 ·refine dC (by rw[aI];simpa using c2) ?_
  refine aF (h _ _ ?_ SS.refl);rw[aI,aI];exact first m1 c2
 refine dD (by rw[aI];simpa using c2) ?_
 refine aC (eF ?_);refine aC (bO (gZ (Q:=fun b ae=>SS st ae∧∃r rest,b=(some r,rest)∧Res lt it xs ys r) (fun i b ae=>SS st ae∧∃na nb out mg,b=(none,na,nb,out,mg)∧MH lt it xs ys out na nb∧0<na∧na≤xs.length∧1<nb∧nb≤ys.length∧na+nb+i+1≤xs.length+ys.length) ⟨SS.refl,_,_,_,_,rfl,m1.cast (by rw[aI]) (by rw[aI]),by lia,by lia,by lia,by lia,by lia⟩ ?_ ?_) ?_)
 ·rintro _ i b gz ⟨s1,na,nb,out,mg,rfl,m,ha,ma,hb,l9,hr⟩;refine aC (bO (gZ (Q:=fun b ae=>SS st ae∧((∃r rest,b=(some r,rest)∧Res lt it xs ys r)∨∃aq ai av ac bc,b=(none,aq,ai,av,ac,bc)∧MH lt it xs ys av aq ai∧0<aq∧1<ai∧aq≤xs.length∧ai≤ys.length∧aq+ai+1≤na+nb))
   (fun j b ae=>SS st ae∧∃aq ai av ac bc,b=(none,aq,ai,av,ac,bc)∧MH lt it xs ys av aq ai∧0<aq∧1<ai∧aq≤xs.length∧ai≤ys.length∧aq+ai+j≤na+nb) ⟨s1,_,_,_,_,_,rfl,m,ha,hb,ma,l9,by(try dsimp only);lia⟩ ?_ ?_) ?_)
  ·rintro _ j b gy ⟨s2,aq,ai,out,ac,bc,rfl,m,cz,dg,cf,ft,fi⟩;clear sza szb lx ly c1 c2 ha ma hb l9 hr;have hx:=getD_at (l:=xs) (i:=aq-1) (by lia)
   have hy:=getD_at (l:=ys) (i:=ai-1) (by lia)
   generalize xs.getD (aq-1) 0=x at hx;generalize ys.getD (ai-1) 0=y at hy;have xm:=qq hx
   have ym:=qq hy
   have mm:=m.cast (show aq=aq-1+1 by lia) (show ai=ai-1+1 by lia)
   refine aC (bD (bH hy) (aC (bD (bH hx) (aC (uZ hc (s2.1.trans hk) (g.yn y ym) (g.xn x xm) ?_)))))
   by_cases hl:lt y x=true
   ·refine dC hl ?_;refine aC (bD (bH hx) ?_);have m':=(mm.pushA g hx hy hl).cast rfl (show ai-1+1=ai by lia)
    by_cases e:aq-1=0
    ·refine dC (by simpa using e) ?_
     exact aF ⟨s2,.inl ⟨_,_,rfl,m'.doneA' g e⟩⟩
    ·refine dD (by simpa using e) ?_
     split
     ·exact aF ⟨s2,.inr ⟨_,_,_,_,_,rfl,m',by(try dsimp only);lia,dg,by(try dsimp only);lia,ft,by(try dsimp only);lia⟩⟩
     ·exact aF ⟨s2,_,_,_,_,_,rfl,m',by(try dsimp only);lia,dg,by(try dsimp only);lia,ft,by(try dsimp only);lia⟩
   ·refine dD hl ?_;have hl':lt x y=true:=g.o.tot _ _ (g.yn y ym) (g.xn x xm) (fun z=>g.ne x xm y ym z.symm) (by simpa using hl)
    refine aC (bD (bH hy) ?_);have m':=(mm.pushB g hx hy hl').cast (show aq-1+1=aq by lia) rfl
    by_cases e:ai-1=1
    ·refine dC (by simpa using e) ?_
     exact aF ⟨s2,.inl ⟨_,_,rfl,first m' e⟩⟩
    ·refine dD (by simpa using e) ?_
     split
     ·exact aF ⟨s2,.inr ⟨_,_,_,_,_,rfl,m',cz,by(try dsimp only);lia,cf,by(try dsimp only);lia,by(try dsimp only);lia⟩⟩
     ·exact aF ⟨s2,_,_,_,_,_,rfl,m',cz,by(try dsimp only);lia,cf,by(try dsimp only);lia,by(try dsimp only);lia⟩
  ·rintro b gy ⟨s2,aq,ai,out,ac,bc,rfl,m,cz,dg,cf,ft,fi⟩;rw[aI,aI]at fi;exact⟨s2,.inr ⟨_,_,_,_,_,rfl,m,cz,dg,cf,ft,by lia⟩⟩
  ·rintro b gy ⟨s2,⟨r,rest,rfl,hR⟩|⟨c9,b9,out,ac,bc,rfl,m,pq,pk,ha21,hb21,hr1⟩⟩
   ·exact aF ⟨s2,_,_,rfl,hR⟩
   refine aC (gX ?_);refine aC (bO (gZ (Q:=HQ lt it xs ys st c9 b9) (fun _=>HI lt it xs ys st c9 b9) ⟨s2,_,_,_,_,_,_,rfl,m,pq,pk,ha21,hb21,qw _⟩ ?_ ?_) ?_)
   ·rintro _ j b jk ⟨s3,aq,ai,out,f7,ac',i0,rfl,m,cz,dg,cf,ft,fi⟩;clear sza szb lx ly c1 c2 ha ma hb l9 hr pq pk ha21 hb21 hr1;have hy:=getD_at (l:=ys) (i:=ai-1) (by lia)
    generalize ys.getD (ai-1) 0=y at hy;obtain⟨k,k1,k2,k3,k4⟩:=aFn g (na:=aq) cf hy;have mA:MH lt it xs ys (out++((aK it xs).extract k aq).reverse) k (ai-1+1):=by
     have:=MH.moveA g (na:=k) hy (aq-k) (m.cast (show aq=k+(aq-k) by lia) (show ai=ai-1+1 by lia)) k3
     rw[show k+(aq-k)=aq by lia]at this
     exact this
    have pT:∀(fe:SortSt) (s4:SS st fe) (out:Array Keyed) (na nb mg ac bc x y:Nat),MH lt it xs ys out na nb→0<na→1<nb→na≤xs.length→nb≤ys.length→xs[na-1]?=some x→ys[nb-1]?=some y→lt y x=true→na+nb≤c9+b9 →
      SK prog w A E s (hiT it xs ys out na nb mg ac bc) (pW (HQ lt it xs ys st c9 b9) (HI lt it xs ys st c9 b9)) fe:=fun fe s4 out na nb mg ac bc x y m n1 n2 n3 n4 hx hy hl hr=>by
     unfold hiT;refine aC (bD (bH hx) ?_);have m2:=((m.cast (show na=na-1+1 by lia) (show nb=nb-1+1 by lia)).pushA g hx hy hl).cast rfl (show nb-1+1=nb by lia)
     by_cases e5:na-1=0
     ·exact dC (by simpa using e5) (aF ⟨s4,.inl ⟨_,_,rfl,m2.doneA' g e5⟩⟩)
     refine dD (by simpa using e5) ?_
     have L:=HI.mk (mg:=mg) (ac:=ac) (bc:=bc) s4 m2 (Nat.pos_of_ne_zero e5) n2 (by lia) n4 (by lia:na-1+nb≤c9+b9)
     by_cases e6:(decide (ac<7)&&decide (bc<7))=true
     ·exact dC e6 (aF L.q)
     ·exact dD e6 (aF L)
    have bz:∀(fe:SortSt) (s4:SS st fe) (out:Array Keyed) (na mg ac bc x:Nat),MH lt it xs ys out na ai→0<na→na≤xs.length→xs[na-1]?=some x→lt x y=true→na+ai≤c9+b9 →
      SK prog w A E s (elem' (aK it ys) (ai-1) >>= fun v=>if (ai-1 == 1)=true then pure (ForInStep.done (some (hiF it xs ys (out.push v) na (ai-1)),na,ai-1,out.push v,mg,ac,bc))
       else elem' (aK it xs) (na-1) >>= fun x=>gE true x (aK it ys) 0 (ai-1) (ai-1-1) >>= fun r=>match r with
        |some k=>if ai-1-k > 0 then(if (k == 1)=true then pure (ForInStep.done (some (hiF it xs ys (out.push v++((aK it ys).extract k (ai-1)).reverse) na k),na,k,out.push v++((aK it ys).extract k (ai-1)).reverse,mg,ac,ai-1-k))
          else if (k == 0)=true then pure (ForInStep.done (some (hiE it xs ys (out.push v++((aK it ys).extract k (ai-1)).reverse) na k),na,k,out.push v++((aK it ys).extract k (ai-1)).reverse,mg,ac,ai-1-k))
          else hiT it xs ys (out.push v++((aK it ys).extract k (ai-1)).reverse) na k mg ac (ai-1-k))
          else hiT it xs ys (out.push v) na (ai-1) mg ac (ai-1-k)
        |_=>pure (ForInStep.done (some (hiE it xs ys (out.push v) na (ai-1)),na,ai-1,out.push v,mg,ac,bc)))
       (pW (HQ lt it xs ys st c9 b9) (HI lt it xs ys st c9 b9)) fe:=fun fe s4 out na mg ac bc x m n1 n3 hx hl hr=>by
     refine aC (bD (bH hy) ?_);have m':=((m.cast (show na=na-1+1 by lia) (show ai=ai-1+1 by lia)).pushB g hx hy hl)
     have mc:=m'.cast (show na-1+1=na by lia) rfl
     by_cases e3:ai-1=1
     ·exact dC (by simpa using e3) (aF ⟨s4,.inl ⟨_,_,rfl,first mc e3⟩⟩)
     refine dD (by simpa using e3) ?_
     refine aC (bD (bH hx) ?_);obtain⟨j2,j1',j2',j3',ot⟩:=aFl g (nb:=ai-1) (by lia) hx
     refine aC (HL hc g (s4.1.trans hk) hx (by lia) (by lia) j1' j2' ?_)
     have mB:=MH.moveB g (nb:=j2) hx (ai-1-j2) (m'.cast rfl (show ai-1=j2+(ai-1-j2) by lia)) j3'
     rw[show j2+(ai-1-j2)=ai-1 by lia]at mB
     have mb:=mB.cast (show na-1+1=na by lia) rfl
     by_cases o6:ai-1-j2 > 0
     ·refine dC o6 ?_
      by_cases e4:j2=1
      ·exact dC (by simpa using e4) (aF ⟨s4,.inl ⟨_,_,rfl,first mb e4⟩⟩)
      refine dD (by simpa using e4) ?_
      by_cases e6:j2=0
      ·exact dC (by simpa using e6) (aF ⟨s4,.inl ⟨_,_,rfl,mb.doneB' g e6⟩⟩)
      refine dD (by simpa using e6) ?_
      have f9:=getD_at (l:=ys) (i:=j2-1) (by lia)
      exact pT _ s4 _ _ _ _ _ _ _ _ mb n1 (by lia) n3 (by lia) hx f9 (ot (j2-1) _ (by lia) f9) (by lia)
     ·refine dD o6 ?_;have f9:=getD_at (l:=ys) (i:=ai-1-1) (by lia)
      exact pT _ s4 _ _ _ _ _ _ _ _ mc n1 (by lia) n3 (by lia) hx f9 (ot (ai-1-1) _ (by lia) f9) (by lia)
    by_cases iq:f7 > 1
    ·refine dC iq ?_;refine aC (bL ?_);refine aC (bD (bH hy) ?_);refine aC (vC hc g (s3.1.trans hk) hy cz cf k1 k2 ?_)
     by_cases fj:aq-k > 0
     ·refine dC fj ?_
      by_cases e1:k=0
      ·exact dC (by simpa using e1) (aF ⟨s3,.inl ⟨_,_,rfl,(mA.cast rfl (show ai-1+1=ai by lia)).doneA' g e1⟩⟩)
      refine dD (by simpa using e1) ?_
      have hx:=getD_at (l:=xs) (i:=k-1) (by lia)
      refine bz _ ?_ _ k (f7-1) (aq-k) i0 _ (mA.cast rfl (show ai-1+1=ai by lia)) (by lia) (by lia) hx (k4 (k-1) _ (by lia) hx) (by lia)
      exact s3
     ·refine dD fj ?_;have hx:=getD_at (l:=xs) (i:=aq-1) (by lia)
      refine bz _ ?_ _ aq (f7-1) (aq-k) i0 _ m cz cf hx (k4 (aq-1) _ (by lia) hx) fi
      exact s3
    ·refine dD iq ?_;refine aC (bL ?_);refine aC (bD (bH hy) ?_);refine aC (vC hc g (s3.1.trans hk) hy cz cf k1 k2 ?_)
     by_cases fj:aq-k > 0
     ·refine dC fj ?_
      by_cases e1:k=0
      ·exact dC (by simpa using e1) (aF ⟨s3,.inl ⟨_,_,rfl,(mA.cast rfl (show ai-1+1=ai by lia)).doneA' g e1⟩⟩)
      refine dD (by simpa using e1) ?_
      have hx:=getD_at (l:=xs) (i:=k-1) (by lia)
      refine bz _ ?_ _ k (f7) (aq-k) i0 _ (mA.cast rfl (show ai-1+1=ai by lia)) (by lia) (by lia) hx (k4 (k-1) _ (by lia) hx) (by lia)
      exact s3
     ·refine dD fj ?_;have hx:=getD_at (l:=xs) (i:=aq-1) (by lia)
      refine bz _ ?_ _ aq (f7) (aq-k) i0 _ m cz cf hx (k4 (aq-1) _ (by lia) hx) fi
      exact s3
   ·rintro b jk ⟨s3,aq,ai,out,f7,ac',i0,rfl,m,cz,dg,cf,ft,fi⟩;exact⟨s3,.inr ⟨_,_,_,_,_,_,rfl,m,cz,dg,cf,ft,fi⟩⟩
   ·rintro b jk ⟨s3,⟨r,rest,rfl,hR⟩|⟨na2,nb2,out,mg2,ac2,bc2,rfl,m,ha3,hb3,ha4,hb4,hr2⟩⟩
    ·exact aF ⟨s3,_,_,rfl,hR⟩
    ·dsimp only;refine aC (bL ?_);exact aF ⟨s3,_,_,_,_,rfl,m,ha3,ha4,hb3,hb4,by lia⟩
 ·rintro b gz ⟨s1,na,nb,out,mg,rfl,m,ha,ma,hb,l9,hr⟩;rw[aI,aI]at hr;lia
 ·rintro b gz ⟨s1,r,rest,rfl,hR⟩;exact aF (h _ _ hR s1)
end
section
variable {prog:vk}{w:World}{A:Around}{E:vm}{κ:SortKind}{it:Array Keyed}{n:Nat}{lt:Nat→Nat→Bool}{s:Shared}{P:Array (Nat×Nat×Nat)}{p:Array Nat}
theorem vA{β:Type}{f:Nat→β→StateT SortSt Sem (ForInStep β)}{Q:β→SortSt→Prop}{N:Nat}(I:Nat→β→SortSt→Prop)(hf:∀x i b st,i<N→I i b st→SK prog w A E s (f x b) (fun r ae=>match r with | .done b'=>Q b' ae | .yield b'=>I (i+1) b' ae) st) :
  ∀(m a i:Nat) (b:β) (st:SortSt),i+m=N→I i b st→(∀b st,I N b st→Q b st)→SK prog w A E s (forIn (range' a m) b f) Q st
 | 0,a,i,b,st,hN,hI,hQ=>by
  show SK prog w A E s (forIn [] b f) Q st
  exact kasC_nil ⟨rfl,hQ b st (by rw[←hN];exact hI)⟩
 |m+1,a,i,b,st,hN,hI,hQ=>by
  show SK prog w A E s (forIn (a::range' (a+1) m) b f) Q st
  refine kasC_cons (uj (hf a i b st (by lia) hI) (fun r s' hr=>?_) fun _ _ e=>e)
  obtain⟨r,ae⟩:=r;obtain⟨e,h⟩:=hr;rw[e];cases r with
  |done b'=>exact⟨rfl,h⟩
  |yield b'=>exact vA I hf m (a+1) (i+1) b' ae (by lia) h hQ
theorem gY{β:Type}{a m:Nat}{f:Nat→β→StateT SortSt Sem (ForInStep β)}{Q:β→SortSt→Prop}{b:β}{st:SortSt}(I:Nat→β→SortSt→Prop)(h0:I 0 b st)(hf:∀x i b st,i<m-a→I i b st→SK prog w A E s (f x b) (fun r ae=>match r with | .done b'=>Q b' ae | .yield b'=>I (i+1) b' ae) st)(hQ:∀b st,I (m-a) b st→Q b st):SK prog w A E s (forIn [a:m] b f) Q st:=
 kasC_range (vA I hf (m-a) a 0 b st (by lia) h0 hQ)
theorem vB{β:Type}{f:Nat→β→StateT SortSt Sem (ForInStep β)}{Q:β→SortSt→Prop}{N:Nat}(I:Nat→β→SortSt→Prop)(hf:∀x b st,x<N→I x b st→SK prog w A E s (f x b) (fun r ae=>match r with | .done b'=>Q b' ae | .yield b'=>I (x+1) b' ae) st) :
  ∀(m a:Nat) (b:β) (st:SortSt),a+m=N→I a b st→(∀b st,I N b st→Q b st)→SK prog w A E s (forIn (range' a m) b f) Q st
 | 0,a,b,st,hN,hI,hQ=>by
  show SK prog w A E s (forIn [] b f) Q st
  exact kasC_nil ⟨rfl,hQ b st (by rw[←hN];exact hI)⟩
 |m+1,a,b,st,hN,hI,hQ=>by
  show SK prog w A E s (forIn (a::range' (a+1) m) b f) Q st
  refine kasC_cons (uj (hf a b st (by lia) hI) (fun r s' hr=>?_) fun _ _ e=>e)
  obtain⟨r,ae⟩:=r;obtain⟨e,h⟩:=hr;rw[e];cases r with
  |done b'=>exact⟨rfl,h⟩
  |yield b'=>exact vB I hf m (a+1) b' ae (by lia) h hQ
theorem PH{β:Type}{a m:Nat}{f:Nat→β→StateT SortSt Sem (ForInStep β)}{Q:β→SortSt→Prop}{b:β}{st:SortSt}(I:Nat→β→SortSt→Prop)(h0:I a b st)(hf:∀x b st,x<max a m→I x b st→SK prog w A E s (f x b) (fun r ae=>match r with | .done b'=>Q b' ae | .yield b'=>I (x+1) b' ae) st)(hQ:∀b st,I (max a m) b st→Q b st):SK prog w A E s (forIn [a:m] b f) Q st:=
 kasC_range (vB I hf (m-a) a b st (by lia) h0 hQ)
noncomputable def ts(κ:SortKind)(it:Array Keyed)(P:Array (Nat×Nat×Nat))(p:Array Nat):SortSt:=SortSt.mk' κ (p.map (kas_item it)) P 7 none
theorem pR(a:Prm n p){i:Nat}(hi:i<n):(p.map (kas_item it))[i]?=some (kas_item it (fp p i)):=by
 have hs:=a.size
 rw[Array.getElem?_map];unfold fp;rw[getD_eq_getD_getElem?,Array.getElem?_eq_getElem (by lia)];rfl
theorem kI(hc:fx prog w A κ it n lt s)(a:Prm n p){i j:Nat}{Q:Option Bool→SortSt→Prop}(hi:i<n)(hj:j<n)(h:Q (some (lt (fp p i) (fp p j))) (ts κ it P p)):SK prog w A E s (ltAt' i j) Q (ts κ it P p):=by
 rw[ltAt'_eq];refine aC (eF ?_);show SK prog w A E s (do let x ←elem' (p.map (kas_item it)) i;let y ←elem' (p.map (kas_item it)) j;lt' x y) Q (ts κ it P p)
 exact aC (bD (pR a hi) (aC (bD (pR a hj) (uZ hc rfl (a.lt hi) (a.lt hj) h))))
theorem YC{i j:Nat}{Q:Unit→SortSt→Prop}(h:Q () (ts κ it P (kas_rev p i j))):SK prog w A E s (reverseSlice' i j) Q (ts κ it P p):=by
 rw[reverseSlice'_eq];refine bL ?_;have e1:mirror (p.map (kas_item it)) i j ((j-i) / 2)=(mirror p i j ((j-i) / 2)).map (kas_item it):=kas_swaps_map (kas_item it) (fun k=>i+k) (fun k=>j-1-k) _ p
 show Q () (SortSt.mk' κ (mirror (p.map (kas_item it)) i j ((j-i) / 2)) P 7 none)
 rw[e1];exact h
theorem PD{k l:Nat}{Q:Unit→SortSt→Prop}(h:Q () (ts κ it P (bubble p k (k-l)))):SK prog w A E s (moveDown' k l) Q (ts κ it P p):=by
 rw[moveDown'_eq];refine bL ?_;have e1:bubble (p.map (kas_item it)) k (k-l)=(bubble p k (k-l)).map (kas_item it):=kas_swaps_map (kas_item it) (fun i=>k-i) (fun i=>k-i-1) _ p
 show Q () (SortSt.mk' κ (bubble (p.map (kas_item it)) k (k-l)) P 7 none)
 rw[e1];exact h
def bu(lt:Nat→Nat→Bool)(p:Array Nat)(a b:Nat):Prop:=∀i j,a≤i→i<j→j<b→lt (fp p i) (fp p j)=true
def qo(lt:Nat→Nat→Bool)(p:Array Nat)(a b:Nat):Prop:=∀i j,a≤i→i<j→j<b→lt (fp p j) (fp p i)=true
theorem sP{i j:Nat}(hj:j≤p.size)(k:Nat):fp (kas_rev p i j) k=if i≤k∧k<j then fp p (i+j-1-k) else fp p k:=by
 have e:=getElem?_mirror_all (i:=i) hj k
 unfold kas_rev
 by_cases h:i≤k∧k<j
 ·rw[if_pos h];rw[if_pos h]at e;exact iW e
 ·rw[if_neg h];rw[if_neg h]at e;exact iW e
theorem KN(o:Ord n lt)(a:Prm n p){lo m:Nat}(hm:lo+m<n)(h1:1≤m)(h:bu lt p lo (lo+m))(hs:lt (fp p (lo+m-1)) (fp p (lo+m))=true):bu lt p lo (lo+(m+1)):=fun i j hi df hj=>by
 by_cases e:j=lo+m
 ·rw[e]
  by_cases e':i=lo+m-1
  ·rw[e'];exact hs
  ·exact o.tra _ _ _ (a.lt (by lia)) (a.lt (by lia)) (a.lt (by lia)) (h i (lo+m-1) hi (by lia) (by lia)) hs
 ·exact h i j hi df (by lia)
theorem LZ(o:Ord n lt)(a:Prm n p){lo m:Nat}(hm:lo+m<n)(h1:1≤m)(h:qo lt p lo (lo+m))(hs:lt (fp p (lo+m)) (fp p (lo+m-1))=true):qo lt p lo (lo+(m+1)):=fun i j hi df hj=>by
 by_cases e:j=lo+m
 ·rw[e]
  by_cases e':i=lo+m-1
  ·rw[e'];exact hs
  ·exact o.tra _ _ _ (a.lt (by lia)) (a.lt (by lia)) (a.lt (by lia)) hs (h i (lo+m-1) hi (by lia) (by lia))
 ·exact h i j hi df (by lia)
theorem MU(hc:fx prog w A κ it n lt s)(o:Ord n lt)(a:Prm n p){lo b8 m0:Nat}(h1:1≤m0)(hle:m0≤b8)(hn:lo+b8≤n)(hi:bu lt p lo (lo+m0)) :
  SK prog w A E s (forIn [m0:b8] ((none,m0):Option (Option Nat)×Nat) fun x bj=>do
    let qf ←ltAt' (lo+bj.snd) (lo+bj.snd-1)
    match qf with
     |some smaller=>if smaller=true then pure (ForInStep.done (none,bj.snd)) else pure (ForInStep.yield (none,bj.snd+1))
     |x=>pure (ForInStep.done (some none,bj.snd))) (fun b st=>st=ts κ it P p∧∃m,b=(none,m)∧m0≤m∧m≤b8∧bu lt p lo (lo+m)∧(m<b8→lt (fp p (lo+m)) (fp p (lo+m-1))=true)) (ts κ it P p):=by
 refine gY (fun i b st=>st=ts κ it P p∧b=(none,m0+i)∧bu lt p lo (lo+(m0+i))) ⟨rfl,rfl,hi⟩ ?_ ?_
 ·rintro x i b st d7 ⟨rfl,rfl,h⟩;dsimp only;have l1:lo+(m0+i)<n:=by lia
  have l2:lo+(m0+i)-1<n:=by lia
  refine aC (kI hc a l1 l2 ?_);dsimp only
  by_cases c:lt (fp p (lo+(m0+i))) (fp p (lo+(m0+i)-1))=true
  ·rw[if_pos c];exact aF ⟨rfl,_,rfl,by lia,by lia,h,fun _=>c⟩
  ·rw[if_neg c];exact aF ⟨rfl,rfl,KN (m:=m0+i) o a l1 (by lia) h (o.tot _ _ (a.lt l1) (a.lt l2) (a.ne l1 l2 (show lo+(m0+i)≠lo+(m0+i)-1 by lia)) (by simpa using c))⟩
 ·rintro b st ⟨rfl,rfl,h⟩;exact⟨rfl,_,rfl,by lia,by lia,h,fun z=>by lia⟩
theorem xA(hc:fx prog w A κ it n lt s)(o:Ord n lt)(a:Prm n p){lo b8:Nat}(h1:1≤b8)(hn:lo+b8≤n){Q:Option Nat→SortSt→Prop}(h:∀m p',Prm n p'→1≤m→m≤b8→(∀i,i<lo→fp p' i=fp p i)→bu lt p' lo (lo+m)→Q (some m) (ts κ it P p')):SK prog w A E s (countRun' lo b8) Q (ts κ it P p):=by
 have sz:=a.size
 unfold countRun';refine aC (bO (MU hc o a (qw 1) h1 hn fun i j _ _ _=>by lia) ?_)
 rintro b st ⟨rfl,m,rfl,g1,g2,g3,g4⟩;dsimp only
 by_cases e1:(m == b8)=true
 ·rw[if_pos e1];exact aF (h m p a g1 g2 (fun _ _=>rfl) g3)
 rw[if_neg e1];have e1':m≠b8:=fun z=>e1 (by rw[z];exact beq_self_eq_true _)
 by_cases e2:m > 1
 ·rw[if_pos e2];refine aC (kI hc a (by lia) (by lia) ?_)
  dsimp only;rw[if_pos (g3 lo (lo+m-1) (qw _) (by lia) (by lia))]
  exact aF (h m p a g1 g2 (fun _ _=>rfl) g3)
 rw[if_neg e2];have em:m=1:=by lia
 subst em;refine aC (gX ?_);have d2:qo lt p lo (lo+2):=fun i j hi df hj=>by
  rw[show i=lo by lia,show j=lo+1 by lia]
  exact g4 (by lia)
 refine aC (bO (gY (Q:=fun b st=>st=ts κ it P p∧∃m,b=((none,m,0):Option (Option Nat)×Nat×Nat)∧2≤m∧m≤b8∧qo lt p lo (lo+m)) (fun i b st=>st=ts κ it P p∧b=(none,1+1+i,0)∧qo lt p lo (lo+(1+1+i))) ⟨rfl,rfl,d2⟩ ?_ ?_) ?_)
 ·rintro x i b st d7 ⟨rfl,rfl,d⟩;dsimp only;have l1:lo+(1+1+i)<n:=by lia
  have l2:lo+(1+1+i)-1<n:=by lia
  refine aC (kI hc a l1 l2 ?_);dsimp only
  by_cases c:lt (fp p (lo+(1+1+i))) (fp p (lo+(1+1+i)-1))=true
  ·rw[if_pos c,if_neg (by lia)]
   exact aF ⟨rfl,rfl,LZ (m:=1+1+i) o a l1 (by lia) d c⟩
  ·rw[if_neg c];refine aC (kI hc a l2 l1 ?_);dsimp only;rw[if_pos (o.tot _ _ (a.lt l1) (a.lt l2) (a.ne l1 l2 (by lia)) (by simpa using c))]
   exact aF ⟨rfl,_,rfl,by lia,by lia,d⟩
 ·rintro b st ⟨rfl,rfl,d⟩;exact⟨rfl,_,rfl,by lia,by lia,d⟩
 ·rintro b st ⟨rfl,m,rfl,k1,k2,d⟩;dsimp only;rw[if_neg (by lia)]
  refine aC (YC ?_);have hj:lo+m≤p.size:=by lia
  have a':Prm n (kas_rev p lo (lo+m)):=a.perm (mirror_perm _ _ _ _)
  have i':bu lt (kas_rev p lo (lo+m)) lo (lo+m):=fun i j hi df hj'=>by
   rw[sP hj,sP hj,if_pos ⟨by lia,by lia⟩,if_pos ⟨by lia,hj'⟩]
   exact d _ _ (by lia) (by lia) (by lia)
  refine aC (bO (MU hc o a' (by lia) k2 hn i') ?_)
  rintro b st ⟨rfl,m',rfl,q1,q2,q3,q4⟩;exact aF (h m' _ a' (by lia) q2 (fun i hi=>by rw[sP hj,if_neg (by lia)]) q3)
theorem II(hc:fx prog w A κ it n lt s)(o:Ord n lt)(a:Prm n p){lo k:Nat}(hk:lo+k<n)(h:bu lt p lo (lo+k)) :
  SK prog w A E s (forIn [0:k] ((none,0,k):Option Bool×Nat×Nat) fun x bj =>
   if bj.snd.fst ≥ bj.snd.snd then pure (ForInStep.done (none,bj.snd.fst,bj.snd.snd))
   else do
    let qf ←ltAt' (lo+k) (lo+(bj.snd.fst+bj.snd.snd) / 2)
    match qf with
     |some less=>if less=true then pure (ForInStep.yield (none,bj.snd.fst,(bj.snd.fst+bj.snd.snd) / 2)) else pure (ForInStep.yield (none,(bj.snd.fst+bj.snd.snd) / 2+1,bj.snd.snd))
     |x=>pure (ForInStep.done (some false,bj.snd.fst,bj.snd.snd))) (fun b st=>st=ts κ it P p∧∃l r,b=(none,l,r)∧l≤k∧(∀i,i<l→lt (fp p (lo+i)) (fp p (lo+k))=true)∧(∀i,l≤i→i<k→lt (fp p (lo+k)) (fp p (lo+i))=true)) (ts κ it P p):=by
 refine gY (fun t b st=>st=ts κ it P p∧∃l r,b=(none,l,r)∧l≤r∧r≤k∧r+t≤k+l∧(∀i,i<l→lt (fp p (lo+i)) (fp p (lo+k))=true)∧(∀i,r≤i→i<k→lt (fp p (lo+k)) (fp p (lo+i))=true)) ⟨rfl,_,_,rfl,by lia,by lia,by lia,fun i hi=>by lia,fun i h1 h2=>by lia⟩ ?_ ?_
 ·rintro x t b st ht ⟨rfl,l,r,rfl,h1,h2,h3,h4,h5⟩;clear ht;dsimp only
  by_cases c:l ≥ r
  ·rw[if_pos c];exact aF ⟨rfl,_,_,rfl,by lia,h4,fun i z1 z2=>h5 i (by lia) z2⟩
  ·rw[if_neg c];have l2:lo+(l+r) / 2<n:=by lia
   refine aC (kI hc a hk l2 ?_);dsimp only
   by_cases d:lt (fp p (lo+k)) (fp p (lo+(l+r) / 2))=true
   ·rw[if_pos d];refine aF ⟨rfl,_,_,rfl,by lia,by lia,by lia,h4,fun i z1 z2=>?_⟩
    by_cases e:i=(l+r) / 2
    ·rw[e];exact d
    ·exact o.tra _ _ _ (a.lt hk) (a.lt l2) (a.lt (by lia)) d (h _ _ (by lia) (by lia) (by lia))
   ·rw[if_neg d];have d':=o.tot _ _ (a.lt hk) (a.lt l2) (a.ne hk l2 (by lia)) (by simpa using d)
    refine aF ⟨rfl,_,_,rfl,by lia,by lia,by lia,fun i z1=>?_,h5⟩
    by_cases e:i=(l+r) / 2
    ·rw[e];exact d'
    ·exact o.tra _ _ _ (a.lt (by lia)) (a.lt l2) (a.lt hk) (h _ _ (by lia) (by lia) (by lia)) d'
 ·rintro b st ⟨rfl,l,r,rfl,h1,h2,h3,h4,h5⟩;exact⟨rfl,_,_,rfl,by lia,h4,fun i z1 z2=>h5 i (by lia) z2⟩
theorem MM(hc:fx prog w A κ it n lt s)(o:Ord n lt)(a:Prm n p){lo m ok:Nat}(h1:1≤ok)(hm:ok≤m)(hn:lo+m≤n)(hi:bu lt p lo (lo+ok)){Q:Bool→SortSt→Prop}(h:∀p',Prm n p'→(∀i,i<lo→fp p' i=fp p i)→bu lt p' lo (lo+m)→Q true (ts κ it P p')):SK prog w A E s (binarySort' lo m ok) Q (ts κ it P p):=by
 rw[binarySort'_eq,Nat.max_eq_left h1];refine aC (bO (PH (Q:=fun b st=>b=((none,()):Option Bool×Unit)∧∃p',st=ts κ it P p'∧Prm n p'∧(∀i,i<lo→fp p' i=fp p i)∧bu lt p' lo (lo+m)) (fun k b st=>b=(none,())∧∃p',st=ts κ it P p'∧Prm n p'∧(∀i,i<lo→fp p' i=fp p i)∧bu lt p' lo (lo+k)) ⟨rfl,p,rfl,a,fun _ _=>rfl,hi⟩ ?_ ?_) ?_)
 ·rintro k b st hk ⟨rfl,p',rfl,a',f',i'⟩;have sz:=a'.size
  refine aC (bO (II hc o a' (by lia) i') ?_)
  rintro b st ⟨rfl,l,r,rfl,g1,g2,g3⟩;refine aC (PD (aF ⟨rfl,_,rfl,a'.perm (bubble_perm _ _ _),fun i z=>?_,fun i j z1 z2 z3=>?_⟩))
  ·rw[lR (by lia) (by lia),if_neg (by lia),if_neg (by lia),f' i z]
  ·have e1:=lR (p:=p') (k:=lo+k) (d:=lo+k-(lo+l)) (by lia) (by lia) i
   have e2:=lR (p:=p') (k:=lo+k) (d:=lo+k-(lo+l)) (by lia) (by lia) j
   rw[e1,e2];have ek:lo+k-(lo+k-(lo+l))=lo+l:=by lia
   rw[ek]
   by_cases c1:i=lo+l
   ·rw[if_pos c1,if_neg (by lia),if_pos (by lia)]
    rw[show j-1=lo+(j-1-lo) by lia]
    exact g3 _ (by lia) (by lia)
   ·rw[if_neg c1]
    by_cases c2:lo+l<i∧i≤lo+k
    ·rw[if_pos c2,if_neg (by lia),if_pos (by lia)]
     exact i' _ _ (by lia) (by lia) (by lia)
    ·rw[if_neg c2]
     by_cases c3:j=lo+l
     ·rw[if_pos c3,show i=lo+(i-lo) by lia]
      exact g2 _ (by lia)
     ·rw[if_neg c3]
      by_cases c4:lo+l<j∧j≤lo+k
      ·rw[if_pos c4];exact i' _ _ (by lia) (by lia) (by lia)
      ·rw[if_neg c4];exact i' _ _ (by lia) (by lia) (by lia)
 ·rintro b st ⟨rfl,p',rfl,a',f',i'⟩;rw[show max ok m=m by lia]at i'
  exact⟨rfl,p',rfl,a',f',i'⟩
 ·rintro b st ⟨rfl,p',rfl,a',f',i'⟩;exact aF (h p' a' f' i')
end
section
variable {prog:vk}{w:World}{A:Around}{E:vm}{κ:SortKind}{it:Array Keyed}{n:Nat}{lt:Nat→Nat→Bool}{s:Shared}{P:Array (Nat×Nat×Nat)}{p:Array Nat}
theorem KU{l:List Nat}{i:Nat}(h:i<l.length):l[i]?=some (fp l.toArray i):=by
 unfold fp;rw[getD_eq_getD_getElem?,List.getElem?_toArray,qt h];rfl
noncomputable def sl(l:List Nat)(a b:Nat):List Nat:=(l.drop a).take (b-a)
theorem pZ{l:List Nat}{a b i:Nat}(h:a+i<b)(hb:b≤l.length):(sl l a b)[i]?=some (fp l.toArray (a+i)):=by
 unfold sl;rw[List.getElem?_take,if_pos (by lia),getElem?_drop,KU (by lia)]
theorem jG{l:List Nat}{a b:Nat}(hb:b≤l.length):(sl l a b).length=b-a:=by
 unfold sl;rw[ud,vd];lia
theorem xS{l:List Nat}{a b c:Nat}(h1:a≤b)(h2:b≤c):sl l a b++sl l b c=sl l a c:=by
 unfold sl;rw[show c-a=(b-a)+(c-b) by lia,List.take_add,List.drop_drop,show a+(b-a)=b by lia]
theorem YA{l:List Nat}:sl l 0 l.length=l:=by
 unfold sl;rw[drop_zero,Nat.sub_zero,vb]
theorem fP{l:List Nat}{a b x:Nat}(hb:b≤l.length)(h:x∈sl l a b):∃i,a≤i∧i<b∧x=fp l.toArray i:=by
 obtain⟨i,e⟩:=List.getElem?_of_mem h;have hi:=(q8.mp e).1
 rw[jG hb]at hi;rw[pZ (by lia) hb]at e
 exact⟨a+i,by lia,by lia,(rn e).symm⟩
theorem zX{l:List Nat}{a b:Nat}(hb:b≤l.length)(h:bu lt l.toArray a b):So lt (sl l a b):=by
 refine List.pairwise_iff_getElem.mpr fun i j hi hj df=>?_
 have hi':=hi
 have hj':=hj
 rw[jG hb]at hi' hj';rw[(q8.mp (pZ (l:=l) (a:=a) (b:=b) (i:=i) (by lia) hb)).2,(q8.mp (pZ (l:=l) (a:=a) (b:=b) (i:=j) (by lia) hb)).2]
 exact h _ _ (by lia) (by lia) (by lia)
theorem aAE{l:List Nat}(h:So lt l):bu lt l.toArray 0 l.length:=fun i j _ df hj =>
 HG h (KU (by lia)) (KU hj) df
theorem IA{sa:Nat}(zs:List Keyed):∀(k:Nat) (X Y D:List Keyed),Y.length=zs.length→X.length=sa+k→(zs.zipIdx k).foldl (fun a (x:Keyed×Nat)=>a.setIfInBounds (sa+x.2) x.1) (X++(Y++D)).toArray=(X++(zs++D)).toArray:=by
 induction zs with
 |nil =>
  intro k X Y D h hx;rw[tm.mp h];rfl
 |cons z zs ih =>
  intro k X Y D h hx;obtain⟨y,Y',rfl⟩:∃y Y',Y=y::Y':=by
   cases Y with
   |nil=>cases h
   |cons y Y'=>exact⟨y,Y',rfl⟩
  have e:(X++(y::Y'++D)).toArray.setIfInBounds (sa+k) z=((X++[z])++(Y'++D)).toArray:=by
   rw[List.setIfInBounds_toArray,←hx,List.set_append_right _ _ (qw _),Nat.sub_self];simp
  show (zs.zipIdx (k+1)).foldl _ ((X++(y::Y'++D)).toArray.setIfInBounds (sa+k) z)=_
  rw[e,ih (k+1) (X++[z]) Y' D (Nat.succ.inj h) (by rw[t9,hx];rfl)]
  simp
theorem yM(hc:fx prog w A κ it n lt s)(o:Ord n lt){l:List Nat}(a:Prm n l.toArray){n1 pw:Nat}(h1:0<n1)(h2:n1<n)(i1:bu lt l.toArray 0 n1)(i2:bu lt l.toArray n1 n){Q:Bool→SortSt→Prop}
  (h:∀ae p',arrOf ae=p'.map (kas_item it)→failedOf ae=none→pendingOf ae=#[(0,n,pw)]→Prm n p'→bu lt p' 0 n→Q true ae):SK prog w A E s (mergeAt' 0) Q (ts κ it #[(0,n1,pw),(n1,n-n1,0)] l.toArray):=by
 have sz:l.length=n:=by have:=a.size;simpa using this
 have pm:l.Perm (List.range n):=a.pm
 have nd:l.Nodup:=pm.nodup_iff.mpr List.nodup_range
 have arr:l.toArray.map (kas_item it)=aK it l:=by unfold aK;simp
 obtain⟨k,hk,ek⟩:=bound n1 (fun i=>!lt (fp l.toArray n1) (fp l.toArray i)) fun i j df hj hf=>by
  have c:=o.tot _ _ (a.lt h2) (a.lt (show j<n by lia)) (a.ne h2 (show j<n by lia) (by lia)) (by simpa using hf)
  have d:=o.tra _ _ _ (a.lt (show i<n by lia)) (a.lt (show j<n by lia)) (a.lt h2) (i1 i j (by lia) df hj) c
  show (!lt (fp l.toArray n1) (fp l.toArray i))=true
  rw[o.asy _ _ (a.lt (show i<n by lia)) (a.lt h2) d];rfl
 obtain⟨m,hm0,em⟩:=bound (n-n1) (fun i=>lt (fp l.toArray (n1+i)) (fp l.toArray (n1-1))) fun i j df hj hf =>
  o.tra _ _ _ (a.lt (show n1+i<n by lia)) (a.lt (show n1+j<n by lia)) (a.lt (show n1-1<n by lia)) (i2 (n1+i) (n1+j) (by lia) (by lia) (by lia)) hf
 have hm:n1+m≤n:=by lia
 clear hm0;have lo:∀i,i<k→lt (fp l.toArray i) (fp l.toArray n1)=true:=fun i hi=>by
  have:=ek i (by lia)
  rw[tw hi]at this;exact o.tot _ _ (a.lt h2) (a.lt (show i<n by lia)) (a.ne h2 (show i<n by lia) (by lia)) (by simpa using this)
 have hi:∀i,n1+m≤i→i<n→lt (fp l.toArray (n1-1)) (fp l.toArray i)=true:=fun i z1 z2=>by
  have:=em (i-n1) (by lia)
  rw[qy (by lia),show n1+(i-n1)=i by lia]at this
  exact o.tot _ _ (a.lt z2) (a.lt (show n1-1<n by lia)) (a.ne z2 (show n1-1<n by lia) (by lia)) this
 have whole:lt (fp l.toArray (n1-1)) (fp l.toArray n1)=true→bu lt l.toArray 0 n:=fun z i j _ df hj=>by
  by_cases c:j<n1
  ·exact i1 i j (by lia) df c
  ·by_cases d:n1≤i
   ·exact i2 i j d df hj
   ·have b1:lt (fp l.toArray i) (fp l.toArray n1)=true:=by
     by_cases e:i=n1-1
     ·rw[e];exact z
     ·exact o.tra _ _ _ (a.lt (show i<n by lia)) (a.lt (show n1-1<n by lia)) (a.lt h2) (i1 i (n1-1) (by lia) (by lia) (by lia)) z
    by_cases e:j=n1
    ·rw[e];exact b1
    ·exact o.tra _ _ _ (a.lt (show i<n by lia)) (a.lt h2) (a.lt hj) b1 (i2 n1 j (by lia) (by lia) hj)
 have pend:(((#[(0,n1,pw),(n1,n-n1,0)]:Array (Nat×Nat×Nat)).setIfInBounds 0 (0,n1+(n-n1),pw)).eraseIdxIfInBounds (0+1))=#[(0,n,pw)]:=by
  rw[show n1+(n-n1)=n by lia]
  simp[Array.eraseIdxIfInBounds]
 unfold mergeAt';refine aC (eF ?_);refine aC (YB ?_);refine aC (bD (pR a h2) ?_);refine aC (fN hc (m:=k) (q:=fun i=>fp l.toArray i) rfl (a.lt h2) (fun i z=>a.lt (by lia)) (fun i z=>by rw[t8];exact pR a (by lia)) ek hk h1 ?_)
 dsimp only
 by_cases c1:n1-k=0
 ·rw[if_pos (by rw[c1];rfl)]
  refine aF (h _ l.toArray rfl rfl pend a (whole (lo _ (by lia))))
 rw[if_neg (by simpa using c1)]
 have ck:k<n1:=by lia
 clear c1;have eb:0+k+(n1-k)-1=n1-1:=by lia
 refine aC (bD (x:=kas_item it (fp l.toArray (n1-1))) (by rw[eb];exact pR a (by lia)) ?_)
 refine aC (fN hc (m:=m) (q:=fun i=>fp l.toArray (n1+i)) rfl (a.lt (by lia)) (fun i z=>a.lt (by lia)) (fun i z=>pR a (by lia)) em (by lia) (by lia) ?_)
 dsimp only
 by_cases c2:m=0
 ·rw[if_pos (by rw[c2];rfl)]
  refine aF (h _ l.toArray rfl rfl pend a (whole (hi n1 (by lia) h2)))
 rw[if_neg (by simpa using c2)]
 have ex:(arrOf (ts κ it #[(0,n1,pw),(n1,n-n1,0)] l.toArray)).extract (0+k) n1=aK it (sl l k n1):=by
  show (l.toArray.map (kas_item it)).extract (0+k) n1=_
  rw[arr,dI,t8];rfl
 have ey:(arrOf (ts κ it #[(0,n1,pw),(n1,n-n1,0)] l.toArray)).extract n1 (n1+m)=aK it (sl l n1 (n1+m)):=by
  show (l.toArray.map (kas_item it)).extract n1 (n1+m)=_
  rw[arr,dI];rfl
 have hl:sl l 0 k++((sl l k n1++sl l n1 (n1+m))++sl l (n1+m) n)=l:=by
  rw[xS hk (by lia),xS (by lia) (by lia),xS (by lia) (by lia),←sz,YA]
 have mn:∀{x a b},b≤n→x∈sl l a b→x<n:=fun {x a' b} hb hx=>by
  obtain⟨i,_,z,rfl⟩:=fP (by lia) hx
  exact a.lt (by lia)
 have g:MG lt n (sl l k n1) (sl l n1 (n1+m)):=⟨o,fun x=>mn (by lia),fun x=>mn (by lia),zX (by lia) fun i j z1 z2 z3=>i1 i j (by lia) z2 z3,zX (by lia) fun i j z1 z2 z3=>i2 i j z1 z2 (by lia),fun x hx y hy=>by
  obtain⟨i,u1,u2,rfl⟩:=fP (by lia) hx
  obtain⟨j,v1,v2,rfl⟩:=fP (by lia) hy
  exact a.ne (by lia) (by lia) (by lia)⟩
 have x0:(sl l k n1)[0]?=some (fp l.toArray k):=pZ (by lia) (by lia)
 have y0:(sl l n1 (n1+m))[0]?=some (fp l.toArray n1):=pZ (by lia) (by lia)
 have xl:(sl l k n1)[(sl l k n1).length-1]?=some (fp l.toArray (n1-1)):=by
  rw[jG (by lia),pZ (by lia) (by lia),show k+(n1-k-1)=n1-1 by lia]
 have q1:lt (fp l.toArray n1) (fp l.toArray k)=true:=by
  have:=ek k (by lia)
  rw[qy (ug k)]at this;simpa using this
 have q2:∀y∈sl l n1 (n1+m),lt y (fp l.toArray (n1-1))=true:=fun y hy=>by
  obtain⟨j,v1,v2,rfl⟩:=fP (by lia) hy
  have:=em (j-n1) (by lia)
  rw[tw (by lia),show n1+(j-n1)=j by lia]at this
  exact this
 have fin:∀r ae,Res lt it (sl l k n1) (sl l n1 (n1+m)) r→SS (SortSt.mk' κ (l.toArray.map (kas_item it)) ((#[(0,n1,pw),(n1,n-n1,0)]:Array (Nat×Nat×Nat)).setIfInBounds 0 (0,n1+(n-n1),pw) |>.eraseIdxIfInBounds (0+1)) 7 none) ae →
   SK prog w A E s (do modify fun s=>setArr s (r.toList.zipIdx.foldl (fun a (x:Keyed×Nat)=>a.setIfInBounds (0+k+x.2) x.1) (arrOf s));return (failedOf (←get)).isNone) Q ae:=fun r ae hr hs=>by
  obtain⟨zs,rfl,zp,zo⟩:=hr;refine aC (bL (aC (eF (aF ?_))));have ha:(aK it zs).toList.zipIdx.foldl (fun a (x:Keyed×Nat)=>a.setIfInBounds (0+k+x.2) x.1) (arrOf ae)=(sl l 0 k++(zs++sl l (n1+m) n)).toArray.map (kas_item it):=by
   rw[hs.2.1];show (aK it zs).toList.zipIdx.foldl (fun a (x:Keyed×Nat)=>a.setIfInBounds (0+k+x.2) x.1) (l.toArray.map (kas_item it))=_
   have e1:l.toArray.map (kas_item it)=((sl l 0 k).map (kas_item it)++(((sl l k n1++sl l n1 (n1+m)).map (kas_item it))++(sl l (n1+m) n).map (kas_item it))).toArray:=by
    rw[←ux,←ux,hl];simp
   rw[e1];refine(IA (zs.map (kas_item it)) 0 ((sl l 0 k).map (kas_item it)) ((sl l k n1++sl l n1 (n1+m)).map (kas_item it)) ((sl l (n1+m) n).map (kas_item it)) (by rw[qv,qv,zp.length_eq]) (by rw[qv,jG (by lia)];lia)).trans ?_
   simp
  show Q ((failedOf ae).isNone) _
  rw[hs.2.2.2];have pm':(sl l 0 k++(zs++sl l (n1+m) n)).Perm l:=by
   have:=((zp.append_right (sl l (n1+m) n)).append_left (sl l 0 k))
   rwa [hl]at this
  have so':So lt (sl l 0 k++(zs++sl l (n1+m) n)):=by
   have up:∀i j,i<k→n1≤j→j<n→lt (fp l.toArray i) (fp l.toArray j)=true:=fun i j z1 z2 z3=>by
    by_cases e:j=n1
    ·rw[e];exact lo i z1
    ·exact o.tra _ _ _ (a.lt (show i<n by lia)) (a.lt h2) (a.lt z3) (lo i z1) (i2 n1 j (by lia) (by lia) z3)
   refine eW (zX (by lia) fun i j z1 z2 z3=>i1 i j z1 z2 (by lia)) (eW zo (zX (by lia) fun i j z1 z2 z3=>i2 i j (by lia) z2 z3) fun z hz d hd=>?_) fun x hx y hy=>?_
   ·obtain⟨j,v1,v2,rfl⟩:=fP (by lia) hd
    rcases vh.mp (zp.mem_iff.mp hz) with hz|hz
    ·obtain⟨i,u1,u2,rfl⟩:=fP (by lia) hz
     by_cases e:i=n1-1
     ·rw[e];exact hi j v1 v2
     ·exact o.tra _ _ _ (a.lt (show i<n by lia)) (a.lt (show n1-1<n by lia)) (a.lt v2) (i1 i (n1-1) (by lia) (by lia) (by lia)) (hi j v1 v2)
    ·obtain⟨i,u1,u2,rfl⟩:=fP (by lia) hz
     exact i2 i j u1 (by lia) v2
   ·obtain⟨i,u1,u2,rfl⟩:=fP (by lia) hx
    rcases vh.mp hy with hy|hy
    ·rcases vh.mp (zp.mem_iff.mp hy) with hy|hy
     ·obtain⟨j,v1,v2,rfl⟩:=fP (by lia) hy
      exact i1 i j (by lia) (by lia) v2
     ·obtain⟨j,v1,v2,rfl⟩:=fP (by lia) hy
      exact up i j u2 v1 (by lia)
    ·obtain⟨j,v1,v2,rfl⟩:=fP (by lia) hy
     exact up i j u2 (by lia) v2
  have len':(sl l 0 k++(zs++sl l (n1+m) n)).length=n:=pm'.length_eq.trans sz
  have in':=aAE so'
  rw[len']at in';exact h _ _ ha hs.2.2.2 (hs.2.2.1.trans pend) ⟨pm'.trans pm⟩ in'
 rw[ex,ey]
 by_cases c3:n1-k≤m
 ·rw[if_pos c3];exact aC (yK hc g x0 y0 q1 xl q2 rfl fun r ae hr hs=>fin r ae hr hs)
 ·rw[if_neg c3];exact aC (yL hc g x0 y0 q1 xl q2 rfl fun r ae hr hs=>fin r ae hr hs)
end
section
variable {prog:vk}{w:World}{A:Around}{E:vm}{κ:SortKind}{it:Array Keyed}{n:Nat}{lt:Nat→Nat→Bool}{s:Shared}
def qg(κ:SortKind)(it:Array Keyed)(n:Nat)(lt:Nat→Nat→Bool)(i lo:Nat)(st:SortSt):Prop:=
 (i=0∧lo=0∧∃p,st=ts κ it #[] p∧Prm n p) ∨
 (1≤i∧0<lo∧lo≤n∧(lo<n→i=1∧n=64∧32≤lo)∧∃p,st=ts κ it #[(0,lo,0)] p∧Prm n p∧bu lt p 0 lo) ∨
 (lo=n∧∃p n1 pw,0<n1∧n1<n∧st=ts κ it #[(0,n1,pw),(n1,n-n1,0)] p∧Prm n p∧bu lt p 0 n1∧bu lt p n1 n)
theorem FC(h:n<64):minRun' n n 0=n:=by
 cases n with
 |zero=>rfl
 |succ r=>rw[minRun'_succ,if_pos h]
theorem FD:minRun' 64 64 0=32:=rfl
theorem PL(hc:fx prog w A κ it n lt s)(o:Ord n lt)(h2:2≤n)(h64:n≤64){Q:Unit→SortSt→Prop}(h:∀ae p',arrOf ae=p'.map (kas_item it)→failedOf ae=none→Prm n p'→bu lt p' 0 n→Q () ae):SK prog w A E s sortRuns' Q (ts κ it #[] (List.range n).toArray):=by
 have hmr:∃mr,minRun' n n 0=mr∧mr≤n∧(n<64→mr=n)∧(n=64→mr=32):=by
  by_cases e:n<64
  ·exact⟨n,FC e,qw _,fun _=>rfl,fun z=>by lia⟩
  ·obtain rfl:n=64:=by lia
   exact⟨32,FD,by lia,fun z=>by lia,fun _=>rfl⟩
 obtain⟨mr,hmr,m1,m2,m3⟩:=hmr;rw[sortRuns'_eq];refine aC (eF ?_);have hsz:(arrOf (ts κ it #[] (List.range n).toArray)).size=n:=by
  show ((List.range n).toArray.map (kas_item it)).size=n
  simp
 dsimp only;rw[hsz,hmr];refine aC (bO (gY (Q:=fun b st=>∃i lo,b=(none,lo)∧qg κ it n lt i lo st∧n≤lo) (fun i b st=>∃lo,b=(none,lo)∧qg κ it n lt i lo st) ⟨0,rfl,.inl ⟨rfl,rfl,_,rfl,⟨.refl _⟩⟩⟩ ?_ ?_) ?_)
 ·rintro x i b st hi ⟨lo,rfl,hS⟩;dsimp only
  by_cases hge:lo ≥ n
  ·rw[if_pos hge];exact aF ⟨i,lo,rfl,hS,hge⟩
  rw[if_neg hge]
  rcases hS with ⟨rfl,rfl,p,rfl,a⟩|⟨hi1,o5,hln,h64',p,rfl,a,i1⟩|⟨e,_⟩
  ·have fin:∀m p',Prm n p'→bu lt p' 0 (0+m)→0<m→m≤n→mr≤m→SK prog w A E s (do
     modify fun s=>setPending s ((pendingOf s).push (0,m,0))
     pure (ForInStep.yield ((none,0+m):Option Unit×Nat))) (fun r ae=>match r with | .done b'=>∃i lo,b'=(none,lo)∧qg κ it n lt i lo ae∧n≤lo | .yield b'=>∃lo,b'=(none,lo)∧qg κ it n lt (0+1) lo ae) (ts κ it #[] p'):=fun m p' a' i' z1 z2 z3=>by
    refine aC (bL (aF ⟨_,rfl,.inr (.inl ⟨by lia,by lia,by lia,fun z=>?_,p',?_,a',i'⟩)⟩))
    ·exact⟨rfl,by lia,by lia⟩
    ·rw[t8];rfl
   refine aC (xA hc o a (by lia) (by lia) fun m p' a' g1 g2 g3 g4=>?_)
   dsimp only
   by_cases d7:m<mr
   ·rw[if_pos d7];refine aC (gX ?_);refine aC (MM hc o a' g1 (m:=min (n-0) mr) (by lia) (by lia) g4 fun lr a'' f'' i''=>?_)
    simp only[tf,r8,if_false];refine aC (eF ?_);exact fin _ lr a'' i'' (by lia) (by lia) (by lia)
   ·rw[if_neg d7];refine aC (eF ?_);exact fin _ p' a' g4 (by lia) (by lia) (by lia)
  ·obtain⟨rfl,e64,h32⟩:=h64' (by lia)
   have em:mr=32:=m3 e64
   have fin:∀m p' pw,m=n-lo→Prm n p'→bu lt p' 0 lo→bu lt p' lo (lo+m)→∃lo',((none,lo+m):Option Unit×Nat)=(none,lo')∧qg κ it n lt (1+1) lo' (ts κ it #[(0,lo,pw),(lo,m,0)] p'):=fun m p' pw z1 a' i1' i2'=>by
    refine⟨_,rfl,.inr (.inr ⟨by lia,p',lo,pw,o5,by lia,by rw[z1],a',i1',?_⟩)⟩
    rwa [show lo+m=n by lia]at i2'
   refine aC (xA hc o a (by lia) (by lia) fun m p' a' g1 g2 g3 g4=>?_)
   have i1':bu lt p' 0 lo:=fun i j y1 y2 y3=>by rw[g3 i (by lia),g3 j y3];exact i1 i j y1 y2 y3
   dsimp only
   by_cases d7:m<mr
   ·rw[if_pos d7];refine aC (gX ?_);refine aC (MM hc o a' g1 (m:=min (n-lo) mr) (by lia) (by lia) g4 fun lr a'' f'' i''=>?_)
    simp only[tf,r8,if_false];refine aC (eF ?_);rw[show (pendingOf (ts κ it #[(0,lo,0)] lr)).back?=some (0,lo,0) from rfl]
    dsimp only;refine aC (bO (gY (Q:=fun b st=>b=(none,())∧st=ts κ it #[(0,lo,0)] lr) (fun _ b st=>b=(none,())∧st=ts κ it #[(0,lo,0)] lr) ⟨rfl,rfl⟩ ?_ fun _ _ z=>z) ?_)
    ·rintro x i b st _ ⟨rfl,rfl⟩;exact aC (eF (aF ⟨rfl,rfl⟩))
    ·rintro b st ⟨rfl,rfl⟩;exact aC (bL (aC (bL (aF (fin _ lr _ (by lia) a'' (fun i j y1 y2 y3=>by rw[f'' i (by lia),f'' j y3];exact i1' i j y1 y2 y3) i'')))))
   ·rw[if_neg d7];refine aC (eF ?_);rw[show (pendingOf (ts κ it #[(0,lo,0)] p')).back?=some (0,lo,0) from rfl]
    dsimp only;refine aC (bO (gY (Q:=fun b st=>b=(none,())∧st=ts κ it #[(0,lo,0)] p') (fun _ b st=>b=(none,())∧st=ts κ it #[(0,lo,0)] p') ⟨rfl,rfl⟩ ?_ fun _ _ z=>z) ?_)
    ·rintro x i b st _ ⟨rfl,rfl⟩;exact aC (eF (aF ⟨rfl,rfl⟩))
    ·rintro b st ⟨rfl,rfl⟩;exact aC (bL (aC (bL (aF (fin _ p' _ (by lia) a' i1' g4)))))
  ·lia
 ·rintro b st ⟨lo,rfl,hS⟩;refine⟨_,lo,rfl,hS,?_⟩
  rcases hS with ⟨e,_⟩|⟨_,_,_,e,_⟩|⟨e,_⟩
  ·lia
  ·by_cases z:lo<n
   ·have:=(e z).1;lia
   ·lia
  ·lia
 ·rintro b st ⟨i,lo,rfl,hS,hge⟩;dsimp only;have fin:∀st p,arrOf st=p.map (kas_item it)→failedOf st=none→(pendingOf st).size=1→Prm n p→bu lt p 0 n→True:=fun _ _ _ _ _ _ _=>trivial
  refine aC (bO (gY (Q:=fun b st=>b=(none,())∧∃p,arrOf st=p.map (kas_item it)∧failedOf st=none∧Prm n p∧bu lt p 0 n) (fun i b st=>b=(none,())∧((i=0∧∃p n1 pw,0<n1∧n1<n∧st=ts κ it #[(0,n1,pw),(n1,n-n1,0)] p∧Prm n p∧bu lt p 0 n1∧bu lt p n1 n)∨((pendingOf st).size=1∧∃p,arrOf st=p.map (kas_item it)∧failedOf st=none∧Prm n p∧bu lt p 0 n))) ⟨rfl,?_⟩ ?_ ?_) ?_)
  ·rcases hS with ⟨_,e,_⟩|⟨_,_,e,_,p,rfl,a,i1⟩|⟨_,p,n1,pw,z⟩
   ·lia
   ·obtain rfl:lo=n:=by lia
    exact .inr ⟨rfl,p,rfl,rfl,a,i1⟩
   ·exact .inl ⟨rfl,p,n1,pw,z⟩
  ·rintro x i b st hi ⟨rfl,hz⟩;refine aC (eF ?_)
   rcases hz with ⟨rfl,p,n1,pw,z1,z2,rfl,a,i1,i2⟩|⟨e,z⟩
   ·rw[if_neg (by show ¬2≤1;lia)]
    obtain⟨l⟩:=p;refine aC (yM hc o a z1 z2 i1 i2 fun ae p' y1 y2 y3 y4 y5=>?_)
    exact aF ⟨rfl,.inr ⟨by rw[y3];rfl,p',y1,y2,y4,y5⟩⟩
   ·rw[if_pos (by lia)]
    exact aF ⟨rfl,z⟩
  ·rintro b st ⟨rfl,⟨e,_⟩|⟨_,z⟩⟩
   ·lia
   ·exact⟨rfl,z⟩
  ·rintro b st ⟨rfl,p,y1,y2,y3,y4⟩;exact aF (h st p y1 y2 y3 y4)
theorem aCY{vs:List Value}(ask:∀i j C,i<vs.length→j<vs.length→C (lt i j) s→kas_ask prog w A κ vs i j C s)(o:Ord vs.length lt)(h2:2≤vs.length)(h64:vs.length≤64) :
  wpAny (model prog w) A ((sortRuns').run (SortSt.mk' κ (vs.toArray.zip vs.toArray) #[] 7 none)) (fun r s'=>s'=s∧∃p:Array Nat,Prm vs.length p∧nt lt p vs.length∧arrOf r.2=p.map (kas_item (vs.toArray.zip vs.toArray))∧failedOf r.2=none) E s:=by
 rw[kat_ask_eq rfl]at ask;have run:=PL (E:=E) (it:=vs.toArray.zip vs.toArray) (Q:=fun _ ae=>∃p:Array Nat,Prm vs.length p∧nt lt p vs.length∧arrOf ae=p.map (kas_item (vs.toArray.zip vs.toArray))∧failedOf ae=none) ask o h2 h64 fun ae p q1 q2 q3 q4=>⟨p,q3,fun i j z1 z2=>q4 i j (v9 _) z1 z2,q1,q2⟩
 have est:SortSt.mk' κ (vs.toArray.zip vs.toArray) #[] 7 none=ts κ (vs.toArray.zip vs.toArray) #[] (List.range vs.length).toArray:=by
  have e:=kas_range (vs.toArray.zip vs.toArray)
  rw[show (vs.toArray.zip vs.toArray).size=vs.length by simp]at e
  show SortSt.mk' κ (vs.toArray.zip vs.toArray) #[] 7 none=SortSt.mk' κ ((List.toArray (List.range vs.length)).map (kas_item (vs.toArray.zip vs.toArray))) #[] 7 none
  rw[e]
 rw[est];exact run
end
end Z
namespace Z
open PySem PySem.Spec PySem.W PyProof.Rows L2 PySem.Calls
def Kept(g g':Heap):Prop:=∀b u,g.get? b=some u→g'.get? b=some u
section
variable {prog:vk}{w:World}{A:Around}{E:vm}{s:Shared}{vs:List Value}{lt:Nat→Nat→Bool}{κ:SortKind}
noncomputable def kK(vs:List Value)(p:Array Nat):List Value:=p.toList.map fun i=>vs.getD i Value.none
theorem IV{p:Array Nat}(a:Prm vs.length p):(kK vs p).length=vs.length:=by unfold kK;rw[qv,length_toList,a.size]
theorem AS:kK vs (List.toArray (List.range vs.length))=vs:=by
 unfold kK;apply List.ext_getElem
 ·simp
 ·intro i h1 h2;simp[h2]
structure ql (prog:vk) (w:World) (A:Around) (κ:SortKind) (vs:List Value) (lt:Nat→Nat→Bool) (s:Shared):Prop where
 kind:2≤vs.length→∀(R:SortKind→Shared→Prop),R κ s→wpAny (model prog w) A (keyKind' vs.toArray) R (fun _ _=>False) s
 ask:∀i j C,i<vs.length→j<vs.length→C (lt i j) s→kas_ask prog w A κ vs i j C s
theorem OY{a:Addr}{n:Nat}{P:PySem.Fin→Shared→Prop}(ho:s.heap.get? a=some (seqObj "list" vs.toArray n))(o:Ord vs.length lt)(h64:vs.length≤64)
  (hl:∀g',(∀b u,b≠a→s.heap.get? b=some u→g'.get? b=some u)→ql prog w A κ vs lt { s with heap:=g' })
  (hP:∀g' p c,(∀b u,b≠a→s.heap.get? b=some u→g'.get? b=some u)→Prm vs.length p→nt lt p vs.length→g'.get? a=some (seqObj "list" (kK vs p).toArray c)→P (.done (.ret .none)) { s with heap:=g' }) :
  wpAny (model prog w) A (Builtin.«list.sort» ⟨[.ref a],[]⟩) P E s:=by
 have d7:a<s.heap.objs.size:=sq ho
 have same1:=Heap.SameBut.update s.heap a (Obj.mapSeq fun _=>(#[]:Array Value))
 have hz:vs.length≤sizeLine:=by rw[sizeLine_eq];lia
 obtain⟨e1,i8⟩:∃e1,(s.heap.update a (Obj.mapSeq fun _=>(#[]:Array Value))).get? a=some (seqObj "list" #[] e1):=⟨_,get?_update_seq ho fun _=>#[]⟩
 rw[list_sort_plain];refine uh (listItems_at ho rfl (uh (listUpdate_at ho rfl (uh (seqEpoch_at i8 rfl (uh (wpAny_newTuple (uh (wpAny_newList (wpAny_holding ?_) (v9 _))) hz)))) (by rw[rh];exact hz) (v9 _))))
 show wpAny (model prog w) A _ P E { s with heap:=((s.heap.update a (Obj.mapSeq fun _=>(#[]:Array Value))).push (seqObj "tuple" vs.toArray 0)).push (seqObj "list" #[] 0) }
 have kp:∀b u,(s.heap.update a (Obj.mapSeq fun _=>(#[]:Array Value))).get? b=some u→(((s.heap.update a (Obj.mapSeq fun _=>(#[]:Array Value))).push (seqObj "tuple" vs.toArray 0)).push (seqObj "list" #[] 0)).get? b=some u:=
  fun b u e=>qz _ (qz _ e)
 have kq:∀b u,b≠a→s.heap.get? b=some u→(((s.heap.update a (Obj.mapSeq fun _=>(#[]:Array Value))).push (seqObj "tuple" vs.toArray 0)).push (seqObj "list" #[] 0)).get? b=some u:=
  fun b u hb e=>kp b u ((same1.2 b hb).trans e)
 have cy:=kp a _ i8
 generalize ((s.heap.update a (Obj.mapSeq fun _=>(#[]:Array Value))).push (seqObj "tuple" vs.toArray 0)).push (seqObj "list" #[] 0)=g1 at *
 have L:=hl g1 kq
 have fin:∀p:Array Nat,Prm vs.length p→nt lt p vs.length→P (.done (.ret .none)) { s with heap:=g1.update a (Obj.mapSeq fun _=>(kK vs p).toArray) }:=fun p pa inc=>by
  have same2:=Heap.SameBut.update g1 a (Obj.mapSeq fun _=>(kK vs p).toArray)
  obtain⟨c2,fq⟩:∃c2,(g1.update a (Obj.mapSeq fun _=>(kK vs p).toArray)).get? a=some (seqObj "list" (kK vs p).toArray c2):=⟨_,get?_update_seq cy fun _=>(kK vs p).toArray⟩
  exact hP _ p c2 (fun b u hb e=>(same2.2 b hb).trans (kq b u hb e)) pa inc fq
 dsimp only
 by_cases h2:vs.toArray.size<2
 ·have mj:vs.length<2:=by simpa using h2
  rw[if_pos h2,if_pos h2];refine uh (ui ?_);rw[StateT.run_pure];refine uh (ui ?_);dsimp only;have e0:(arrOf (SortSt.mk' general' (vs.toArray.zip vs.toArray) #[] 7 none)).map (·.2)=(kK vs (List.toArray (List.range vs.length))).toArray:=by
   rw[AS];show (vs.toArray.zip vs.toArray).map (·.2)=_
   apply Array.toList_inj.mp;simp[List.map_snd_zip]
  rw[e0];refine uh (seqEpoch_at cy rfl (uh (listUpdate_at cy rfl ?_ (v9 _) (by rw[AS,rh];exact le_succ_of_le hz))))
  simp only[bne_self_eq_false,r8,if_false];exact ui (fin _ ⟨by simp⟩ fun i j q1 q2=>by lia)
 ·have mj:2≤vs.length:=by
   have:¬vs.length<2:=by simpa using h2
   lia
  rw[if_neg h2,if_neg h2];refine uh (uj (L.kind mj (fun k u=>k=κ∧u={ s with heap:=g1 }) ⟨rfl,rfl⟩) (fun k s0 hk=>?_) fun _ _ x=>x.elim)
  obtain⟨rfl,rfl⟩:=hk;refine uh (uj (aCY L.ask o mj h64) ?_ fun _ _ x=>x)
  rintro⟨⟨⟩,ae⟩ s' ⟨rfl,p,pa,inc,har,hf⟩;dsimp only;have e0:(arrOf ae).map (·.2)=(kK vs p).toArray:=kat_snds rfl har
  rw[e0];refine uh (seqEpoch_at cy rfl (uh (listUpdate_at cy rfl ?_ (v9 _) (by rw[rh,IV pa];exact le_succ_of_le hz))))
  rw[hf];simp only[bne_self_eq_false,r8,if_false];exact ui (fin p pa inc)
theorem xH{l:Addr}{Q:vm}(hl:s.heap.IsList l vs.toArray)(o:Ord vs.length lt)(h64:vs.length≤64)
  (hL:∀g',Kept s.heap g'→ql prog w A.in1.in1 κ vs lt { s with heap:=g' })
  (hQ:∀g' p c,Kept s.heap g'→Prm vs.length p→nt lt p vs.length→g'.get? (s.heap.objs.size+1)=some (seqObj "list" (kK vs p).toArray c)→Q (.ref (s.heap.objs.size+1)) { s with heap:=g' }) :
  wpAny (model prog w) A (call (.builtin "sorted") [.ref l]) Q E s:=by
 have hz:vs.length≤sizeLine:=by rw[sizeLine_eq];lia
 refine Calls.call_function_entry kind_sorted plain_sorted entry_sorted (args_sorted1 _) ?_;unfold Builtin.«sorted»;refine uh (m:=checkCount "sorted" 1 1 _) (ui (uh (collect_list hl (uh (wpAny_newList ?_ hz)) hz)));have sz:((s.heap.push (seqObj "list" #[] 0)).update s.heap.objs.size (Obj.mapSeq (·++vs.toArray))).objs.size=s.heap.objs.size+1:=by rw[Heap.size_update,size_push']
 have at1:(((s.heap.push (seqObj "list" #[] 0)).update s.heap.objs.size (Obj.mapSeq (·++vs.toArray))).push (seqObj "list" vs.toArray 0)).get? (s.heap.objs.size+1)=some (seqObj "list" vs.toArray 0):=by
  have:=uk ((s.heap.push (seqObj "list" #[] 0)).update s.heap.objs.size (Obj.mapSeq (·++vs.toArray))) (o:=seqObj "list" vs.toArray 0) rfl
  rw[sz]at this;exact this
 have kp:Kept s.heap (((s.heap.push (seqObj "list" #[] 0)).update s.heap.objs.size (Obj.mapSeq (·++vs.toArray))).push (seqObj "list" vs.toArray 0)):=fun b u e=>by
  have lb:b<s.heap.objs.size:=sq e
  have nb:b≠s.heap.objs.size:=uc lb
  rw[Heap.get?_push_ne _ _ _ (by rw[sz];exact uc (Nat.lt_succ_of_lt lb)),Heap.get?_update_ne _ _ _ _ nb,Heap.get?_push_ne _ _ _ nb]
  exact e
 show wpAny _ _ _ _ _ { s with heap:=((s.heap.push (seqObj "list" #[] 0)).update s.heap.objs.size (Obj.mapSeq (·++vs.toArray))).push (seqObj "list" vs.toArray 0) }
 rw[sz];generalize ((s.heap.push (seqObj "list" #[] 0)).update s.heap.objs.size (Obj.mapSeq (·++vs.toArray))).push (seqObj "list" vs.toArray 0)=g1 at *;have nk:∀b u,s.heap.get? b=some u→b≠s.heap.objs.size+1:=fun b u e=>uc (Nat.lt_succ_of_lt (sq e))
 refine uh (wpAny_holding (wpAny_call_entry slot_list_sort ⟨_,at1,rfl⟩ entry_list_sort (OY (s:={ s with heap:=g1 }) (κ:=κ) (lt:=lt) at1 o h64 (fun g' k=>hL g' fun b u e=>k b u (nk b u e) (kp b u e)) fun g' p c k pa inc at2=>?_) (args_list_sort _)))
 exact⟨_,rfl,ui ⟨_,rfl,hQ g' p c (fun b u e=>k b u (nk b u e) (kp b u e)) pa inc at2⟩⟩
end
noncomputable def ax(ks:List (Int×Int))(i:Nat):Int×Int:=ks.getD i (0,0)
theorem JZ{ks:List (Int×Int)}{i:Nat}(h:i<ks.length):ax ks i=ks[i]:=by unfold ax;simp[h]
theorem IW{ks:List (Int×Int)}(nd:ks.Nodup):Ord ks.length fun i j=>cw (ax ks i) (ax ks j):=by
 refine⟨fun a b ha hb d6 e=>?_,fun a b ha hb e=>?_,fun a b c ha hb hc e1 e2=>?_⟩
 ·have:ax ks a≠ax ks b:=by
   rw[JZ ha,JZ hb];exact fun z=>d6 ((List.getElem_inj nd).mp z)
  rw[mX]at e;rw[dJ];have:¬((ax ks a).1=(ax ks b).1∧(ax ks a).2=(ax ks b).2):=fun q=>this (Prod.ext q.1 q.2)
  lia
 ·rw[dJ]at e;rw[mX];lia
 ·rw[dJ]at e1 e2 ⊢;lia
theorem JX{ks:List (Int×Int)}{p:Array Nat}(a:Prm ks.length p)(inc:nt (fun i j=>cw (ax ks i) (ax ks j)) p ks.length):p.toList.map (ax ks)=iO ks:=by
 refine nP ?_ ?_
 ·refine(a.pm.map _).trans (List.Perm.of_eq ?_);apply List.ext_getElem
  ·simp
  ·intro i h1 h2;simp[ax,h2]
 ·rw[pairwise_map,List.pairwise_iff_getElem];intro i j hi hj df;have l1:=a.size
  have:=inc i j df (by simpa [l1] using hj)
  have e:∀k (hk:k<p.toList.length),fp p k=p.toList[k]:=fun k hk=>by
   unfold fp;rw[getD_eq_getD_getElem?,Array.getElem?_eq_getElem (by simpa using hk)]
   simp
  rw[e i hi,e j hj]at this;exact this
section
variable {X:Cx}{T:Tx}{pins:vn}{σ:L2.St}{H:Hp}{s:Shared}{S:Addr→Prop}
def aGf(h:Heap)(v:Value)(k:Int×Int):Prop:=∃a o n t u,v=.ref a∧h.get? a=some o∧o.cls=.type "tuple"∧o.data=.seq #[.int k.1 t,.int k.2 u] n
noncomputable def gI(h:Heap):List Value→List (Int×Int)→Prop
 |[],ks=>ks=[]
 |v::r,ks=>∃k gm,ks=k::gm∧aGf h v k∧gI h r gm
theorem gI.kept{h h':Heap}(hk:Kept h h'):∀{vs:List Value} {ks:List (Int×Int)},gI h vs ks→gI h' vs ks
 |[],ks,e=>e
 |v::r,ks,⟨k,gm,e,⟨a,o,n,t,u,q1,q2,q3,q4⟩,q⟩=>⟨k,gm,e,⟨a,o,n,t,u,q1,hk _ _ q2,q3,q4⟩,gI.kept hk q⟩
theorem gI.get{h:Heap}:∀{vs:List Value} {ks:List (Int×Int)},gI h vs ks→∀i,i<vs.length→aGf h (vs.getD i Value.none) (ax ks i)
 |[],ks,e,i,hi=>by simp at hi
 |v::r,ks,⟨k,gm,e,q0,q⟩,0,_=>by subst e;exact q0
 |v::r,ks,⟨k,gm,e,q0,q⟩,i+1,hi=>by
  subst e;have:=gI.get q i (by simpa using hi)
  simpa [ax] using this
theorem gI.tups{h:Heap}:∀{vs:List Value} {ks:List (Int×Int)},gI h vs ks→∃fs:List Value,KatTups h vs fs∧fs.length=vs.length∧∀v∈fs,∃i t,v=Value.int i t
 |[],ks,e=>⟨[],KatTups.nil,rfl,fun v hv=>by simp at hv⟩
 |v::r,ks,⟨k,gm,e,⟨a,o,n,t,u,q1,q2,q3,q4⟩,q⟩=>by
  obtain⟨fs,h1,h2,h3⟩:=gI.tups q;refine⟨.int k.1 t::fs,?_,by simp[h2],fun v hv=>?_⟩
  ·rw[q1];exact KatTups.cons q2 q3 q4 (by simp) h1
  ·rcases sv.mp hv with rfl|hv
   ·exact⟨_,_,rfl⟩
   ·exact h3 v hv
theorem FE{prog:vk}{w:World}{A:Around}{s:Shared}{vs:List Value}{ks:List (Int×Int)}(h:gI s.heap vs ks):ql prog w A (tuples' (Value.type "int" != Value.type "tuple")) vs (fun i j=>cw (ax ks i) (ax ks j)) s:=by
 have hb:(Value.type "int" != Value.type "tuple")=true:=by decide
 refine⟨fun h2 R hR=>?_,fun i j C hi hj hC=>?_⟩
 ·obtain⟨fs,h1,h3,h4⟩:=h.tups;refine kat_kind (T:=Value.type "int") h1 (by lia) (fun v hv=>?_) (by decide) hR
  obtain⟨i,t,rfl⟩:=h4 v hv;exact Looks.now
 ·obtain⟨a,o,n,t,u,q1,q2,q3,q4⟩:=h.get i hi;obtain⟨a',o',n',t',u',q1',q2',q3',q4'⟩:=h.get j hj;unfold kas_ask;rw[q1,q1',hb];refine kat_lt q2 q4 q2' q4' ?_;show KatLex prog w A true _ C [((.int (ax ks i).1 t),(.int (ax ks j).1 t')),((.int (ax ks i).2 u),(.int (ax ks j).2 u'))] 0 s
  refine kat_cons (wpAny_eqBool_int ?_);refine kat_go (fun e=>kat_yes (kat_cons (wpAny_eqBool_int (kat_go (fun e'=>kat_yes (kat_nil ?_)) fun e'=>kat_no ?_)))) fun e=>kat_no ?_
  ·have:cw (ax ks i) (ax ks j)=false:=by
    rw[mX];rw[u0]at e e';lia
   rw[this]at hC;exact hC
  ·refine kat_one _ _ (lt_int ?_);have:cw (ax ks i) (ax ks j)=decide ((ax ks i).2<(ax ks j).2):=by
    rw[u0]at e;unfold cw;rw[e];simp
   rw[this]at hC;exact hC
  ·refine oneLt_int ?_;have:cw (ax ks i) (ax ks j)=decide ((ax ks i).1<(ax ks j).1):=by
    unfold cw;rw[e];simp
   rw[this]at hC;exact hC
noncomputable def rC:List Value→List (Int×Int)→Prop
 |[],ks=>ks=[]
 |v::r,ks=>∃i t gm,ks=(i,0)::gm∧v=.int i t∧rC r gm
theorem rC.get:∀{vs:List Value} {ks:List (Int×Int)},rC vs ks→∀i,i<vs.length→∃t,vs.getD i Value.none=.int (ax ks i).1 t∧(ax ks i).2=0
 |[],ks,e,i,hi=>by simp at hi
 |v::r,ks,⟨k,t,gm,e,q0,q⟩,0,_=>by subst e;exact⟨t,q0,rfl⟩
 |v::r,ks,⟨k,t,gm,e,q0,q⟩,i+1,hi=>by
  subst e;have:=rC.get q i (by simpa using hi)
  simpa [ax] using this
theorem JQ{prog:vk}{w:World}{A:Around}{s:Shared}{vs:List Value}{ks:List (Int×Int)}(h:rC vs ks):ql prog w A oneType' vs (fun i j=>cw (ax ks i) (ax ks j)) s:=by
 refine⟨fun h2 R hR=>?_,fun i j C hi hj hC=>?_⟩
 ·refine kas_kind (T:=Value.type "int") h2 (fun v hv=>?_) (by decide) (by decide) hR
  obtain⟨i,hi,rfl⟩:=getElem_of_mem hv;obtain⟨t,e,_⟩:=h.get i hi;have:vs[i]=.int (ax ks i).1 t:=by rw[←e];simp[hi]
  rw[this];exact Looks.now
 ·obtain⟨t,e,z⟩:=h.get i hi;obtain⟨t',e',z'⟩:=h.get j hj;unfold kas_ask;rw[e,e'];refine kat_lt_int ?_;have:cw (ax ks i) (ax ks j)=decide ((ax ks i).1<(ax ks j).1):=by
   unfold cw;rw[z,z'];simp
  rw[this]at hC;exact hC
theorem getD_get{α:Type}{l:List α}{i:Nat}{d:α}(h:i<l.length):l[i]?=some (l.getD i d):=by simp[h]
theorem aQ.pick{xs:List V}{us:List Value}(r:aQ xs us):∀{is:List Nat},(∀i∈is,i<xs.length)→aQ (is.map fun i=>xs.getD i .non) (is.map fun i=>us.getD i Value.none)
 |[],_=>.nil
 |i::is,h=>by
  have hi:=h i (by simp)
  obtain⟨u,e1,e2⟩:=r.get (getD_get (d:=V.non) hi);have e3:us.getD i Value.none=u:=by simp[e1]
  refine .cons ?_ (aQ.pick r fun j hj=>h j (rg _ hj))
  show L2.RelV (xs.getD i V.non) (us.getD i Value.none)
  rw[e3];exact e2
theorem aE.pick{K:vi}{ds:List D}{xs:List V}(r:aE K T H S ds xs):∀{is:List Nat},(∀i∈is,i<ds.length)→aE K T H S (is.map fun i=>ds.getD i .non) (is.map fun i=>xs.getD i .non)
 |[],_=>aE.nil
 |i::is,h=>by
  have hi:=h i (by simp)
  obtain⟨x,e1,e2⟩:=r.get (getD_get (d:=D.non) hi);have e3:xs.getD i .non=x:=by simp[e1]
  refine aE.cons ?_ (aE.pick r fun j hj=>h j (rg _ hj))
  show Rep K T H S (ds.getD i D.non) (xs.getD i V.non)
  rw[e3];exact e2
theorem nT:∀{ds:List D} {ks:List (Int×Int)},lK ds=some ks→ds=ks.map wY
 |[],ks,h=>by simp only[lK]at h;cases h;rfl
 |d::ds,ks,h=>by
  unfold lK at h;split at h
  ·rename_i e;cases e
  ·rename_i a b r e;cases e;obtain⟨r',h1,rfl⟩:=rq.mp h;rw[nT h1];rfl
  ·cases h
theorem qL:∀{ds:List D} {is:List Int},gQ ds=some is→ds=is.map .int
 |[],ks,h=>by simp only[gQ]at h;cases h;rfl
 |d::ds,ks,h=>by
  cases d<;>simp only[gQ,reduceCtorEq]at h
  obtain⟨r',h1,rfl⟩:=rq.mp h;rw[qL h1];rfl
theorem zW(I:Inv X pins σ H s):∀{ks:List (Int×Int)} {xs:List V} {us:List Value},aE X.K T H S (ks.map wY) xs→aQ xs us→gI s.heap us ks
 |[],xs,us,r,v=>by
  rw[map_nil]at r;unfold aE at r;subst r;cases v;rfl
 |k::ks,xs,us,r,v=>by
  rw[tu]at r;unfold aE at r;obtain⟨x,w,rfl,rx,rr⟩:=r;cases v with
  |cons v1 v2 =>
   refine⟨k,ks,rfl,?_,zW I rr v2⟩;unfold wY at rx;unfold Rep at rx;obtain⟨a,ys,rfl,_,hq,ry⟩:=rx;cases v1;obtain⟨its,rv,⟨o,ho,hc,n,hd⟩,_⟩:=I.tuple hq;unfold aE at ry;obtain⟨y,i4,rfl,ry1,ry⟩:=ry;unfold aE at ry;obtain⟨y2,ys2,rfl,ry2,ry⟩:=ry;unfold aE at ry;subst ry;unfold Rep at ry1 ry2;subst ry1 ry2;obtain⟨u1,u2,rfl,⟨t,rfl⟩,⟨t',rfl⟩⟩:=rv.two;exact⟨a,o,n,t,t',rfl,ho,hc,hd⟩
theorem BC:∀{is:List Int} {xs:List V} {us:List Value},aE X.K T H S (is.map .int) xs→aQ xs us→rC us (is.map fun i=>(i,0))
 |[],xs,us,r,v=>by
  rw[map_nil]at r;unfold aE at r;subst r;cases v;rfl
 |k::ks,xs,us,r,v=>by
  rw[tu]at r;unfold aE at r;obtain⟨x,w,rfl,rx,rr⟩:=r;cases v with
  |cons v1 v2 =>
   unfold Rep at rx;subst rx;obtain⟨t,rfl⟩:=v1;exact⟨k,t,_,rfl,rfl,BC rr v2⟩
theorem EE{l:Addr}{xs:List V}{ds es:List D}{Q:VK}(I:Inv X pins σ H s)(hl:SqL X.K H l xs)(r:aE X.K T H S ds xs)(hs:mC ds=some es)
  (q:∀p zs,H p=none→aE X.K T H S es zs→Q (.ref p) (upd H p (.lst zs))):wpAny (model X.prog X.w) X.A (call (.builtin "sorted") [.ref l]) (EP X pins σ Q) X.xe s:=by
 obtain⟨its,rv,pl,hz⟩:=I.list hl;have l1:=r.len
 have l2:=rv.length
 have fin:∀(ks:List (Int×Int)) (g:Int×Int→D) (κ:SortKind),ds=ks.map g→ks.length=ds.length→gG ks=true→(∀g',Kept s.heap g'→ql X.prog X.w X.A.in1.in1 κ its (fun i j=>cw (ax ks i) (ax ks j)) { s with heap:=g' })→es=(iO ks).map g →
   wpAny (model X.prog X.w) X.A (call (.builtin "sorted") [.ref l]) (EP X pins σ Q) X.xe s:=fun ks g κ hd hk hc hL he=>by
  unfold gG at hc;rw[rj,sh,sh]at hc;have e0:its.length=ks.length:=by lia
  have o:=IW hc.2
  rw[←e0]at o;refine xH (κ:=κ) pl.isList o (by lia) hL fun g' p c kp pa inc at1=>?_
  have mem:∀i∈p.toList,i<its.length:=fun i hi=>by simpa using pa.pm.mem_iff.mp hi
  have aw:H (s.heap.objs.size+1)=none:=I.hok.fresh (uq _)
  have I3:Inv X pins σ (upd H (s.heap.objs.size+1) (.lst (p.toList.map fun i=>xs.getD i .non))) { s with heap:=g',toks:=s.toks }:=by
   refine I.laid kp (uq _) ⟨?_,kK its p,c,aQ.pick rv fun i hi=>by rw[l2];exact mem i hi,at1⟩
   rw[qv,length_toList,pa.size,←l2];exact hz
  refine⟨.ref _,_,I3,rfl,q _ _ aw ?_⟩;have e1:es=p.toList.map fun i=>ds.getD i .non:=by
   rw[he,←JX (by rw[←e0];exact pa) (by rw[←e0];exact inc),v3]
   refine List.map_congr_left fun i hi=>?_
   have hi':=mem i hi
   subst hd;simp[ax,show i<ks.length by lia]
  rw[e1];exact aE.pick r fun i hi=>by rw[l1,l2];exact mem i hi
 unfold mC at hs;split at hs
 ·rename_i ks hk;split at hs
  ·rename_i hc;cases hs;have ed:=nT hk
   subst ed;exact fin ks wY _ rfl (by simp) hc (fun g' kp=>FE (s:={ s with heap:=g' }) (gI.kept kp (zW I r rv))) rfl
  ·cases hs
 ·split at hs
  ·rename_i is hk;split at hs
   ·rename_i hc;cases hs;have ed:=qL hk
    subst ed;exact fin (is.map fun i=>(i,0)) (fun p=>.int p.1) _ (by simp[v3,Function.comp_def]) (by simp) hc (fun g' kp=>JQ (BC (X:=X) r rv)) rfl
   ·cases hs
  ·cases hs
noncomputable def rBs(K:vi)(T:Tx)(S:Addr→Prop):List V→Hp→VK→Prop:=fun vs H Q =>
 ∃l xs ds es,vs=[.ref l]∧SqL K H l xs∧aE K T H S ds xs∧mC ds=some es∧∀p ys H',aH H H'→H p=none→H' p=some (.lst ys)→aE K T (er H' p) S es ys→Q (.ref p) H'
theorem MN:fY X (.builtin "sorted") (rBs X.K T S):=by
 rintro pins s σ H vs us Q I r ⟨l,xs,ds,es,rfl,hl,rl,hs,q⟩;obtain⟨u,rfl,ru⟩:=r.one;cases ru;exact EE I hl rl hs fun p zs hp rz=>q p zs _ (aH.upd hp) hp aM (by rw[iD hp];exact rz)
end
end Z
namespace Z
open PySem PySem.Spec PyProof.Rows L2
theorem zT:∀{xs:List V} {us:List Value},xs.length=us.length→(∀(i:Nat) x u,xs[i]?=some x→us[i]?=some u→RelV x u)→aQ xs us
 |[],[],_,_=>.nil
 |x::xs,u::us,h,k=>.cons (k 0 x u rfl rfl) (zT (Nat.succ.inj h) fun i y v e f=>k (i+1) y v e f)
section
variable {CX:au}{X:Cx}{c:CC}{G:GS}{T:Tx}{lv:Nat}{ρ:List Sl}{S:Addr→Prop}{tg:Expr}
theorem qA{K:vi}{H:Hp}:∀{l:List Int},aE K T H S (l.map D.int) (l.map V.int)
 |[]=>by unfold aE;rfl
 |i::l=>by
  show aE K T H S (D.int i::l.map D.int) (V.int i::l.map V.int)
  unfold aE;exact⟨_,_,rfl,by unfold Rep;rfl,qA⟩
theorem yD{a:Expr}{p pos p2 pos2:Pos}{j:Int}(hc:X.calm=true)(hg:Gl X "range")(hm:X.mg "range" = none)(je:Gl X "list")(hml:X.mg "list" = none)(ha:PA X [a] (c6 X.K T S ρ [.int j]))(hs:starEach [a] X.env=[(false,eval a X.env)])(h0:dW j=true)(hn:j.toNat≤big) :
  PE X (.Call (.Name "list" p2) [.Call (.Name "range" p) [a] [] pos] [] pos2) (ez X.K T S ρ (cO 0 j)):=by
 intro pins s σ H Q I ⟨re,q⟩;refine Call_ (fU I je hml uG (t7 (Calls.spliced_cons (Call_ (fU I hg hm boot_range (t7 (af (ha pos pins s σ H (fun vs H'=>aH H H'∧aE X.K T H' S [.int j] vs) I ⟨re,fun vs H' a b=>⟨a,b⟩⟩) fun us s1 ⟨vs,H1,I1,r1,sm,rl⟩=>?_) hs rfl)))) rfl rfl))
 unfold aE at rl;obtain⟨x,r',rfl,rx,rr⟩:=rl;unfold aE at rr;subst rr;unfold Rep at rx;subst rx;obtain⟨b1,b2⟩:=gA h0;have hb:j.toNat≤1000000:=hn
 cases r1 with
 |cons r rr =>
  cases rr;obtain⟨t,rfl⟩:=r;refine call_range_1 (Calls.spliced_nil ?_);generalize i7:({ s1 with heap:=s1.heap.push { cls:=.type "range",data:=.fields #[.int 0 s1.toks,.int j t,.int 1 (s1.toks+1)] },toks:=s1.toks+1+1 }:Shared)=s2
  have I2:Inv X pins σ H1 s2:=by subst i7;exact I1.kept fun b o e=>qz _ e
  have hr:IsRange s2.heap s1.heap.objs.size 0 j 1 s1.toks t (s1.toks+1):=by subst i7;exact IsRange.new ..
  refine call_list_range (n:=j.toNat) (I2.ok.hd hc) hr (small_one (by decide) (by decide) b1 b2) (by rw[rangeSize_one];split<;>lia) (by lia) fun h' tk dh c' hk jt gh=>?_
  have vs:aQ (((List.range j.toNat).map fun (k:Nat)=>(k:Int)).map V.int) dh.toList:=by
   refine zT (by simp[gh.1]) fun i y u e f=>?_
   obtain⟨t',rfl⟩:=gh.2 i u (by simpa using f)
   rw[v3,qu]at e;cases hr:(List.range j.toNat)[i]? with
   |none=>rw[hr]at e;cases e
   |some k =>
    rw[hr]at e;have hk:k=i:=by
     obtain⟨h1,h2⟩:=q8.mp hr;simpa using h2.symm
    subst hk;cases e;exact⟨t',by rw[Int.mul_one,Int.zero_add]⟩
  have aw:H1 s2.heap.objs.size=none:=I2.hok.fresh (qw _)
  have I3:Inv X pins σ (upd H1 s2.heap.objs.size (.lst (((List.range j.toNat).map fun (k:Nat)=>(k:Int)).map V.int))) { s2 with heap:=h',toks:=tk }:=by
   refine I2.laid (fun b u e=>hk b u e) (qw _) ?_
   refine⟨by simp only[qv,sj];rw[sizeLine_eq];lia,dh.toList,c',vs,?_⟩
   rw[jt]
  refine⟨.ref _,_,I3,rfl,q _ _ _ (sm.trans (aH.upd aw)) (sm.free aw) aM ?_⟩;rw[iD aw];have e:cO 0 j=((List.range j.toNat).map fun (k:Nat)=>(k:Int)).map D.int:=by
   unfold cO;rw[v3];simp
  rw[e];exact qA
end
variable {CX:au}{G:GS}{T:Tx}{lv:Nat}
theorem cL{o:Option D}{ds:List D}(h:bF o=some ds):o=some (.tup ds):=by
 unfold bF at h;split at h
 ·cases h;rfl
 ·cases h
theorem lM{o:Option Rs}{d:D}(h:iL o=some d):o=some (.ok d):=by
 unfold iL at h;split at h
 ·cases h;rfl
 ·cases h
theorem hZ{o:Option D}{i:Int}(h:intOf o=some i):o=some (.int i):=by
 unfold intOf at h;split at h
 ·cases h;rfl
 ·cases h
theorem dZ{X:Cx}{K:vi}{c:CC}{S:Addr→Prop}{ρ:List Sl}{e:Expr}{d:D}(h:PE X e (tD X.K T S ρ d))(hf:gJ c e=false):PE X e (tD X.K T S ρ d)∧(gJ c e=true→∀ds,d=.lst ds→PE X e (ez X.K T S ρ ds)):=
 ⟨h,fun z=>by rw[hf]at z;cases z⟩
theorem fL{X:Cx}{c:CC}{S:Addr→Prop}{ρ:List Sl}{e:Expr}{ds:List D}(h:PE X e (ez X.K T S ρ ds)):PE X e (tD X.K T S ρ (.lst ds))∧(gJ c e=true→∀es,D.lst ds=.lst es→PE X e (ez X.K T S ρ es)):=
 ⟨JM h,fun _ es z=>by cases z;exact h⟩
theorem jJ{X:Cx}{c:CC}{S:Addr→Prop}{ρ:List Sl}{n:Nat}(hE:gc CX G T lv n)(xc:XC CX X c G T lv){lo:Option Expr}{l:IE}{o:Option Int}(h:rU (cE n c) lo=some l)(hp:part lo.isSome (ev G l ρ)=some o):PO X lo (jz X.K T S ρ o):=by
 cases lo with
 |none =>
  simp only[part,Option.isSome_none,r8,if_false,qp]at hp;subst hp;exact aEI
 |some e =>
  simp only[part,Option.isSome_some,if_true,rq]at hp;obtain⟨i,hi,rfl⟩:=hp;exact aEH (hE X c S ρ e l xc h _ (hZ hi)).1
theorem FB{c:CC}{x:Str}{i:Nat}(h:aAm c x=some i):bX c x=some i:=by
 unfold aAm at h;exact(aY h).2
theorem fM{c:CC}{e:Expr}{i:Nat}(h:eY c e=some i):∃x p,e=.Name x p∧bX c x=some i:=by
 obtain⟨x,h1,h⟩:=aG h;exact⟨x.1,x.2,cP h1,FB h⟩
theorem qP{K:vi}{S:Addr→Prop}{H H1 H':Hp}{es:List D}{v:V}{Q:VK}(s1:aH H H1)(s2:aH H1 H')(fr:rE K T S H1 H' (.lst es) v)(q:∀p xs H',aH H H'→H p=none→H' p=some (.lst xs)→aE K T (er H' p) S es xs→Q (.ref p) H'):Q v H':=by
 obtain⟨p,xs,rfl,hn,hs,rl⟩:=fr es rfl;exact q p xs H' (s1.trans s2) (s1.free hn) hs rl
theorem GM:bootBuiltins "sorted" = some (.builtin "sorted"):=by decide +kernel
theorem wM{ds:List D}{d:D}(h:kP ds=some d):∃xs es,ds=[.lst xs]∧mC xs=some es∧d=.lst es:=by
 unfold kP at h;split at h
 ·obtain⟨es,h1,rfl⟩:=rq.mp h;exact⟨_,es,rfl,h1,rfl⟩
 ·cases h
theorem aBg:bootBuiltins "len" = some (.builtin "len"):=by decide +kernel
theorem ML:bootBuiltins "tuple" = some (.type "tuple"):=by decide +kernel
theorem aBf:bootBuiltins "max" = some (.builtin "max"):=by decide +kernel
theorem SB{X:Cx}{c:CC}{S:Addr→Prop}{ρ:List Sl}(xc:XC CX X c G T lv){x:Str}{b:BF}{p pos:Pos}{es:List Expr}{ds:List D}{d:D}(hg:aW c x=true)(hm:X.mg x=none)(hb:oY x=some b)(ha:PA X es (c6 X.K T S ρ ds))(hs:starEach es X.env=es.map fun e=>(false,eval e X.env))(hlen:ds.length=es.length)(hd:bf b ds=some d) :
  PE X (.Call (.Name x p) es [] pos) (tD X.K T S ρ d)∧(x = "list"∨x = "sorted"→∀gb,d=.lst gb→PE X (.Call (.Name x p) es [] pos) (ez X.K T S ρ gb)):=by
 cases es with
 |nil =>
  have:ds=[]:=tm.mp hlen
  subst this;cases b<;>simp[bf,TM,aFs,wN,tT,LD,aFr,kP]at hd
 |cons e es =>
  obtain⟨h1,h2⟩:=pX (pos:=pos) hs;have je:=xc.glob hg
  have go:∀{g:List D→Option D},g ds=some d→∀σ H Q,tD X.K T S ρ d σ H Q→tCB (rBf X.K T S g) (c6 X.K T S ρ ds) σ H Q:=fun {g} jf σ H Q ⟨re,q⟩=>⟨re,fun vs H1 s1 r1=>⟨ds,d,(re.same s1).dom,r1,jf,fun v H' s2 r2=>q v H' (s1.trans s2) r2⟩⟩
  unfold oY at hb;split at hb
  ·rename_i e0;subst e0;cases hb;exact⟨PE.mono (fS aFD je hm aBg ha (by decide +kernel) (by decide +kernel) h1 h2) (go hd),fun z=>absurd z (by decide +kernel)⟩
  split at hb
  ·rename_i e0;subst e0;cases hb;have hl:∃gb,d=.lst gb:=by
    simp only[bf]at hd;unfold wN at hd;split at hd<;>first|(cases hd;exact⟨_,rfl⟩)|cases hd
   obtain⟨gb,rfl⟩:=hl;have pn:PE X (.Call (.Name "list" p) (e::es) [] pos) (ez X.K T S ρ gb):=PE.mono (qD aBi je hm uG ha (by decide +kernel) (by decide +kernel) h1 h2) fun σ H Q ⟨re,q⟩=>⟨re,fun vs H1 s1 r1=>⟨ds,gb,r1,hd,fun p ys H' s2 hn c7 rl=>by
    refine q p ys H' (s1.trans s2) ?_ c7 rl;cases e0:H p with
    |none=>rfl
    |some o=>rw[s1 p o e0]at hn;cases hn⟩⟩
   exact⟨JM pn,fun _ es2 z=>by cases z;exact pn⟩
  split at hb
  ·rename_i e0;subst e0;cases hb;exact⟨PE.mono (qD UG je hm ML ha (by decide +kernel) (by decide +kernel) h1 h2) (go hd),fun z=>absurd z (by decide +kernel)⟩
  split at hb
  ·rename_i e0;subst e0;cases hb;exact⟨PE.mono (fS (aFC xc.calm) je hm aBf ha (by decide +kernel) (by decide +kernel) h1 h2) (go hd),fun z=>absurd z (by decide +kernel)⟩
  split at hb
  ·cases hb;cases hd
  split at hb
  ·rename_i e0;subst e0;cases hb;obtain⟨xs,gb,rfl,hso,rfl⟩:=wM hd;have pn:PE X (.Call (.Name "sorted" p) (e::es) [] pos) (ez X.K T S ρ gb):=PE.mono (fS (MN (T:=T) (S:=S)) je hm GM ha (by decide +kernel) (by decide +kernel) h1 h2) fun σ H Q ⟨re,q⟩=>⟨re,fun vs H1 s1 r1=>by
    obtain⟨x,rfl,rx⟩:=rep1 r1;unfold Rep at rx;obtain⟨l,ys,rfl,_,hq,ry⟩:=rx;refine⟨l,ys,xs,gb,rfl,SqL.of hq,ry,hso,fun p zs H' s2 hn c7 rl=>q p zs H' (s1.trans s2) ?_ c7 rl⟩
    cases e0:H p with
    |none=>rfl
    |some o=>rw[s1 p o e0]at hn;cases hn⟩
   exact⟨JM pn,fun _ es2 z=>by cases z;exact pn⟩
  split at hb
  ·cases hb;cases hd
  ·cases hb
theorem aFA{x:Str}{b:BF}(h:oY x=some b):fK.contains x=true:=by
 unfold oY at h
 repeat' split at h
 all_goals first|cases h;done|(rename_i e;subst e;decide +kernel)
theorem aCn{x:Str}(h:jE.contains x=true):fK.contains x=true:=by
 rw[List.contains_iff_mem]at h ⊢;unfold jE at h;simp only[sv,uz,or_false]at h;rw[←List.contains_iff_mem]
 rcases h with h|h|h|h|h<;>subst h<;>decide +kernel
section
variable {n:Nat}{X:Cx}{c:CC}{S:Addr→Prop}{ρ:List Sl}{ir:IE}{d:D}
abbrev Tells(CX:au)(T:Tx)(X:Cx)(c:CC)(S:Addr→Prop)(ρ:List Sl)(e:Expr)(d:D):Prop:=PE X e (tD X.K T S ρ d)∧(gJ c e=true→∀ds,d=.lst ds→PE X e (ez X.K T S ρ ds))
theorem YE{G:GS}{z:IE}{ρ:List Sl}{d:D}(hd:ev G (.walk .rng (.tup (.cons z .nil))) ρ=some d):∃j,ev G z ρ=some (.int j)∧dW j=true∧j.toNat≤big∧d=.lst (cO 0 j):=by
 replace hd:(((bF ((ev G z ρ).bind fun d=>some (.tup [d]))).map D.tup).bind fun s=>(items .rng s).map D.lst)=some d:=hd
 cases hz:ev G z ρ with
 |none=>rw[hz]at hd;cases hd
 |some v =>
  rw[hz]at hd;replace hd:(AY [v]).map D.lst=some d:=hd;cases v<;>first|exact nomatch (show none=some d from hd)|skip
  rename_i j;replace hd:(if dW j&&decide (j.toNat≤big) then some (cO 0 j) else none).map D.lst=some d:=hd
  split at hd
  ·rename_i hc;rw[rj,sh]at hc;cases hd;exact⟨j,rfl,hc.1,hc.2,rfl⟩
  ·cases hd
theorem aDV(hE:gc CX G T lv n)(hA:jx CX G T lv n)(xc:XC CX X c G T lv){x:Str}{p q:Pos}{args:List Expr}{b:BF}(hg:aW c x=true)(hf:c.fns.contains x=false)(hc:c.cls.contains x=false)(hb:oY x=some b)(h:EK (cE n c) c b args (cA n c args)=some ir)(hd:ev G ir ρ=some d):Tells CX T X c S ρ (.Call (.Name x p) args [] q) d:=by
 have hm:=gH xc (aFA hb) hf hc
 have bcl:∀{y:IE},cA n c args=some y→ir=.bcall b y→Tells CX T X c S ρ (.Call (.Name x p) args [] q) d:=fun {y} hy e=>by
  subst e;simp only[ev,qx,qr]at hd;obtain⟨ds,bo,hd⟩:=hd;obtain⟨ds',e1,hl,pa,hs⟩:=hA X _ S ρ args y xc hy _ (cL bo);cases e1;have r:=SB (p:=p) (pos:=q) xc hg hm hb pa hs hl hd
  refine⟨r.1,fun z es e=>r.2 ?_ es e⟩
  have z:((c.fns.contains x&&c.fresh.contains x) || (aW c x&&(x == "list" || x == "sorted")&&!own c x))=true:=z
  simp only[own,hf,hc,hg,Bool.false_and,Bool.false_or,Bool.true_and,Bool.or_false,Bool.not_false,Bool.and_true,or_eq_true,u0]at z;exact z
 have mb:(cA n c args).map (fun x=>IE.bcall b x)=some ir→Tells CX T X c S ρ (.Call (.Name x p) args [] q) d:=fun h=>by
  obtain⟨y,hy,e⟩:=aP h;exact bcl hy e
 unfold EK at h;cases o4:VJ c args with
 |some i =>
  rw[o4]at h;obtain⟨e,h1,h2⟩:=aG o4;obtain⟨y,py,rfl,gp⟩:=fM h2;obtain rfl:=bM h1;cases b with
  |int=>exact mb h
  |list=>exact mb h
  |tuple=>exact mb h
  |max=>exact mb h
  |min=>exact mb h
  |str=>exact mb h
  |any=>exact mb h
  |len =>
   have h:(if ([Expr.Name y py].any FM) then some (IE.lend i) else none)=some ir:=h
   obtain⟨hdv,h⟩:=aY h;have hx:x = "len":=by
    unfold oY at hb
    repeat' split at hb
    all_goals first|assumption|cases hb
   cases h;obtain⟨kvs,ig,hd⟩:=aG hd;cases hd;subst hx;exact⟨aAh xc hg hm gp ig,fun _ ds z=>by cases z⟩
  |sorted=>exact mb h
 |none =>
  rw[o4]at h;cases hr:xW c args with
  |none =>
   rw[hr]at h;cases hq:(one? args).bind (xV c) with
   |none =>
    rw[hq]at h;exact mb (by cases b<;>exact h)
   |some a =>
    rw[hq]at h;cases b with
    |int=>exact mb h
    |len=>exact mb h
    |tuple=>exact mb h
    |max=>exact mb h
    |min=>exact mb h
    |str=>exact mb h
    |any=>exact mb h
    |sorted=>exact mb h
    |list =>
     clear bcl mb;obtain⟨z,hz,rfl⟩:=aP (show (cE n c a).map (fun x=>IE.walk .rng (.tup (.cons x .nil)))=some ir from h)
     obtain⟨j,hj,h0,hn,rfl⟩:=YE hd;have hx:x = "list":=by
      unfold oY at hb
      repeat' split at hb
      all_goals first|assumption|cases hb
     subst hx;obtain⟨e,h1,r1⟩:=aG hq;obtain⟨r,h2,r2⟩:=aG r1;obtain⟨jq,r3⟩:=aY r2;obtain⟨p1,p2,e5,jf,ho⟩:=jC h2;obtain⟨y,as⟩:=r;have e6:y = "range":=u0.mp jq
     have e7:as=[a]:=bM r3
     have e8:=bM h1
     clear hr hq h1 r1 h2 r2 jq r3 o4 h;subst e6 e7;dsimp only at e5 jf ho;subst e5;subst e8;obtain⟨iw,js⟩:=AR ho;have st:=(dE hz).star X.env []
     exact fL (yD xc.calm (xc.glob jf) (gH xc (by decide +kernel) iw js) (xc.glob hg) hm (nW (hE X _ S ρ a z xc hz _ hj).1 vR st) st h0 hn)
  |some a =>
   rw[hr]at h;cases b with
   |int=>exact mb h
   |len=>exact mb h
   |tuple=>exact mb h
   |max=>exact mb h
   |min=>exact mb h
   |str=>exact mb h
   |any=>exact mb h
   |sorted=>exact mb h
   |list =>
   clear bcl mb;obtain⟨z,hz,rfl⟩:=aP (show (cE n c a).map (fun x=>IE.walk .rev x)=some ir from h)
   simp only[ev,qx,qr,rq]at hd;obtain⟨w,hw,ds,bo,rfl⟩:=hd;have hx:x = "list":=by
    unfold oY at hb
    repeat' split at hb
    all_goals first|assumption|cases hb
   subst hx;obtain⟨e,h1,r1⟩:=aG hr;obtain⟨r,h2,r2⟩:=aG r1;obtain⟨hn,r3⟩:=aY r2;obtain⟨p1,p2,e5,jf,ho⟩:=jC h2;obtain⟨y,as⟩:=r;have e6:y = "reversed":=u0.mp hn
   have e7:as=[a]:=bM r3
   have e8:=bM h1
   clear hr h1 r1 h2 r2 hn r3 o4 h;subst e6 e7;dsimp only at e5 jf ho;subst e5;subst e8;obtain⟨iw,js⟩:=AR ho;have st:=(dE hz).star X.env []
   exact fL (yE xc.calm (xc.glob jf) (gH xc (by decide +kernel) iw js) (xc.glob hg) hm (nW (hE X _ S ρ a z xc hz w hw).1 vR st) st bo)
theorem JC(hE:gc CX G T lv n)(hA:jx CX G T lv n)(xc:XC CX X c G T lv){x:Str}{p q:Pos}{args:List Expr}(h:AC (cE n c) c x args (cA n c args)=some ir)(hd:ev G ir ρ=some d):Tells CX T X c S ρ (.Call (.Name x p) args [] q) d:=by
 obtain⟨hg,h⟩:=aY h;cases gg:c.fns.contains x with
 |true =>
  rw[gg]at h;obtain⟨y,hy,rfl⟩:=aP (show (cA n c args).map (fun y=>IE.call x y)=some ir from h)
  simp only[ev,qx,qr]at hd;obtain⟨ds,bo,hd⟩:=hd;obtain⟨ds',e1,hl,pa,hs⟩:=hA X _ S ρ args y xc hy _ (cL bo);cases e1;have r:=aAl (p:=p) (pos:=q) xc hg gg pa hs hl (lM hd)
  refine⟨PE.mono r fun σ H Q ⟨re,q⟩=>⟨re,fun v H1 H' s1 s2 rp _=>q v H' (s1.trans s2) rp⟩,fun hf es e=>?_⟩
  subst e;have iw:G.ff x=true:=by
   have z:((c.fns.contains x&&c.fresh.contains x) || (aW c x&&(x == "list" || x == "sorted")&&!own c x))=true:=hf
   simp only[own,gg,Bool.true_and,Bool.true_or,tf,Bool.and_false,Bool.or_false]at z;exact(xc.go.frs x z).1
  exact PE.mono r fun σ H Q ⟨re,q⟩=>⟨re,fun v H1 H' s1 s2 rp fr=>qP s1 s2 (fr iw) q⟩
 |false =>
  rw[gg]at h;cases az:c.cls.contains x with
  |true =>
   rw[az]at h;obtain⟨y,hy,rfl⟩:=aP (show (cA n c args).map (fun y=>IE.mk x y)=some ir from h)
   simp only[ev,qx,qr]at hd;obtain⟨ds,bo,hd⟩:=hd;obtain⟨ds',e1,hl,pa,hs⟩:=hA X _ S ρ args y xc hy _ (cL bo);cases e1;refine dZ (K:=X.K) (aHZ xc hg az pa hs hl (lM hd)) ?_;show ((c.fns.contains x&&c.fresh.contains x) || (aW c x&&(x == "list" || x == "sorted")&&!own c x))=false
   simp only[own,gg,az,Bool.false_and,Bool.or_true,tf,Bool.and_false,Bool.or_false]
  |false =>
   rw[az]at h;cases hi:x == "isinstance" with
   |false =>
    rw[hi]at h;obtain⟨b,hb,h⟩:=aG (show (oY x).bind (fun b=>EK (cE n c) c b args (cA n c args))=some ir from h)
    exact aDV hE hA xc hg gg az hb h hd
   |true =>
    rw[hi]at h;obtain rfl:=u0.mp hi;have h:HS (cE n c) c args=some ir:=h
    match args,h with
    |[a,y],h =>
     obtain⟨y',bY,h⟩:=aG h;obtain⟨hk,h⟩:=aY h;obtain⟨hk,hk3⟩:=cJ hk;obtain⟨l7,kg⟩:=cJ hk;obtain⟨z,hz,rfl⟩:=aP h;obtain rfl:=cP bY;obtain⟨i8,cy⟩:=AR (VF hk3);simp only[ev,qx,qr,rq]at hd;obtain⟨w,hw,k,hk,rfl⟩:=hd;have ht:∃tn,la w=some tn:=by
      cases w<;>first|exact⟨_,rfl⟩|(simp only[iV,reduceCtorEq]at hk)
     obtain⟨tn,ht⟩:=ht;have st:=(dE hz).star X.env [.Name y'.1 y'.2]
     exact⟨aEN xc hg (gH xc (by decide +kernel) gg az) l7 (gH xc (aCn kg) i8 cy) kg (hE X _ S ρ a z xc hz w hw).1 (by rw[st];rfl) ht hk,fun _ ds z=>by cases z⟩
theorem RP(hE:gc CX G T lv n)(hA:jx CX G T lv n)(xc:XC CX X c G T lv){o:Expr}{m:Str}{ap q:Pos}{args:List Expr}(h:(if jM o&&decide (args.length<30)&&(ap.endLine == q.line) then(cE n c o).bind fun x=>(cA n c args).map fun y=>IE.meth x m y else none)=some ir)(hd:ev G ir ρ=some d):Tells CX T X c S ρ (.Call (.Attribute o m ap) args [] q) d:=by
 obtain⟨hc,h⟩:=aY h;obtain⟨hc,hc3⟩:=cJ hc;obtain⟨hc1,fq⟩:=cJ hc;obtain⟨x,hx,h⟩:=aG h;obtain⟨y,hy,rfl⟩:=aP h;simp only[ev,qx,qr]at hd;obtain⟨w,hw,hd⟩:=hd;cases w<;>first|exact nomatch (show none=some d from hd)|skip
 rename_i cn fs;obtain⟨hnone,hd⟩:=aY hd;obtain⟨ds,bo,hd⟩:=aG hd;obtain⟨ds',e1,hl,pa,hs⟩:=hA X _ S ρ args y xc hy _ (cL bo);cases e1;have r:=aAg (pos:=q) xc (vT hc1 hs (of_decide_eq_true fq) hc3) (hE X _ S ρ o x xc hx _ hw).1 (Option.isNone_iff_eq_none.mp hnone) pa hs hl (lM hd)
 refine⟨PE.mono r fun σ H Q ⟨re,q⟩=>⟨re,fun v H1 H' s1 s2 rp _=>q v H' (s1.trans s2) rp⟩,fun hf es e=>?_⟩
 subst e;have iw:=(xc.go.frs m hf).2 cn
 exact PE.mono r fun σ H Q ⟨re,q⟩=>⟨re,fun v H1 H' s1 s2 rp fr=>qP s1 s2 (fr iw) q⟩
theorem KZ{es:List Expr}(h:few es=true):es.length≤sizeLine:=sr (of_decide_eq_true h) (sr (by decide) iI)
theorem aAb(hE:gc CX G T lv n)(xc:XC CX X c G T lv){a i:Expr}{p:Pos}(h:HP (cE n c) (FM a) (eY c a) (cE n c a) i=some ir)(hd:ev G ir ρ=some d):Tells CX T X c S ρ (.Subscript a i p) d:=by
 unfold HP at h;cases gp:ny i with
 |some q =>
  rw[gp]at h;obtain⟨lo,hi,st,pp⟩:=q;obtain rfl:=HK gp;cases st with
  |some _=>exact nomatch (show none=some ir from h)
  |none =>
   obtain⟨l,hl,h⟩:=aG (show (rU (cE n c) lo).bind _=some ir from h)
   obtain⟨u,hu,h⟩:=aG h;unfold aDc at h;cases hm:eY c a with
   |some j=>rw[hm]at h;cases h
   |none =>
    rw[hm]at h;obtain⟨x,hx,rfl⟩:=aP h;simp only[ev,qx,qr]at hd;obtain⟨w,hw,ol,hol,ou,o3,hd⟩:=hd;have pa:=(hE X _ S ρ a x xc hx w hw).1
    cases w<;>first|exact nomatch (show none=some d from hd)|skip
    ·cases hd;exact fL (VG pa (jJ hE xc hl hol) (jJ hE xc hu o3) (.inl rfl))
    ·simp only at hd;split at hd
     ·cases hd
     ·rename_i jn;cases hd;exact⟨aEG pa (jJ hE xc hl hol) (jJ hE xc hu o3) jn,fun _ ds z=>by cases z⟩
    ·cases hd;exact fL (VG pa (jJ hE xc hl hol) (jJ hE xc hu o3) (.inr rfl))
 |none =>
  rw[gp]at h;obtain⟨k,hk,h⟩:=aG h;refine dZ (K:=X.K) ?_ (by show (ny i).isSome=false;rw[gp];rfl)
  unfold aDf at h;cases hm:eY c a with
  |some j =>
   rw[hm]at h;have h:(if FM a then some (IE.ixd j k) else none)=some ir:=h
   obtain⟨hdv,h⟩:=aY h;cases h;obtain⟨x,px,rfl,gp⟩:=fM hm;obtain⟨kvs,ig,hd⟩:=aG hd;obtain⟨ii,hii,hd⟩:=aG hd;exact aEM xc (KO xc.room) gp (hE X _ S ρ i k xc hk _ (hZ hii)).1 (dE hk).ix ig hd
  |none =>
   rw[hm]at h;obtain⟨x,hx,rfl⟩:=aP h;simp only[ev,qx,qr]at hd;obtain⟨u,hu,v,hv,hd⟩:=hd;have pa:=(hE X _ S ρ a x xc hx u hu).1
   have pi:=(hE X _ S ρ i k xc hk v hv).1
   cases v<;>first|(cases u<;>exact nomatch (show none=some d from hd))|skip
   cases u<;>first|exact nomatch (show none=some d from hd)|skip
   ·exact aAi pa pi (dE hk).ix (.inl rfl) hd
   ·exact aAi pa pi (dE hk).ix (.inr (.inl rfl)) hd
   ·exact aES (KO xc.room) pa pi (dE hk).ix hd
   ·exact aAi pa pi (dE hk).ix (.inr (.inr rfl)) hd
theorem DH(hE:gc CX G T lv n)(hT:nj CX G T lv n)(hI:OkI CX G T lv n)(xc:XC CX X c G T lv){elt:Expr}{gs:List Comprehension}{sc:Scope}{p:Pos}(h:cE (n+1) c (.ListComp elt gs sc p)=some ir)(hd:ev G ir ρ=some d) :
  ∃tg iter ifs fr ba tp ds outs f,gs=[⟨tg,iter,ifs,0⟩]∧d=.lst outs∧kB c sc=true∧freeOf c sc (sc.names.filter fun x=>x.2 == .free)=some fr∧ba.all (fun i=>(fr.lookup i).isNone)=true∧dA { c with N:=ownNames sc,sc:=sc } tg=some (ba,tp) ∧
   PI X tg iter (tI X.K T S ρ ds)∧(∀x,foldedSetIterable iter X.env x=pure x)∧bU f ds=some outs ∧
   (∀d o,f d=some o→∃ρ1,bJ ba tp d (frame (ownNames sc).length fr ρ)=some ρ1∧TurnOk CX G T lv { c with N:=ownNames sc,sc:=sc } X.K ifs elt ρ1 o):=by
 obtain⟨g,jr,h⟩:=aG h;obtain⟨tg,iter,ifs,as⟩:=g
 by_cases ha:as=0
 ·subst ha;obtain⟨⟨ba,tp⟩,dy,h⟩:=aG (show HU c sc ⟨tg,iter,ifs,0⟩ (cI n c iter) (cT n { c with N:=ownNames sc,sc:=sc }) (cE n { c with N:=ownNames sc,sc:=sc } elt)=some ir from h)
  obtain⟨⟨k,src⟩,hk,h⟩:=aG h;obtain⟨test,cu,h⟩:=aG h;obtain⟨el,hel,h⟩:=aG h;obtain⟨fr,aw,h⟩:=aG h;obtain⟨hok,h⟩:=aY h;obtain⟨hok,d6⟩:=cJ hok;have tgk:MV k tg:=fun e=>by rw[e]at d6;exact nomatch d6
  obtain⟨i8,cy⟩:=cJ hok;cases h;obtain⟨s,hs,hd⟩:=aG hd;obtain⟨ds,bo,hd⟩:=aG hd;obtain⟨outs,houts,rfl⟩:=aP hd;obtain⟨hi,hset⟩:=hI X _ S ρ iter k src xc hk s ds hs bo;refine⟨tg,iter,ifs,fr,ba,tp,ds,outs,_,bM jr,rfl,i8,aw,cy,dy,hi tg tgk,hset,houts,?_⟩;intro d o hf;obtain⟨ρ1,h1,hf⟩:=aG hf;obtain⟨w,hw,hf⟩:=aG hf;refine⟨ρ1,h1,fun X' S' xc' hK=>?_⟩
  cases w<;>first|exact nomatch (show none=some o from hf)|skip
  rename_i kk;have ho:kk=o.isSome∧∀y,o=some y→ev G el ρ1=some y:=by
   cases kk with
   |true =>
    obtain⟨y,hy,rfl⟩:=aP hf;exact⟨rfl,fun z e=>by cases e;exact hy⟩
   |false =>
    cases hf;exact⟨rfl,fun z e=>by cases e⟩
  obtain⟨rfl,hy⟩:=ho;refine⟨?_,fun y e=>(hE X' _ S' ρ1 elt el xc' hel y (hy y e)).1⟩
  match ifs,cu with
  |[],cu =>
   cases cu;simp only[ev,Lit.d,qp,D.bl.injEq]at hw;exact .inl ⟨rfl,hw.symm⟩
  |[e],cu=>exact .inr ⟨e,rfl,hT X' _ S' ρ1 e test xc' cu _ hw⟩
 ·exact nomatch (show none=some ir from(if_neg ha).symm.trans h)
theorem JB(hE:gc CX G T lv n)(xc:XC CX X c G T lv){a:Expr}{os:List CmpOp}{bs:List Expr}{p:Pos}(h:HV c (cE n c) (cE n c a) os bs=some ir)(hd:ev G ir ρ=some d):PE X (.Compare a os bs p) (tD X.K T S ρ d)∧∀k,d=.bl k→PT X (.Compare a os bs p) (gk X.K T S ρ k):=by
 match os,bs,h with
 |[o],[b],h =>
  obtain⟨x,hx,h⟩:=aG h;cases hi:aFg c o b with
  |some q =>
   rw[hi]at h;cases h;obtain⟨k,hk,hi⟩:=aG hi;obtain⟨r,hr,hi⟩:=aG hi;obtain⟨hg,hi⟩:=aY hi;cases hi;obtain rfl:=cP hr;obtain rfl:o=SO k:=by cases o<;>first|exact nomatch (show none=some k from hk)|(cases hk;rfl)
   cases hu:ev G x ρ with
   |none=>simp only[ev,hu]at hd;cases hd
   |some u =>
    simp only[ev,hu,qx,uo]at hd;cases u<;>first|exact nomatch (show none=some d from hd)|skip
    rename_i s;obtain⟨kvs,hkv,rfl⟩:=aP hd;have pa:=(hE X _ S ρ a x xc hx _ hu).1
    exact⟨aEP xc (cJ hg).1 hkv pa k,fun k' e=>by cases e;exact aAj xc (cJ hg).1 hkv pa k⟩
  |none =>
  rw[hi]at h;obtain⟨y,hy,rfl⟩:=aP h;simp only[ev,qx,qr]at hd;obtain⟨u,hu,v,hv,hd⟩:=hd;have pa:=(hE X _ S ρ a x xc hx u hu).1
  have pb:=(hE X _ S ρ b y xc hy v hv).1
  exact⟨aET xc.units pa pb ((dE hy).marks o) hd,fun k e=>by subst e;exact aAk xc.units pa pb ((dE hy).marks o) hd⟩
 |[o,o'],[b,b'],h =>
  obtain⟨x,hx,h⟩:=aG h;obtain⟨y,hy,h⟩:=aG h;obtain⟨z,hz,rfl⟩:=aP h;simp only[ev,qx,qr]at hd;obtain⟨v,hv,u,hu,w,hw,hd⟩:=hd;have pa:=(hE X _ S ρ a x xc hx u hu).1
  have pb:=(hE X _ S ρ b y xc hy v hv).1
  have lm:lastMarks [o,o'] [b,b']=false:=(dE hz).marks o'
  cases w<;>first|exact nomatch (show none=some d from hd)|skip
  rename_i kk;cases kk with
  |true =>
   obtain⟨w,jn,hd⟩:=aG hd;have pc:=(hE X _ S ρ b' z xc hz w jn).1
   exact⟨RZ xc.units pa pb pc lm hw (by rw[if_pos rfl];exact hd),fun k e=>by subst e;exact JN xc.units pa pb pc lm hw (by rw[if_pos rfl];exact hd)⟩
  |false =>
   cases hd;refine⟨PE.mono (vM (eP (T:=T) (S:=S) xc.units o) (eP (T:=T) (S:=S) xc.units o') pa pb (tc:=fun _ _ _=>False) (fun _ _ _ _ _ _ h=>h.elim) lm) fun σ H Q ⟨re,q⟩=>⟨re,fun x H1 s1 r1=>⟨re.same s1,fun y H2 s2 r2=>⟨u,v,.bl false,((re.same s1).same s2).dom,r1.same s2,r2,hw,fun z H3 s3 r3=>?_⟩⟩⟩,fun k e=>?_⟩
   ·unfold Rep at r3;exact⟨false,r3,pG (q _ H3 (s1.trans (s2.trans s3)) bT)⟩
   ·cases e;refine PT.mono (vJ (eP (T:=T) (S:=S) xc.units o) (eP (T:=T) (S:=S) xc.units o') pa pb (tc:=fun _ _ _=>False) (fun _ _ _ _ _ _ h=>h.elim) lm) fun σ H Q ⟨re,q⟩=>⟨re,fun x H1 s1 r1=>⟨re.same s1,fun y H2 s2 r2=>⟨u,v,.bl false,((re.same s1).same s2).dom,r1.same s2,r2,hw,fun z H3 s3 r3=>?_⟩⟩⟩
    unfold Rep at r3;exact⟨false,r3,pG ⟨_,rfl,q H3 (s1.trans (s2.trans s3))⟩⟩
end
theorem JF{n:Nat}(hE:gc CX G T lv n)(hT:nj CX G T lv n)(hB:qi CX G T lv n)(hA:jx CX G T lv n)(hI:OkI CX G T lv n):gc CX G T lv (n+1):=by
 intro X c S ρ e ir xc h d hd;cases e<;>first|exact nomatch (show none=some ir from h)|skip
 case Name x p =>
  refine dZ (K:=X.K) ?_ rfl;have h:xZ c x=some ir:=h
  unfold xZ at h;cases hs:bX c x with
  |some i =>
   rw[hs]at h;cases h;simp only[ev]at hd;exact aED xc hs hd
  |none =>
   rw[hs]at h;obtain⟨hg,h⟩:=aY h;cases h;simp only[ev]at hd;exact aEQ xc (cJ hg).1 (cJ hg).2 hd
 case Constant v k p =>
  refine dZ (K:=X.K) ?_ rfl;have h:AB v=some ir:=h
  cases v<;>first|exact nomatch (show none=some ir from h)|skip
  all_goals
   cases h;simp only[ev,Lit.d,qp]at hd;subst hd
  ·exact aEK
  ·exact aIa
  ·exact aEO
  ·exact aEF
 case BinOp a o b p =>
  refine dZ (K:=X.K) ?_ rfl;obtain⟨o',ho,h⟩:=aG h;obtain⟨x,hx,h⟩:=aG h;obtain⟨y,hy,rfl⟩:=aP h;simp only[ev,qx,qr]at hd;obtain⟨u,hu,v,hv,hd⟩:=hd;exact aEU ho (hE X _ S ρ a x xc hx u hu).1 (hE X _ S ρ b y xc hy v hv).1 hd
 case UnaryOp o a p =>
  refine dZ (K:=X.K) ?_ rfl;have h:aDa (cE n c a) o=some ir:=h
  cases o<;>first|exact nomatch (show none=some ir from h)|skip
  ·obtain⟨x,hx,rfl⟩:=aP h;simp only[ev,qx,qr,rq]at hd;obtain⟨u,⟨w,hw,k,hk,rfl⟩,hd⟩:=hd;cases hd;exact aEJ (hE X _ S ρ a x xc hx w hw).1 hk
 case BoolOp o vs p =>
  refine dZ (K:=X.K) ?_ rfl;cases o with
  |And=>exact(hB X _ S ρ true vs ir p xc).1 h d hd
  |Or=>exact(hB X _ S ρ false vs ir p xc).1 h d hd
 case IfExp t a b p =>
  refine dZ (K:=X.K) ?_ rfl;obtain⟨x,hx,h⟩:=aG h;obtain⟨y,hy,h⟩:=aG h;obtain⟨z,hz,rfl⟩:=aP h;simp only[ev,qx,qr]at hd;obtain⟨u,hu,hd⟩:=hd;cases u<;>first|exact nomatch (show none=some d from hd)|skip
  rename_i k;have pt:=hT X _ S ρ t x xc hx k hu
  cases k with
  |true=>exact VH pt (fun _=>(hE X _ S ρ a y xc hy d hd).1) (fun z=>by cases z)
  |false=>exact VH pt (fun z=>by cases z) (fun _=>(hE X _ S ρ b z xc hz d hd).1)
 case Compare a os bs p=>exact dZ (K:=X.K) (JB hE xc h hd).1 rfl
 case Tuple es k p =>
  refine dZ (K:=X.K) ?_ rfl;obtain⟨o5,h⟩:=aY h;obtain⟨x,hx,rfl⟩:=aP h;simp only[ev,rq]at hd;obtain⟨ds,bo,rfl⟩:=hd;obtain⟨ds',e1,hl,pa,hs⟩:=hA X _ S ρ es x xc hx _ (cL bo);cases e1;exact aEE pa (by rw[hl];exact KZ o5)
 case List es p =>
  obtain⟨o5,h⟩:=aY h;obtain⟨x,hx,rfl⟩:=aP h;simp only[ev,rq]at hd;obtain⟨ds,bo,rfl⟩:=hd;obtain⟨ds',e1,hl,pa,hs⟩:=hA X _ S ρ es x xc hx _ (cL bo);cases e1;exact fL (aEL pa (by rw[hl];exact KZ o5))
 case Subscript a i p=>exact aAb hE xc h hd
 case Attribute a f p =>
  refine dZ (K:=X.K) ?_ rfl;obtain⟨jo,h⟩:=aY h;obtain⟨x,hx,rfl⟩:=aP h;simp only[ev,qx,qr]at hd;obtain⟨u,hu,hd⟩:=hd;have pa:=(hE X _ S ρ a x xc hx u hu).1
  cases u<;>first|exact nomatch (show none=some d from hd)|skip
  obtain⟨hf,hd⟩:=aY hd;exact aER xc pa (kZ jo) hf hd
 case ListComp elt gs sc p =>
  obtain⟨tg,iter,ifs,fr,ba,tp,ds,outs,f,rfl,rfl,h1,h2,h3,h4,h5,h6,h7,h8⟩:=DH (S:=S) hE hT hI xc h hd;exact fL (QY xc h1 h2 h3 h4 h5 h6 h7 h8)
 case Call f args kw p =>
  obtain⟨hkw,h⟩:=aY h;obtain rfl:=jA hkw;cases f<;>first|exact nomatch (show none=some ir from h)|skip
  ·exact RP hE hA xc h hd
  ·exact JC hE hA xc h hd
end Z
namespace Z
open PySem PySem.Spec PyProof.Rows L2
variable {CX:au}{G:GS}{T:Tx}{lv:Nat}
theorem JD{n:Nat}(hE:gc CX G T lv n)(hT:nj CX G T lv n)(hB:qi CX G T lv n):nj CX G T lv (n+1):=by
 intro X c S ρ e ir xc h k hk;have tr:(cE n c e).map .tr=some ir→(∀whole,isTrue e X.env whole=(do let v ←whole;standAt e.pos;holding [v] (truthy v)))→PT X e (gk X.K T S ρ k):=fun h he=>by
  obtain⟨x,hx,rfl⟩:=aP h;simp only[ev,qx,qr,rq,D.bl.injEq]at hk;obtain⟨w,hw,k',gf,rfl⟩:=hk;exact RX (hE X c S ρ e x xc hx w hw).1 he gf
 cases e<;>first|exact tr h fun _=>rfl|skip
 case BoolOp o vs p =>
  cases o with
  |And=>exact PW.pt ((hB X c S ρ true vs ir p xc).2 h k hk)
  |Or=>exact PW.pt ((hB X c S ρ false vs ir p xc).2 h k hk)
 case UnaryOp o a p =>
  cases o<;>first|exact tr h fun _=>rfl|skip
  obtain⟨x,hx,rfl⟩:=aP h;simp only[ev,qx,qr]at hk;obtain⟨w,hw,hk⟩:=hk;cases w<;>first|exact nomatch (show none=some (D.bl k) from hk)|skip
  cases hk;exact aAf (hT X c S ρ a x xc hx _ hw)
 case IfExp _ _ _ _=>exact nomatch (show none=some ir from h)
 case Compare a os bs p=>exact(JB hE xc h hk).2 k rfl
theorem eG:∀n,gc CX G T lv n∧nj CX G T lv n∧qi CX G T lv n∧jx CX G T lv n∧OkI CX G T lv n
 | 0=>⟨fun X c S ρ e ir xc h=>(nomatch (show none=some ir from h)),fun X c S ρ e ir xc h=>(nomatch (show none=some ir from h)),fun X c S ρ k vs ir pos xc=>⟨fun h=>(nomatch (show none=some ir from h)),fun h=>(nomatch (show none=some ir from h))⟩,fun X c S ρ es ir xc h=>(nomatch (show none=some ir from h)),fun X c S ρ e k ir xc h=>(nomatch (show none=some (k,ir) from h))⟩
 |n+1=>by
  obtain⟨hE,hT,hB,hA,hI⟩:=eG n;exact⟨JF hE hT hB hA hI,JD hE hT hB,JG hE hT hB,JH hE hA,JE hE hA⟩
end Z
namespace Z
open PySem PySem.Spec PyProof.Rows L2
abbrev Dm(S₀:Addr→Prop)(H₀:Hp)(_:List Sl)(_:L2.St):Prop:=∀a,S₀ a→∃o,H₀ a=some o
structure SInv (K:vi) (T:Tx) (S₀:Addr→Prop) (H₀:Hp) (S:Addr→Prop) (ρ:List Sl) (σ:L2.St) (H:Hp):Prop where
 re:RE K T H S ρ σ
 dom0:Dm S₀ H₀ ρ σ
 sup:∀a,S₀ a→S a
 same:aH H₀ H
 dist:∀(i j:Nat) xs ys p,ρ[i]?=some (.mu xs)→ρ[j]?=some (.mu ys)→σ[i]?=some (some (.ref p))→σ[j]?=some (some (.ref p))→i=j
 own:∀(i:Nat) xs p,ρ[i]?=some (.mu xs)→σ[i]?=some (some (.ref p))→H₀ p=none
section
variable {K:vi}{T:Tx}{S₀ S S':Addr→Prop}{H₀ H H' gd:Hp}{ρ ρ1:List Sl}{σ σ1:L2.St}
theorem aO.refl:aO K H H S S:=fun a n _=>⟨n,fun _ e=>e⟩
theorem aO.same(h:aH H H'):aO K H H' S S:=fun a n _=>⟨n,fun o e=>h a o e⟩
theorem aO.trans{S'':Addr→Prop}(h:aO K H H' S S')(g:aO K H' gd S' S''):aO K H gd S S'':=fun a n q=>by
 obtain⟨n1,k1⟩:=h a n q;obtain⟨n2,k2⟩:=g a n1 (q.elim (fun⟨o,e⟩=>.inl ⟨o,k1 o e⟩) .inr)
 exact⟨n2,fun o e=>k2 o (k1 o e)⟩
theorem SInv.step(si:SInv K T S₀ H₀ S ρ σ H)(h:aH H H'):SInv K T S₀ H₀ S ρ σ H':=⟨si.re.same h,si.dom0,si.sup,si.same.trans h,si.dist,si.own⟩
theorem SInv.set(si:SInv K T S₀ H₀ S ρ σ H){i:Nat}{d:D}{v:V}(r:Rep K T H S d v):SInv K T S₀ H₀ S (ρ.set i (.im d)) (σ.set i (some v)) H:=by
 have old:∀(j:Nat) xs p,(ρ.set i (.im d))[j]?=some (.mu xs)→(σ.set i (some v))[j]?=some (some (.ref p))→j≠i∧ρ[j]?=some (.mu xs)∧σ[j]?=some (some (.ref p)):=fun j xs p h1 h2=>by
  have ne:j≠i:=by
   rintro rfl;have hl:j<ρ.length:=by simpa using (q8.mp h1).1
   rw[sk hl]at h1;cases h1
  rw[so (Ne.symm ne)]at h1 h2;exact⟨ne,h1,h2⟩
 refine⟨si.re.set r,si.dom0,si.sup,si.same,fun a b xs ys p h1 h2 h3 h4=>?_,fun a xs p h1 h2=>?_⟩
 ·obtain⟨_,q1,q2⟩:=old a xs p h1 h3;obtain⟨_,q3,q4⟩:=old b ys p h2 h4;exact si.dist a b xs ys p q1 q3 q2 q4
 ·obtain⟨_,q1,q2⟩:=old a xs p h1 h2;exact si.own a xs p q1 q2
theorem SInv.setm(si:SInv K T S₀ H₀ S ρ σ H){i:Nat}{ds:D}{p:Addr}{xs:HO}(sm:aH H H')(hp:H p=none)(hk:K.lookup p=none)(ej:H' p=some xs)(rl:lY K T (er H' p) S ds xs) :
  SInv K T S₀ H₀ (fun a=>S a∨a=p) (ρ.set i (.mu ds)) (σ.set i (some (.ref p))) H'∧aO K H H' S (fun a=>S a∨a=p):=by
 have mv:aO K H H' S (fun a=>S a∨a=p):=fun a n q=>by
  have ne:a≠p:=by
   rintro rfl
   rcases q with ⟨o,e⟩|⟨o,e⟩
   ·rw[hp]at e;cases e
   ·rw[hk]at e;cases e
  exact⟨fun z=>z.elim n ne,fun o e=>sm a o e⟩
 have dom:∀a,(S a∨a=p)→∃o,H' a=some o:=fun a z=>z.elim (fun z=>let ⟨o,e⟩:=si.re.dom a z;⟨o,sm a o e⟩) fun z=>⟨xs,by rw[z];exact ej⟩
 have re':RE K T H' (fun a=>S a∨a=p) ρ σ:=si.re.gen mv (fun a ys z e _=>⟨.inl z,sm a _ e⟩) dom
 have slotp:∀(j:Nat) ys,ρ[j]?=some (.mu ys)→σ[j]?=some (some (.ref p))→False:=fun j ys h1 h2=>by
  obtain⟨q,zs,e1,e2,e3,_⟩:=si.re.at_ j _ h1;rw[h2]at e1;cases e1;rw[hp]at e3;cases e3
 have at_:∀(j:Nat) ys q,(ρ.set i (.mu ds))[j]?=some (.mu ys)→(σ.set i (some (.ref p)))[j]?=some (some (.ref q))→(j=i∧q=p)∨(j≠i∧ρ[j]?=some (.mu ys)∧σ[j]?=some (some (.ref q))):=fun j ys q h1 h2=>by
  by_cases e:j=i
  ·subst e;have hl:j<ρ.length:=by simpa using (q8.mp h1).1
   rw[sk (by rw[←si.re.len];exact hl)]at h2
   cases h2;exact .inl ⟨rfl,rfl⟩
  ·rw[so (Ne.symm e)]at h1 h2;exact .inr ⟨e,h1,h2⟩
 refine⟨⟨⟨dom,by simp[si.re.len],fun j s e=>?_⟩,si.dom0,fun a z=>.inl (si.sup a z),si.same.trans sm,fun a b ys zs q h1 h2 h3 h4=>?_,fun a ys q h1 h2=>?_⟩,mv⟩
 ·by_cases hj:j=i
  ·subst hj;have hl:j<ρ.length:=by simpa using (q8.mp e).1
   rw[sk hl]at e;cases e;rw[sk (by rw[←si.re.len];exact hl)]
   exact⟨p,xs,rfl,.inr rfl,ej,rl.gen (aO.own hk)⟩
  ·rw[so (Ne.symm hj)]at e ⊢;exact re'.at_ j s e
 ·rcases at_ a ys q h1 h3 with ⟨ea,eq⟩|⟨na,q1,q2⟩
  ·rcases at_ b zs q h2 h4 with ⟨eb,_⟩|⟨nb,q3,q4⟩
   ·rw[ea,eb]
   ·subst eq;exact(slotp b zs q3 q4).elim
  ·rcases at_ b zs q h2 h4 with ⟨eb,eq⟩|⟨nb,q3,q4⟩
   ·subst eq;exact(slotp a ys q1 q2).elim
   ·exact si.dist a b ys zs q q1 q3 q2 q4
 ·rcases at_ a ys q h1 h2 with ⟨ea,eq⟩|⟨na,q1,q2⟩
  ·subst eq;exact si.same.free hp
  ·exact si.own a ys q q1 q2
theorem SInv.write(si:SInv K T S₀ H₀ S ρ σ H){i:Nat}{ds ds':D}{p:Addr}{jy:HO}(hi:ρ[i]?=some (.mu ds))(hp:σ[i]?=some (some (.ref p)))(rl:lY K T H S ds' jy) :
  SInv K T S₀ H₀ S (ρ.set i (.mu ds')) σ (upd H p jy)∧aO K H (upd H p jy) S S:=by
 obtain⟨q,zs,e1,e2,e3,_⟩:=si.re.at_ i _ hi;rw[hp]at e1;cases e1;have mv:aO K H (upd H p jy) S S:=fun a n _=>⟨n,fun o e=>by rw[aN (fun z=>n (by rw[z];exact e2))];exact e⟩
 have dom:∀a,S a→∃o,upd H p jy a=some o:=fun a z=>by
  by_cases e:a=p
  ·exact⟨jy,by rw[e];exact aM⟩
  ·obtain⟨o,q⟩:=si.re.dom a z;exact⟨o,by rw[aN e];exact q⟩
 have hl:i<ρ.length:=(q8.mp hi).1
 have old:∀(j:Nat) ys,(ρ.set i (.mu ds'))[j]?=some (.mu ys)→∃zs,ρ[j]?=some (.mu zs):=fun j ys h=>by
  by_cases e:j=i
  ·exact⟨ds,by rw[e];exact hi⟩
  ·rw[so (Ne.symm e)]at h;exact⟨ys,h⟩
 refine⟨⟨⟨dom,by simp[si.re.len],fun j s e=>?_⟩,si.dom0,si.sup,fun b o e=>?_,fun a b ys zs q h1 h2 h3 h4=>?_,fun a ys q h1 h2=>?_⟩,mv⟩
 ·by_cases hj:j=i
  ·subst hj;rw[sk hl]at e;cases e;exact⟨p,jy,hp,e2,aM,rl.gen mv⟩
  ·rw[so (Ne.symm hj)]at e;have h:=si.re.at_ j s e
   cases s with
   |un=>trivial
   |im d=>obtain⟨v,e4,r⟩:=h;exact⟨v,e4,Rep.gen mv d v r⟩
   |mu ys =>
    obtain⟨q,ws,e4,e5,e6,r⟩:=h;refine⟨q,ws,e4,e5,?_,r.gen mv⟩;rw[aN]
    ·exact e6
    ·rintro rfl;exact hj (si.dist j i ys ds q e hi e4 hp)
 ·have ne:b≠p:=by
   rintro rfl;rw[si.own i ds b hi hp]at e;cases e
  rw[aN ne];exact si.same b o e
 ·obtain⟨i4,q1⟩:=old a ys h1;obtain⟨zs',q2⟩:=old b zs h2;exact si.dist a b i4 zs' q q1 q2 h3 h4
 ·obtain⟨i4,q1⟩:=old a ys h1;exact si.own a i4 q q1 h2
theorem jB:∀{is:List Nat} {ds:List D} {ρ ρ1:List Sl} {j:Nat} {xs:D},bK is ds ρ=some ρ1→ρ1[j]?=some (.mu xs)→j∉is∧ρ[j]?=some (.mu xs)
 |[],[],ρ,ρ1,j,xs,h,e=>by
  simp only[bK,qp]at h;subst h;exact⟨by simp,e⟩
 |i::is,d::ds,ρ,ρ1,j,xs,h,e=>by
  simp only[bK]at h;obtain⟨n,q⟩:=jB h e;have ne:j≠i:=by
   rintro rfl;have hl:j<ρ.length:=by simpa using (q8.mp q).1
   rw[sk hl]at q;cases q
  rw[so (Ne.symm ne)]at q;exact⟨by simp[n,ne],q⟩
 |[],_::_,_,_,_,_,h,_=>by simp[bK]at h
 |_::_,[],_,_,_,_,h,_=>by simp[bK]at h
theorem oX{is:List Nat}{tp:Bool}{d:D}{j:Nat}{xs:D}(h:bJ is tp d ρ=some ρ1)(e:ρ1[j]?=some (.mu xs)):j∉is∧ρ[j]?=some (.mu xs):=by
 unfold bJ at h;split at h
 ·split at h
  ·exact jB h e
  ·cases h
 ·exact jB h e
theorem SInv.bind(si:SInv K T S₀ H₀ S ρ σ H){is:List Nat}{tp:Bool}{d:D}(h:bJ is tp d ρ=some ρ1)(re:RE K T H S ρ1 σ1)(ag:∀j,j∉is→σ1[j]?=σ[j]?):SInv K T S₀ H₀ S ρ1 σ1 H:=by
 refine⟨re,si.dom0,si.sup,si.same,fun a b xs ys p h1 h2 h3 h4=>?_,fun a xs p h1 h2=>?_⟩
 ·obtain⟨n1,q1⟩:=oX h h1;obtain⟨n2,q2⟩:=oX h h2;rw[ag a n1]at h3;rw[ag b n2]at h4;exact si.dist a b xs ys p q1 q2 h3 h4
 ·obtain⟨n1,q1⟩:=oX h h1;rw[ag a n1]at h2;exact si.own a xs p q1 h2
theorem RE.view(re:RE K T H S ρ σ):RE K T H (fun _=>False) (view ρ) σ:=by
 refine⟨fun a z=>z.elim,by simp[Z.view,re.len],fun i s e=>?_⟩
 unfold Z.view at e;rw[qu]at e;cases h:ρ[i]? with
 |none=>rw[h]at e;cases e
 |some s' =>
  rw[h]at e;cases e;have r:=re.at_ i s' h
  cases s' with
  |un=>trivial
  |im d=>obtain⟨v,e1,r⟩:=r;exact⟨v,e1,Rep.mono (fun _ z=>z.elim) (fun _ _ _ e=>e) d v r⟩
  |mu ds =>
   obtain⟨p,xs,e1,_,e3,r⟩:=r;exact⟨.ref p,e1,r.rep e3 (fun z=>z) fun _ z=>z.elim⟩
theorem HN{d:D}{v:V}(h:xU d=true)(r:Rep K T H S d v):Rep K T H S' d v:=by
 cases d<;>first|(simp only[xU,r8]at h;done)|(unfold Rep at r ⊢;exact r)
end
variable {CX:au}{G:GS}{T:Tx}{lv:Nat}{X:Cx}{c:CC}{S₀:Addr→Prop}{H₀:Hp}{fr:Bool}{EX:Str→Hp→Prop}{pos:Pos}
noncomputable def MW(K:vi)(T:Tx)(S₀:Addr→Prop)(H₀:Hp)(fr:Bool)(EX:Str→Hp→Prop)(H:Hp)(S:Addr→Prop)(D:Ends):Out→Prop
 |.nx ρ=>∀S' σ' H',SInv K T S₀ H₀ S' ρ σ' H'→aO K H H' S S'→D.nx σ' H'
 |.bk ρ=>∀S' σ' H',SInv K T S₀ H₀ S' ρ σ' H'→aO K H H' S S'→D.bk σ' H'
 |.ct ρ=>∀S' σ' H',SInv K T S₀ H₀ S' ρ σ' H'→aO K H H' S S'→D.ct σ' H'
 |.rt d=>∀v H',aH H₀ H'→Rep K T H' S₀ d v→(fr=true→rE K T S₀ H₀ H' d v)→D.rt v H'
 |.er c=>∀H',aH H₀ H'→EX c H'
def cb(K:vi)(T:Tx)(S₀:Addr→Prop)(H₀:Hp)(fr:Bool)(EX:Str→Hp→Prop)(G:GS)(is:IS):TS:=fun D σ H=>∃ρ out S,ex G is ρ=some out∧SInv K T S₀ H₀ S ρ σ H∧MW K T S₀ H₀ fr EX H S D out
structure XS (CX:au) (T:Tx) (X:Cx) (c:CC) (EX:Str→Hp→Prop):Prop where
 kind:X.env.scope.kind=.function
 pass:PassesOwn (model X.prog X.w) X.A X.env X.xe
 rse:∀x m j p p' q pos,aW c x=true→c.cls.contains x=true→PS X (.Raise (some (.Call (.Name x p) [.Constant (.str m) j p'] [] q)) none pos) (fun D σ H=>EX x H)
 pss:∀E1:XK,(∀cls H',E1 cls none H'→∃k C,T.xc k=some C∧cls=.ref C∧EX k H')→fX CX X E1
 stk:X.stack=X.env::X.outer
 frm:X.env.frame=some X.env.locals
theorem MW.step{K:vi}{H H':Hp}{S S':Addr→Prop}{D:Ends}{o:Out}(mv:aO K H H' S S')(h:MW K T S₀ H₀ fr EX H S D o):MW K T S₀ H₀ fr EX H' S' D o:=by
 cases o with
 |nx ρ=>exact fun S2 σ2 H2 si m=>h S2 σ2 H2 si (mv.trans m)
 |bk ρ=>exact fun S2 σ2 H2 si m=>h S2 σ2 H2 si (mv.trans m)
 |ct ρ=>exact fun S2 σ2 H2 si m=>h S2 σ2 H2 si (mv.trans m)
 |rt d=>exact h
 |er c=>exact h
theorem oM{e:IE}{ρ:List Sl}{d:D}(h:dO G e ρ=some d):ev G e ρ=some d∨(ev G e (view ρ)=some d∧xU d=true):=by
 unfold dO at h;split at h
 ·rename_i h1;cases h;exact .inl h1
 ·split at h
  ·rename_i h2;split at h
   ·rename_i h3;cases h;exact .inr ⟨h2,h3⟩
   ·cases h
  ·cases h
theorem nV(xc:XC CX X c G T lv){n:Nat}{e:Expr}{ir:IE}{ρ:List Sl}{d:D}{S:Addr→Prop}(he:cE n c e=some ir)(h:dO G ir ρ=some d):PE X e (tD X.K T S ρ d):=by
 rcases oM h with h|⟨h,hs⟩
 ·exact((eG n).1 X c S ρ e ir xc he d h).1
 ·exact PE.mono ((eG n).1 X c (fun _=>False) (view ρ) e ir xc he d h).1 fun σ H Q ⟨re,q⟩=>⟨re.view,fun v H' sm r=>q v H' sm (HN hs r)⟩
theorem OW:PS X (.Pass pos) (cb X.K T S₀ H₀ fr EX G .nop):=fun pins s σ H D I ⟨ρ,out,S,hx,si,po⟩=>by
 simp only[ex,qp]at hx;subst hx;exact QM pins s σ H D I (po S σ H si aO.refl)
theorem OU:PS X (.Return none pos) (cb X.K T S₀ H₀ fr EX G .retn):=fun pins s σ H D I ⟨ρ,out,S,hx,si,po⟩=>by
 simp only[ex,qp]at hx;subst hx;exact QL pins s σ H D I (po .non H si.same (by unfold Rep;rfl) fun _ ds e=>by cases e)
theorem OV(xc:XC CX X c G T lv){x:Str}{p:Pos}{i:Nat}(e:bX c x=some i):PS X (.Return (some (.Name x p)) pos) (cb X.K T S₀ H₀ fr EX G (.retm i)):=fun pins s σ H D I ⟨ρ,out,S,hx,si,po⟩=>by
 simp only[ex]at hx;split at hx
 ·rename_i ds hi;cases hx;obtain⟨q,xs,e1,e2,e3,rl⟩:=si.re.at_ i _ hi;have hn:=si.own i ds q hi e1
  have n0:¬S₀ q:=fun z=>by obtain⟨o,z⟩:=si.dom0 q z;rw[hn]at z;cases z
  refine iQ (mI xc e) pins s σ H D I ⟨_,e1,po (.ref q) H si.same ?_ fun _ ds' z=>?_⟩
  ·exact rl.rep e3 n0 si.sup
  ·subst z;obtain⟨ys,rfl,rl'⟩:=rl.lst;exact⟨q,ys,rfl,hn,e3,aE.disown e2 si.sup rl'⟩
 ·cases hx
theorem XO(xc:XC CX X c G T lv){n:Nat}{e:Expr}{ir:IE}{b:Bool}(he:cE n c e=some ir)(hb:b=true→gJ c e=true)(aw:fr=true→b=true):PS X (.Return (some e) pos) (cb X.K T S₀ H₀ fr EX G (.ret b ir)):=fun pins s σ H D I ⟨ρ,out,S,hx,si,po⟩=>by
 simp only[ex,rq]at hx;obtain⟨d,hd,rfl⟩:=hx;have plain:(∀ds,d=.lst ds→fr=false)→wpAny (model X.prog X.w) X.A (exec (.Return (some e) pos) X.env) (SP X pins D) X.xe s:=fun hn =>
  iQ (nV (S:=S) xc he hd) pins s σ H D I ⟨si.re,fun v H' sm r=>po v H' (si.same.trans sm) (Rep.mono si.sup (fun _ _ _ e=>e) d v r) fun z ds e=>by rw[hn ds e]at z;cases z⟩
 cases hf:fr with
 |false=>exact plain fun _ _=>hf
 |true =>
  by_cases hl:∃ds,d=.lst ds
  ·obtain⟨ds,rfl⟩:=hl;have kh:ev G ir ρ=some (.lst ds):=by
    rcases oM hd with h|⟨_,h⟩
    ·exact h
    ·cases h
   refine iQ (((eG n).1 X c S ρ e ir xc he _ kh).2 (hb (aw hf)) ds rfl) pins s σ H D I ⟨si.re,fun p xs H' sm hp ej rl=>po (.ref p) H' (si.same.trans sm) ?_ fun _ ds' z=>?_⟩
   ·unfold Rep;exact⟨p,xs,rfl,fun z=>si.re.nS hp (si.sup p z),ej,aE.mono si.sup (fun _ _ _ e=>e) _ _ rl.er⟩
   ·cases z;exact⟨p,xs,rfl,si.same.free hp,ej,aE.mono si.sup (fun _ _ _ e=>e) _ _ rl⟩
  ·exact plain fun ds e=>(hl ⟨ds,e⟩).elim
theorem aCx(xc:XC CX X c G T lv){n:Nat}{t:Expr}{ir:IE}{a b:List Stmt}{ia ib:IS}(ht:cT n c t=some ir)(ha:PSs X a (cb X.K T S₀ H₀ fr EX G ia))(hb:PSs X b (cb X.K T S₀ H₀ fr EX G ib)) :
  PS X (.If t a b pos) (cb X.K T S₀ H₀ fr EX G (.iff ir ia ib)):=fun pins s σ H D I ⟨ρ,out,S,hx,si,po⟩=>by
 simp only[ex,qx,qr]at hx;obtain⟨w,hw,hx⟩:=hx;cases w<;>first|(simp only[reduceCtorEq]at hx;done)|skip
 rename_i k;refine VB ((eG n).2.1 X c (fun _=>False) (view ρ) t ir xc ht k hw) ha hb pins s σ H D I ⟨si.re.view,fun H' sm=>?_⟩
 cases k with
 |true=>exact FL ⟨ρ,out,S,hx,si.step sm,po.step (aO.same sm)⟩
 |false=>exact pG ⟨ρ,out,S,hx,si.step sm,po.step (aO.same sm)⟩
theorem XT:PSs X [] (cb X.K T S₀ H₀ fr EX G .nop):=fun pins s σ H D I ⟨ρ,out,S,hx,si,po⟩=>by
 simp only[ex,qp]at hx;subst hx;exact rV pins s σ H D I (po S σ H si aO.refl)
theorem XM{st:Stmt}{rest:List Stmt}{a b:IS}(ha:PS X st (cb X.K T S₀ H₀ fr EX G a))(hb:PSs X rest (cb X.K T S₀ H₀ fr EX G b)):PSs X (st::rest) (cb X.K T S₀ H₀ fr EX G (.seq a b)):=fun pins s σ H D I ⟨ρ,out,S,hx,si,po⟩=>by
 simp only[ex,qx,qr]at hx;obtain⟨o,ho,hx⟩:=hx;refine iP ha hb pins s σ H D I ⟨ρ,o,S,ho,si,?_⟩;cases o with
 |nx ρ'=>exact fun S' σ' H' fg mv=>⟨ρ',out,S',hx,fg,po.step mv⟩
 |bk ρ'=>simp only[qp]at hx;subst hx;exact po
 |ct ρ'=>simp only[qp]at hx;subst hx;exact po
 |rt d=>simp only[qp]at hx;subst hx;exact po
 |er d=>simp only[qp]at hx;subst hx;exact po
theorem XN(xs:XS CX T X c EX){x:Str}{m:Str}{j:Nat}{p p' q:Pos}(hg:aW c x=true)(hc:c.cls.contains x=true):PS X (.Raise (some (.Call (.Name x p) [.Constant (.str m) j p'] [] q)) none pos) (cb X.K T S₀ H₀ fr EX G (.rse x)):=fun pins s σ H D I ⟨ρ,out,S,hx,si,po⟩=>by
 simp only[ex]at hx;split at hx
 ·cases hx;exact xs.rse x m j p p' q pos hg hc pins s σ H D I (po H si.same)
 ·cases hx
theorem OR(xc:XC CX X c G T lv){n:Nat}{es:List Expr}{k:Nat}{p:Pos}{e:Expr}{ir:IE}{is:List Nat}(hn:eX c es=some is)(he:cE n c e=some ir)(hnt:∀vs k p,e≠.Tuple vs k p) :
  PS X (.Assign [.Tuple es k p] e pos) (cb X.K T S₀ H₀ fr EX G (.sett is ir)):=fun pins s σ H D I ⟨ρ,out,S,hx,si,po⟩=>by
 simp only[ex,qx,qr,rq]at hx;obtain⟨d,hd,ρ1,hb,rfl⟩:=hx;have dy:dA c (.Tuple es k p)=some (is,true):=by simp only[dA,hn,um]
 refine IH ((eG n).1 X c S ρ e ir xc he d hd).1 (ZE xc (S:=S) dy hb) ?_ ?_ rfl pins s σ H D I ⟨si.re,fun v H' sm r=>⟨si.re.same sm,r,fun σ' re' ag=>po S σ' H' ((si.step sm).bind hb re' ag) (aO.same sm)⟩⟩
 ·cases e<;>rfl
 ·cases e<;>first|rfl|exact absurd rfl (hnt _ _ _)
end Z
namespace Z
open PySem PySem.Spec PyProof.Rows L2
variable {CX:au}{G:GS}{T:Tx}{lv:Nat}{X:Cx}{c:CC}{S₀:Addr→Prop}{H₀:Hp}{fr:Bool}{EX:Str→Hp→Prop}{pos:Pos}
noncomputable def nZ:Expr→Bool
 |.ListComp _ _ _ _=>true
 |_=>false
theorem uW{n:Nat}{c:CC}{e:Expr}{ir:IE}(h:cE n c e=some ir)(hc:nZ e=false)(t:Expr)(l:Nat)(env:Env):swapsWith e (some t) l env=pure false:=by
 cases e<;>first|rfl|exact nomatch (show true=false from hc)|(cases n<;>exact nomatch (show none=some ir from h))
theorem nL{elt:Expr}{gs:List Comprehension}{sc:Scope}{p px:Pos}{x:Str}{l:Nat}{env:Env}:∃b,swapsWith (.ListComp elt gs sc p) (some (.Name x px)) l env=pure b:=⟨_,rfl⟩
theorem kA{n:Nat}{elt:Expr}{gs:List Comprehension}{sc:Scope}{p:Pos}{ir:IE}{ρ:List Sl}{d:D}(xc:XC CX X c G T lv)(h:cE n c (.ListComp elt gs sc p)=some ir)(hd:ev G ir ρ=some d)(S:Addr→Prop) :
  ∃tg iter ifs fr ba tp ds outs f,gs=[⟨tg,iter,ifs,0⟩]∧d=.lst outs∧kB c sc=true∧freeOf c sc (sc.names.filter fun x=>x.2 == .free)=some fr∧ba.all (fun i=>(fr.lookup i).isNone)=true∧dA { c with N:=ownNames sc,sc:=sc } tg=some (ba,tp) ∧
   PI X tg iter (tI X.K T S ρ ds)∧(∀x,foldedSetIterable iter X.env x=pure x)∧bU f ds=some outs ∧
   (∀d o,f d=some o→∃ρ1,bJ ba tp d (frame (ownNames sc).length fr ρ)=some ρ1∧TurnOk CX G T lv { c with N:=ownNames sc,sc:=sc } X.K ifs elt ρ1 o):=by
 cases n with
 |zero=>exact nomatch (show none=some ir from h)
 |succ n =>
  obtain⟨hE,hT,hB,hA,hI⟩:=eG (CX:=CX) (G:=G) (T:=T) (lv:=lv) n;exact DH hE hT hI xc h hd
theorem JV{pins:vn}{σ:L2.St}{H:Hp}{s:Shared}{p:Addr}{o:HO}(I:Inv X pins σ H s)(h:H p=some o):X.K.lookup p=none:=by
 cases e:X.K.lookup p with
 |none=>rfl
 |some u=>rw[VM I p u e]at h;cases h
def tNk(K:vi)(T:Tx)(S:Addr→Prop)(ρ:List Sl)(ds:List D):TE:=fun σ H Q=>RE K T H S ρ σ∧∀p xs H',aH H H'→H p=none→K.lookup p=none→H' p=some (.lst xs)→aE K T (er H' p) S ds xs→Q (.ref p) H'
theorem aHY{e:Expr}{S:Addr→Prop}{ρ:List Sl}{ds:List D}(h:PE X e (ez X.K T S ρ ds)):PE X e (tNk X.K T S ρ ds):=fun pins s σ H Q I ⟨re,q⟩ =>
 af (h pins s σ H (fun v H'=>∃p xs,v=.ref p∧aH H H'∧H p=none∧H' p=some (.lst xs)∧aE X.K T (er H' p) S ds xs) I ⟨re,fun p xs H' a b c d=>⟨p,xs,rfl,a,b,c,d⟩⟩) fun u s1 ⟨v,H',I',r,p,xs,e,a,b,c,d⟩=>⟨v,H',I',r,by rw[e];exact q p xs H' a b (JV I' c) c d⟩
theorem OT(xc:XC CX X c G T lv){x:Str}{px oh pd:Pos}{i:Nat}(hx:gB c (.Name x oh)=some i):PS X (.Assign [.Name x px] (.Dict [] [] pd) pos) (cb X.K T S₀ H₀ fr EX G (.setd i)):=fun pins s σ H D I ⟨ρ,out,S,hex,si,po⟩=>by
 cases hex;obtain⟨hN,hk⟩:=gN hx;obtain⟨hl,hf⟩:=xc.loc hk;have pn:PE X (.Dict [] [] pd) (fun σ H Q=>∀p,H p=none→X.K.lookup p=none→Q (.ref p) (upd H p (.dK []))):=fun pins s σ H Q I q =>
  af (IP pins s σ H (fun v H'=>∃p,v=.ref p∧H p=none∧H'=upd H p (.dK [])) I fun p hp=>⟨p,rfl,hp,rfl⟩) fun u s1 ⟨v,H',I',r,p,e1,hp,e2⟩=>⟨v,H',I',r,by
   subst e1 e2;exact q p hp (JV I' (aM))⟩
 refine nR (by rw[xc.N];exact xc.nd) (by rw[xc.N];exact hN) hl pn rfl hf pins s σ H D I fun p hp hkp=>?_
 obtain⟨fg,mv⟩:=si.setm (i:=i) (ds:=.dct []) (xs:=.dK []) (aH.upd hp) hp hkp aM (.inr ⟨_,_,rfl,rfl,bB.nil⟩);exact po _ _ _ fg mv
theorem XJ(xc:XC CX X c G T lv){n:Nat}{e:Expr}{ir:IE}{x:Str}{px oh:Pos}{i:Nat}(hx:gB c (.Name x oh)=some i)(he:cE n c e=some ir):PS X (.Assign [.Name x px] e pos) (cb X.K T S₀ H₀ fr EX G (.set i ir)):=fun pins s σ H D I ⟨ρ,out,S,hex,si,po⟩=>by
 simp only[ex,rq]at hex;obtain⟨d,hd,rfl⟩:=hex;obtain⟨hN,hk⟩:=gN hx;obtain⟨hl,hf⟩:=xc.loc hk;have plain:swapsWith e (some (.Name x px)) pos.line X.env=pure false→wpAny (model X.prog X.w) X.A (exec (.Assign [.Name x px] e pos) X.env) (SP X pins D) X.xe s:=fun hs =>
  nR (by rw[xc.N];exact xc.nd) (by rw[xc.N];exact hN) hl (nV (S:=S) xc he hd) hs hf pins s σ H D I ⟨si.re,fun v H' sm r=>po S _ H' ((si.step sm).set r) (aO.same sm)⟩
 cases hc:nZ e with
 |false=>exact plain (uW he hc _ _ _)
 |true =>
  cases e<;>simp only[nZ,r8]at hc
  rename_i elt gs sc p;obtain⟨b,hb⟩:=nL (elt:=elt) (gs:=gs) (sc:=sc) (p:=p) (px:=px) (x:=x) (l:=pos.line) (env:=X.env);cases b with
  |false=>exact plain hb
  |true =>
   have kh:ev G ir ρ=some d:=by
    rcases oM hd with h|⟨h,hs⟩
    ·exact h
    ·obtain⟨_,_,_,_,_,_,_,outs,_,_,rfl,_⟩:=kA xc he h (fun _=>False)
     cases hs
   obtain⟨tg,iter,ifs,fr',ba,tp,ds,outs,f,rfl,rfl,h1,h2,h3,h4,h5,h6,h7,h8⟩:=kA xc he kh S;exact AG xc h1 h2 h3 h4 h5 h6 (px:=px) (by simp only[gB]at hx ⊢;exact hx) hb h7 h8 pins s σ H D I ⟨si.re,fun p xs H' sm hp ej rl=>po S _ H' ((si.step sm).set (by unfold Rep;exact⟨p,xs,rfl,si.re.nS hp,ej,rl.er⟩)) (aO.same sm)⟩
theorem OS(xc:XC CX X c G T lv){n:Nat}{e:Expr}{ir:IE}{x:Str}{px oh:Pos}{i:Nat}(hx:gB c (.Name x oh)=some i)(he:cE n c e=some ir)(aw:gJ c e=true):PS X (.Assign [.Name x px] e pos) (cb X.K T S₀ H₀ fr EX G (.setm i ir)):=fun pins s σ H D I ⟨ρ,out,S,hex,si,po⟩=>by
 simp only[ex,qx,qr]at hex;obtain⟨d,hd,hex⟩:=hex;cases d<;>first|(simp only[reduceCtorEq]at hex;done)|skip
 rename_i outs;simp only[qp]at hex;subst hex;obtain⟨hN,hk⟩:=gN hx;obtain⟨hl,hf⟩:=xc.loc hk;have pn:=((eG n).1 X c S ρ e ir xc he _ hd).2 aw outs rfl
 have plain:swapsWith e (some (.Name x px)) pos.line X.env=pure false→wpAny (model X.prog X.w) X.A (exec (.Assign [.Name x px] e pos) X.env) (SP X pins D) X.xe s:=fun hs =>
  nR (by rw[xc.N];exact xc.nd) (by rw[xc.N];exact hN) hl (aHY pn) hs hf pins s σ H D I ⟨si.re,fun p xs H' sm hp hkp ej rl=>by
   obtain⟨fg,mv⟩:=si.setm (i:=i) (ds:=.lst outs) sm hp hkp ej (.inl ⟨_,_,rfl,rfl,rl⟩);exact po _ _ H' fg mv⟩
 cases hc:nZ e with
 |false=>exact plain (uW he hc _ _ _)
 |true =>
  cases e<;>simp only[nZ,r8]at hc
  rename_i elt gs sc p;obtain⟨b,hb⟩:=nL (elt:=elt) (gs:=gs) (sc:=sc) (p:=p) (px:=px) (x:=x) (l:=pos.line) (env:=X.env);cases b with
  |false=>exact plain hb
  |true =>
   obtain⟨tg,iter,ifs,fr',ba,tp,ds,outs',f,rfl,e1,h1,h2,h3,h4,h5,h6,h7,h8⟩:=kA xc he hd S;cases e1;refine uj (AG xc h1 h2 h3 h4 h5 h6 (px:=px) (by simp only[gB]at hx ⊢;exact hx) hb h7 h8 pins s σ H ⟨fun σ' H'=>∃p xs,σ'=σ.set i (some (.ref p))∧aH H H'∧H p=none∧H' p=some (.lst xs)∧aE X.K T (er H' p) S outs xs,fun _ _=>False,fun _ _=>False,fun _ _=>False⟩ I ⟨si.re,fun p xs H' sm hp ej rl=>⟨p,xs,rfl,sm,hp,ej,rl⟩⟩) (fun f s' q=>?_) fun _ _ z=>z
   cases f with
   |next =>
    obtain⟨σ',H',I',p,xs,rfl,sm,hp,ej,rl⟩:=q;obtain⟨fg,mv⟩:=si.setm (i:=i) (ds:=.lst outs) sm hp (JV I' ej) ej (.inl ⟨_,_,rfl,rfl,rl⟩);exact⟨_,H',I',po _ _ H' fg mv⟩
   |brk=>obtain⟨_,_,_,z⟩:=q;exact z.elim
   |cont=>obtain⟨_,_,_,z⟩:=q;exact z.elim
   |ret u=>obtain⟨_,_,_,_,_,z⟩:=q;exact z.elim
end Z
namespace Z
open PySem PySem.Spec PyProof.Rows L2
variable {CX:au}{G:GS}{T:Tx}{lv:Nat}{X:Cx}{c:CC}{S₀:Addr→Prop}{H₀:Hp}{fr:Bool}{EX:Str→Hp→Prop}{pos:Pos}
theorem XX(xc:XC CX X c G T lv){n:Nat}{e:Expr}{ir:IE}{x:Str}{i:Nat}{p1 p2 p:Pos}(hx:bX c x=some i)(hl:(p2.endLine == p.line)=true)(he:cE n c e=some ir) :
  PS X (.Expr (.Call (.Attribute (.Name x p1) "append" p2) [e] [] p) pos) (cb X.K T S₀ H₀ fr EX G (.app i ir)):=fun pins s σ H D I ⟨ρ,out,S,hex,si,po⟩=>by
 simp only[ex,qx,qr]at hex;obtain⟨d,hd,hex⟩:=hex;split at hex
 ·rename_i ds hi;split at hex
  ·rename_i hz;cases hex;obtain⟨q,ob,e1,e2,e3,rm⟩:=si.re.at_ i _ hi;obtain⟨xs,rfl,rl⟩:=rm.lst;have st:=(dE he).star X.env []
   refine jI (IR plainAttrs_list PySem.F.slot_list_append PySem.F.type_list_append qE (mI xc hx) (bG (nV (S:=S) xc he hd) fT st) rfl ?_ hl st rfl) rfl pins s σ H D I ⟨.ref q,e1,.inl ⟨rfl,xs,SqL.of e3⟩,si.re,fun v H' sm r=>⟨q,xs,v,rfl,rfl,sm _ _ e3,?_,?_⟩⟩
   ·rw[st];rfl
   ·rw[←rl.len];exact sf hz iI
   ·obtain⟨fg,mv⟩:=(si.step sm).write (ds':=.lst (ds++[d])) hi e1 (.inl ⟨_,_,rfl,rfl,(rl.same sm).app (aE.cons r aE.nil)⟩);exact po S σ _ fg ((aO.same sm).trans mv)
  ·cases hex
 ·cases hex
theorem vD{K:vi}{H:Hp}{S:Addr→Prop}{ds:List D}{xs:List V}(r:aE K T H S ds xs):aE K T H S ds.dropLast xs.dropLast:=by
 rw[List.dropLast_eq_take,List.dropLast_eq_take,r.len];exact r.take _
theorem XR(xc:XC CX X c G T lv){x:Str}{i:Nat}{p1 p2 p:Pos}(hx:bX c x=some i)(hl:(p2.endLine == p.line)=true) :
  PS X (.Expr (.Call (.Attribute (.Name x p1) "pop" p2) [] [] p) pos) (cb X.K T S₀ H₀ fr EX G (.pop i)):=fun pins s σ H D I ⟨ρ,out,S,hex,si,po⟩=>by
 simp only[ex]at hex;split at hex
 ·rename_i ds hi;split at hex
  ·cases hex
  ·rename_i hz;cases hex;obtain⟨q,ob,e1,e2,e3,rm⟩:=si.re.at_ i _ hi;obtain⟨xs,rfl,rl⟩:=rm.lst;have hn:xs.length-1<xs.length:=by
    rw[←rl.len];cases ds with
    |nil=>exact absurd rfl hz
    |cons a r=>exact uu _
   refine jI (ZM plainAttrs_list PySem.F.slot_list_pop PySem.F.type_list_pop aAn (mI xc hx) rfl hl) rfl pins s σ H D I ⟨.ref q,e1,.inl ⟨rfl,xs,SqL.of e3⟩,?_⟩;refine⟨q,xs,xs[xs.length-1],rfl,rfl,e3,qt hn,?_⟩;obtain⟨fg,mv⟩:=si.write (ds':=.lst ds.dropLast) hi e1 (.inl ⟨_,_,rfl,rfl,vD rl⟩);exact po S σ _ fg mv
 ·cases hex
theorem aAA(n:Nat)(i:Int):Z.ixN n i=L2.ixN n i:=by
 unfold Z.ixN L2.ixN;rfl
theorem ED{n:Nat}{c:CC}{e:Expr}{ir:IE}(h:cE n c e=some ir){o i:Expr}{p:Pos}{l:Nat}{env:Env}:swapsWith e (some (.Subscript o i p)) l env=pure false:=by
 cases e<;>first|rfl|(cases n<;>exact nomatch (show none=some ir from h))
theorem XQ(xc:XC CX X c G T lv){n:Nat}{e k:Expr}{ir kr:IE}{x:Str}{i:Nat}{p1 p2:Pos}(hx:bX c x=some i)(hk:cE n c k=some kr)(he:cE n c e=some ir) :
  PS X (.Assign [.Subscript (.Name x p1) k p2] e pos) (cb X.K T S₀ H₀ fr EX G (.put i kr ir)):=fun pins s σ H D I ⟨ρ,out,S,hex,si,po⟩=>by
 simp only[ex,qx,qr]at hex;obtain⟨d,hd,ki,hki,hex⟩:=hex;split at hex
 ·rename_i o hi;obtain⟨o',ho,rfl⟩:=rq.mp hex;obtain⟨q,ob,e1,e2,e3,rm⟩:=si.re.at_ i _ hi;cases o<;>first|exact nomatch (show none=some o' from ho)|skip
  ·rename_i ds;obtain⟨j,hj,rfl⟩:=rq.mp ho;obtain⟨xs,rfl,rl⟩:=rm.lst;refine IH (nV (S:=S) xc he hd) (ZD (mI xc hx) (nV (S:=S) xc hk (hZ hki)) set_list ?_) ?_ ?_ rfl pins s σ H D I ⟨si.re,fun v H' sm r=>⟨.ref q,e1,(si.step sm).re,fun w H2 fy r2=>?_⟩⟩
   ·intro v;cases k<;>first|rfl|(cases n<;>exact nomatch (show none=some kr from hk))
   ·cases e<;>rfl
   ·cases e<;>rfl
   ·unfold Rep at r2;subst r2;refine⟨q,xs,ki,j,rfl,rfl,fy _ _ (sm _ _ e3),by rw[←rl.len,←aAA];exact hj,?_⟩
    obtain⟨fg,mv⟩:=(si.step (sm.trans fy)).write (ds':=.lst (ds.set j d)) hi e1 (.inl ⟨_,_,rfl,rfl,aE.set j (rl.same (sm.trans fy)) (r.same fy)⟩);exact po S σ _ fg ((aO.same (sm.trans fy)).trans mv)
  ·rename_i kvs;have ho:(if kvs.length<big then some (Z.D.dct (jW kvs ki d)) else none)=some o':=ho
   split at ho
   ·rename_i hz;cases ho;obtain⟨gs,rfl,rk⟩:=rm.dct;refine QN (KO xc.room) (mI xc hx) (nV (S:=S) xc hk (hZ hki)) (nV (S:=S) xc he hd) (ED he) pins s σ H D I ⟨si.re,fun v H' sm r=>⟨.ref q,e1,(si.step sm).re,fun w H2 fy r2=>?_⟩⟩
    unfold Rep at r2;subst r2;refine⟨q,_,rfl,OI.k (k:=Sum.inl ki) (fy _ _ (sm _ _ e3)) (by rw[←bB.len rk];exact sf hz iI),?_⟩
    obtain⟨fg,mv⟩:=(si.step (sm.trans fy)).write (ds':=.dct (jW kvs ki d)) hi e1 (.inr ⟨_,_,rfl,rfl,bB.put (r.same fy) (bB.gen (aO.same (S:=S) (sm.trans fy)) _ _ rk)⟩);exact po S σ _ fg ((aO.same (sm.trans fy)).trans mv)
   ·cases ho
 ·cases hex
theorem zD{bind:D→List Sl→Option (List Sl)}{body:List Sl→Option Out}{d:D}{r:List D}{ρ:List Sl}{out:Out}(h:eV bind body (d::r) ρ=some out):∃ρ1 o,bind d ρ=some ρ1∧body ρ1=some o ∧
  ((∃ρ2,o=.nx ρ2∧eV bind body r ρ2=some out)∨(∃ρ2,o=.ct ρ2∧eV bind body r ρ2=some out)∨(∃ρ2,o=.bk ρ2∧out=.nx ρ2)∨(∃d,o=.rt d∧out=o)∨∃x,o=.er x∧out=o):=by
 simp only[eV,qx,qr]at h;obtain⟨ρ1,h1,o,h2,h3⟩:=h;refine⟨ρ1,o,h1,h2,?_⟩;cases o<;>simp only[qp]at h3
 ·exact .inl ⟨_,rfl,h3⟩
 ·exact .inr (.inr (.inr (.inl ⟨_,rfl,h3.symm⟩)))
 ·exact .inr (.inr (.inl ⟨_,rfl,h3.symm⟩))
 ·exact .inr (.inl ⟨_,rfl,h3⟩)
 ·exact .inr (.inr (.inr (.inr ⟨_,rfl,h3.symm⟩)))
def gEx(K:vi)(T:Tx)(is:List Nat)(tp:Bool):TG:=fun v σ H Q=>∃ρ S ρ1 d,bJ is tp d ρ=some ρ1∧gD K T S is ρ ρ1 d v σ H Q
theorem XU(xc:XC CX X c G T lv)(xs:XS CX T X c EX){n:Nat}{tg iter:Expr}{body:List Stmt}{ba:List Nat}{tp:Bool}{k:Src}{src:IE}{ib:IS}(dy:dA c tg=some (ba,tp))(hi:cI n c iter=some (k,src))(lu:MV k tg)(hb:PSs X body (cb X.K T S₀ H₀ fr EX G ib)) :
  PS X (.For tg iter body [] pos) (cb X.K T S₀ H₀ fr EX G (.loop ba tp k src ib)):=fun pins s σ H D I ⟨ρ,out,S,hex,si,po⟩=>by
 simp only[ex,qx,qr]at hex;obtain⟨d,hd,ds,bo,jd⟩:=hex;obtain⟨hit,hset⟩:=(eG n).2.2.2.2 X c S ρ iter k src xc hi d ds hd bo;have hg:PG X tg (gEx X.K T ba tp):=fun pins s σ H v u Q I r ⟨ρ,S,ρ1,d,hbn,h⟩=>ZE xc dy hbn pins s σ H v u Q I r h
 refine YY xs.pass xc.calm (hit tg lu) hg hb hset pins s σ H D I ⟨si.re,fun J H1 sm j5 hlen=>?_⟩
 refine⟨fun i m σ H=>∃ρi Si,m=ds.length-i∧i≤ds.length∧eV (bJ ba tp) (ex G ib) (ds.drop i) ρi=some out∧SInv X.K T S₀ H₀ Si ρi σ H∧aO X.K H1 H S Si,⟨ds.length,ρ,S,by simp,v9 _,by simpa using jd,si.step sm,aO.refl⟩,?_⟩
 rintro i m σ' H' ⟨ρi,Si,rfl,hile,o7,sii,mv⟩;obtain⟨it1,it2⟩:=j5 H' Si mv sii.re.dom;have po':MW X.K T S₀ H₀ fr EX H' Si D out:=po.step ((aO.same sm).trans mv)
 by_cases d7:i<ds.length
 ·refine .inr ?_;have hdr:ds.drop i=ds[i]::ds.drop (i+1):=List.drop_eq_getElem_cons d7
  rw[hdr]at o7;obtain⟨ρ1,o,hbn,hbo,hcase⟩:=zD o7;obtain⟨hgo',hy⟩:=it1 i ds[i] (by simp[d7])
  refine⟨hgo',fun σ2 H2=>∃ρ2 S2,eV (bJ ba tp) (ex G ib) (ds.drop (i+1)) ρ2=some out∧SInv X.K T S₀ H₀ S2 ρ2 σ2 H2∧aO X.K H1 H2 S S2,fun σ2 H2 ⟨ρ2,S2,a,b,c⟩=>⟨ds.length-(i+1),by lia,ρ2,S2,rfl,d7,a,b,c⟩,fun x H2 hyl=>?_⟩
  obtain⟨s2,rx⟩:=hy x H2 hyl;refine⟨ρi,Si,ρ1,ds[i],hbn,(sii.step s2).re,rx,fun σ3 re3 ag=>⟨ρ1,o,Si,hbo,(sii.step s2).bind hbn re3 ag,?_⟩⟩
  have mv2:aO X.K H1 H2 S Si:=mv.trans (aO.same s2)
  rcases hcase with ⟨ρ2,rfl,hr⟩|⟨ρ2,rfl,hr⟩|⟨ρ2,rfl,rfl⟩|⟨d',rfl,rfl⟩|⟨x',rfl,rfl⟩
  ·exact fun S3 σ4 H4 nz oo=>⟨ρ2,S3,hr,nz,mv2.trans oo⟩
  ·exact fun S3 σ4 H4 nz oo=>⟨ρ2,S3,hr,nz,mv2.trans oo⟩
  ·exact fun S3 σ4 H4 nz oo=>po' S3 σ4 H4 nz ((aO.same s2).trans oo)
  ·exact po'
  ·exact po'
 ·have hn:i=ds.length:=by lia
  refine .inl ⟨it2 i (by lia),?_⟩
  rw[hn,vc]at o7;simp only[eV,qp]at o7;subst o7;exact po' Si σ' H' sii aO.refl
end Z
namespace Z
open PySem PySem.Spec PyProof.Rows L2
variable {CX:au}{G:GS}{T:Tx}{lv:Nat}{X:Cx}{c:CC}{S₀:Addr→Prop}{H₀:Hp}{fr:Bool}{EX:Str→Hp→Prop}{pos:Pos}
theorem SA(h:XC CX X c G T lv){S:Addr→Prop}{ρ:List Sl}{x:Str}{es:List Expr}{ds:List D}{p:Pos}{k:Str}{C:Addr}{E1:XK}(hg:aW c x=true)(hf:c.fns.contains x=true)(ha:PA X es (c6 X.K T S ρ ds))(hs:starEach es X.env=es.map fun e=>(false,eval e X.env))(hlen:ds.length=es.length)
  (hd:G.fn x ds=some (.er k)) (hT:T.xc k=some C) (hp:fX CX X E1):PE X (.Call (.Name x p) es [] pos) (fun σ H Q=>RE X.K T H S ρ σ∧∀H',aH H H'→E1 (.ref C) none H'):=by
 obtain⟨f,fd,ps,hm,hk,hb,hl,F⟩:=h.go.fn x hf;have key:∀σ H Q,(RE X.K T H S ρ σ∧∀H',aH H H'→E1 (.ref C) none H')→uV (i5 X.K T ps.length (G.fn x) (G.ff x)) [] E1 (c6 X.K T S ρ ds) σ H Q:=fun σ H Q ⟨re,q⟩ =>
  ⟨re,fun vs H1 s1 r1=>⟨by rw[tj,←r1.len];exact hl ds _ hd,S,ds,(re.same s1).dom,by rw[tj];exact r1,.inr ⟨k,C,hd,hT,fun H' s2=>q H' (s1.trans s2)⟩⟩⟩
 cases es with
 |nil =>
  refine PE.mono (vN F h.room (h.glob hg) hm hk hb .nil hp (h.gne hg)) fun σ H Q hq=>?_
  obtain⟨re,q⟩:=hq;have bo:ds=[]:=tm.mp hlen
  subst bo;exact(key σ H Q ⟨re,q⟩).2 [] H (aH.refl H) aE.nil
 |cons e es =>
  obtain⟨h1,h2⟩:=pX (pos:=pos) hs;exact PE.mono (AM F h.room (h.glob hg) hm hk hb .nil hp ha (h.gne hg) h1 h2) key
theorem RY(h:XC CX X c G T lv){S:Addr→Prop}{ρ:List Sl}{ea:Expr}{m cn:Str}{fs:List (Str×D)}{es:List Expr}{ds:List D}{apos:Pos}{k:Str}{C:Addr}{E1:XK}(ht:pA X ea m es apos pos)(ho:PE X ea (tD X.K T S ρ (.obj cn fs)))(hn:fs.lookup m=none)
  (ha:PA X es (c6 X.K T S ρ ds)) (hs:starEach es X.env=es.map fun e=>(false,eval e X.env)) (hlen:ds.length=es.length) (hd:G.me cn m (.obj cn fs::ds)=some (.er k)) (hT:T.xc k=some C) (hp:fX CX X E1) :
  PE X (.Call (.Attribute ea m apos) es [] pos) (fun σ H Q=>RE X.K T H S ρ σ∧∀H',aH H H'→E1 (.ref C) none H'):=by
 obtain⟨pl,ht⟩:=ht;intro pins s σ H Q I ⟨re,q⟩;refine PySem.W.methodCall_KW (pl:=pl) (af (ho pins s σ H (fun v H'=>aH H H'∧Rep X.K T H' S (.obj cn fs) v) I ⟨re,fun v H' a b=>⟨a,b⟩⟩) fun u s1 ⟨x,H1,I1,rx,sm,ro⟩=>?_) ht
 have ro':=ro
 unfold Rep at ro;obtain⟨p,C',dx,gs,ex,_,ec,e,rf⟩:=ro;subst ex;obtain rfl:u=Value.ref p:=rx;obtain⟨f,fd,ps,hm,hb,hl,F⟩:=h.go.me cn C' m _ _ ec hd;refine oE I1 e (h.go.cls cn C' ec) hm ((cK.look rf).2 hn) ?_;have fin:∀(us:List Value) (vs:List V) (s2:Shared) (H2:Hp),Inv X pins σ H2 s2→aQ vs us→aH H1 H2→aE X.K T H2 S ds vs→wpAny (model X.prog X.w) X.A (call (.ref f) (.ref p::us)) (EP X pins σ Q) X.xe s2:=fun us vs s2 H2 I2 r2 fz rl=>by
  refine rS (us:=.ref p::us) (vs:=.ref p::vs) (dvs:=[]) (ds:=[]) (E:=E1) F h.room hb .nil hp I2 (.cons rfl r2) ?_;refine⟨?_,S,.obj cn fs::ds,((re.same sm).same fz).dom,?_,.inr ⟨k,C,hd,hT,fun H' s3=>q H' ((sm.trans fz).trans s3)⟩⟩
  ·have:=hl _ _ hd
   simp only[tj,uw]at this ⊢;rw[←rl.len];exact this
  ·rw[tj];exact aE.cons (ro'.same fz) rl
 cases es with
 |nil =>
  have bo:ds=[]:=tm.mp hlen
  subst bo;exact callWith_K0 (first:=[.ref p]) I1.kIn hm.kp (fin [] [] s1 H1 I1 .nil (aH.refl _) aE.nil)
 |cons e es =>
  obtain⟨h1,h2⟩:=pX (pos:=pos) hs;refine callWith_K (first:=[.ref p]) (h₀:=X.base) I.ok.mod.kin hm.kp (af (ha pos pins s1 σ H1 (fun vs H'=>aH H1 H'∧aE X.K T H' S ds vs) I1 ⟨re.same sm,fun vs H' a b=>⟨a,b⟩⟩) fun us s2 ⟨vs,H2,I2,r,fz,rl⟩=>⟨I2.kIn,?_⟩) h1 h2
  exact fin us vs s2 H2 I2 r fz rl
theorem VI(xc:XC CX X c G T lv){S:Addr→Prop}{ρ:List Sl}{n:Nat}{f:Expr}{args:List Expr}{kw:List Keyword}{p:Pos}{ir:IE}{k:Str}{C:Addr}{E1:XK}(he:cE n c (.Call f args kw p)=some ir)(hr:gw G ir ρ=some (.er k))(hT:T.xc k=some C)(hp:fX CX X E1) :
  PE X (.Call f args kw p) (fun σ H Q=>RE X.K T H S ρ σ∧∀H',aH H H'→E1 (.ref C) none H'):=by
 cases n with
 |zero=>exact nomatch (show none=some ir from he)
 |succ n =>
  obtain⟨hE,km,hB,hA,hI⟩:=eG (CX:=CX) (G:=G) (T:=T) (lv:=lv) n;obtain⟨hkw,he⟩:=aY he;obtain rfl:=jA hkw;cases f<;>first|exact nomatch (show none=some ir from he)|skip
  case Attribute o m ap _ =>
   obtain⟨hc,he⟩:=aY he;obtain⟨hc,hc3⟩:=cJ hc;obtain⟨hc1,fq⟩:=cJ hc;obtain⟨x,hx,he⟩:=aG he;obtain⟨y,hy,rfl⟩:=aP he;simp only[gw]at hr;split at hr
   ·rename_i cn fs hw;obtain⟨hnone,hr⟩:=aY hr;obtain⟨ds,bo,hd⟩:=aG hr;obtain⟨ds',e1,hl,pa,hs⟩:=hA X _ S ρ args y xc hy _ (cL bo);cases e1;exact RY xc (vT hc1 hs (of_decide_eq_true fq) hc3) (hE X _ S ρ o x xc hx _ hw).1 (Option.isNone_iff_eq_none.mp hnone) pa hs hl hd hT hp
   ·cases hr
  case Name x px _ =>
   obtain⟨hg,he⟩:=aY he;cases hf:c.fns.contains x with
   |true =>
    rw[hf]at he;obtain⟨y,hy,rfl⟩:=aP (show (cA n c args).map (fun y=>IE.call x y)=some ir from he)
    obtain⟨ds,bo,hd⟩:=aG (show (bF (ev G y ρ)).bind (G.fn x)=some (.er k) from hr)
    obtain⟨ds',e1,hl,pa,hs⟩:=hA X _ S ρ args y xc hy _ (cL bo);cases e1;exact SA xc hg hf pa hs hl hd hT hp
   |false =>
    exfalso
    rw[hf]at he;have no:∀{o:Option IE} {g:IE→IE},(∀y,gw G (g y) ρ=none)→o.map g=some ir→False:=fun {o g} hn z=>by
     obtain⟨y,_,rfl⟩:=aP z;rw[hn y]at hr;cases hr
    cases az:c.cls.contains x with
    |true=>rw[az]at he;exact no (g:=fun y=>IE.mk x y) (fun _=>rfl) he
    |false =>
     rw[az]at he;cases hi:x == "isinstance" with
     |true =>
      rw[hi]at he;have he:HS (cE n c) c args=some ir:=he
      match args,he with
      |[a,y],he =>
       obtain⟨y',_,he⟩:=aG he;obtain⟨_,he⟩:=aY he;exact no (g:=fun z=>IE.isi z y'.1) (fun _=>rfl) he
     |false =>
      rw[hi]at he;obtain⟨b,hb,he⟩:=aG (show (oY x).bind (fun b=>EK (cE n c) c b args (cA n c args))=some ir from he)
      unfold EK at he;have nb:∀b:BF,((cA n c args).map fun z=>IE.bcall b z)=some ir→False:=fun b he=>no (g:=fun z=>IE.bcall b z) (fun _=>rfl) he
      split at he
      ·rename_i i _;cases b<;>first|exact nb _ he|(obtain⟨_,he⟩:=aY (show (if args.any FM then some (IE.lend i) else none)=some ir from he);cases he;cases hr)
      ·cases hra:xW c args with
       |none =>
        rw[hra]at he;cases hq:(one? args).bind (xV c) with
        |none=>rw[hq]at he;exact nb b (by cases b<;>exact he)
        |some a=>rw[hq]at he;cases b<;>first|exact nb _ he|exact no (g:=fun z=>IE.walk .rng (.tup (.cons z .nil))) (fun _=>rfl) he
       |some a=>rw[hra]at he;cases b<;>first|exact nb _ he|exact no (g:=fun z=>IE.walk .rev z) (fun _=>rfl) he
theorem OX(xc:XC CX X c G T lv)(xs:XS CX T X c EX){n:Nat}{f:Expr}{args:List Expr}{kw:List Keyword}{p:Pos}{ir:IE}(he:cE n c (.Call f args kw p)=some ir):PS X (.Expr (.Call f args kw p) pos) (cb X.K T S₀ H₀ fr EX G (.drop ir)):=fun pins s σ H D I ⟨ρ,out,S,hx,si,po⟩=>by
 simp only[ex]at hx;split at hx
 ·rename_i d hd;cases hx;exact jI ((eG n).1 X c (fun _=>False) (view ρ) _ ir xc he d hd).1 rfl pins s σ H D I ⟨si.re.view,fun v H' sm _=>po S σ H' (si.step sm) (aO.same sm)⟩
 ·split at hx
  ·rename_i k hk;split at hx
   ·rename_i hn;cases hx;obtain⟨C,hT⟩:=xc.go.xns k hn;refine jI (VI (S:=fun _=>False) (E1:=fun cls _ H'=>∃k C,T.xc k=some C∧cls=.ref C∧EX k H') xc he hk hT (xs.pss _ fun cls H' z=>z)) rfl pins s σ H D I ⟨si.re.view,fun H' sm=>⟨k,C,hT,rfl,po H' (si.same.trans sm)⟩⟩
   ·cases hx
  ·cases hx
theorem XC.re{X':Cx}(xc:XC CX X c G T lv)(h1:X'.prog=X.prog)(h2:X'.w=X.w)(h3:X'.K=X.K)(h4:X'.mg=X.mg)(h5:X'.base=X.base)(h6:X'.N=X.N)(h7:X'.env=X.env)(h8:X'.fn=X.fn)(h9:X'.calm=X.calm)(h10:X'.A=X.A):XC CX X' c G T lv:=by
 obtain⟨pr,w,K,mg,base,A,N,s0,H0,env,outer,stack,ex,fn,calm,pn,xe⟩:=X;obtain⟨pr',w',K',f7,base',A',N',s0',H0',env',outer',stack',ex',fn',calm',pn',xe'⟩:=X';dsimp only at h1 h2 h3 h4 h5 h6 h7 h8 h9 h10;subst h1 h2 h3 h4 h5 h6 h7 h8 h9 h10;exact⟨xc.N,xc.nd,xc.kd,xc.own,xc.dbg,xc.gdb,xc.calm,xc.room,⟨xc.go.fn,xc.go.me,xc.go.cls,xc.go.fld,xc.go.mo,xc.go.cst,xc.go.bi,xc.go.xcl,xc.go.frs,xc.go.cx0,xc.go.cxf,xc.go.xns,xc.go.xk,xc.go.sub,xc.go.wd,xc.go.dk⟩⟩
abbrev QS(X:Cx)(pins:vn)(W:vm):Cx:={ X with pn:=X.pn++pins,xe:=W }
theorem aAD{pins:vn}{σ:L2.St}{H:Hp}{s:Shared}{W:vm}(I:Inv X pins σ H s):Inv (QS X pins W) [] σ H s:=
 ⟨⟨I.ok.mod,I.ok.kind,I.ok.glob,I.ok.blt,I.ok.above,I.ok.inj,I.ok.has,I.ok.cab,I.ok.hd,I.ok.frames,I.ok.stk,I.ok.exf,I.ok.bs,I.ok.bsz,I.ok.noex,I.ok.exfs,I.ok.funs,I.ok.frf⟩,I.os,I.bare,I.base,I.loc,I.cell,I.free,I.freeC,fun p hp=>I.pin p (by simpa using hp),I.hok,I.len⟩
theorem KI{pins dn:vn}{σ:L2.St}{H:Hp}{s:Shared}{W:vm}(ok:X.Ok)(I:Inv (QS X pins W) dn σ H s):Inv X pins σ H s:=
 ⟨ok,I.os,I.bare,I.base,I.loc,I.cell,I.free,I.freeC,fun p hp=>I.pin p (uf _ hp),I.hok,I.len⟩
theorem aBa{ir:IE}{ρ:List Sl}{d:D}(h:gw G ir ρ=some (.ok d)):ev G ir ρ=some d:=by
 cases ir<;>simp only[gw,reduceCtorEq]at h
 ·simp only[ev,qx];cases q:bF (ev G _ ρ) with
  |none=>rw[q]at h;cases h
  |some as=>rw[q]at h;show iL (G.fn _ as)=_;rw[show G.fn _ as=_ from h];rfl
 ·simp only[ev,qx];split at h
  ·rename_i c fs hw;rw[hw];split at h
   ·rename_i hn;show (if _ then _ else _)=_
    rw[if_pos hn];cases q:bF (ev G _ ρ) with
    |none=>rw[q]at h;cases h
    |some as=>rw[q]at h;show iL (G.me _ _ _)=_;rw[show G.me _ _ _=_ from h];rfl
   ·cases h
  ·cases h
theorem DJ{c:CC}{nm:Option Str}{e:Expr}{f:Str}(h:cW c nm e=some f):∃p1 y p2 p3,e=.Call (.Name f p1) [.Name y p2] [] p3∧nm=some y∧aW c f=true:=by
 obtain⟨q,h1,h⟩:=aG h;obtain⟨g,h2,h⟩:=aG h;obtain⟨a,h3,h⟩:=aG h;obtain⟨y,h4,h⟩:=aG h;obtain⟨h5,h⟩:=aY h;obtain⟨h5,h7⟩:=cJ h5;obtain⟨h5,h6⟩:=cJ h5;cases h;exact⟨g.2,y.1,y.2,q.2.2.2,by rw[dR h1,cP h2,bM h3,cP h4,jA h5],u0.mp h6,h7⟩
theorem aBe{c:CC}{nm:Option Str}{e:Expr}{r:HR}(h:cH c nm e=some r):(∃b j q,e=.Constant (.bool b) j q∧r=.lit (.bl b))∨(∃f p1 y p2 p3,e=.Call (.Name f p1) [.Name y p2] [] p3∧nm=some y∧aW c f=true∧r=.word f) ∨
  (∃f p1 y p2 p3 x j p4 p5,e=.Compare (.Call (.Name f p1) [.Name y p2] [] p3) [.Eq] [.Constant (.str x) j p4] p5∧nm=some y∧aW c f=true∧r=.weq f x):=by
 have wd:(cW c nm e).map HR.word=some r→(∃f p1 y p2 p3,e=.Call (.Name f p1) [.Name y p2] [] p3∧nm=some y∧aW c f=true∧r=.word f):=fun h=>by
  obtain⟨f,h1,rfl⟩:=aP h;obtain⟨p1,y,p2,p3,a,b,d⟩:=DJ h1;exact⟨f,p1,y,p2,p3,a,b,d,rfl⟩
 cases e<;>first|exact .inr (.inl (wd h))|skip
 case Compare e os bs p =>
  obtain⟨f,h1,h⟩:=aG h;obtain⟨o,h2,h⟩:=aG h;obtain⟨b,h3,h⟩:=aG h;obtain⟨x,h4,h⟩:=aG h;obtain⟨h5,h⟩:=aY h;cases h;obtain⟨p1,y,p2,p3,rfl,a,d⟩:=DJ h1;obtain⟨j,p4,rfl⟩:=pU h4;have ho:o=.Eq:=by cases o<;>first|rfl|exact nomatch (show false=true from h5)
  subst ho;exact .inr (.inr ⟨f,p1,y,p2,p3,x,j,p4,p,by rw[bM h2,bM h3],a,d,rfl⟩)
 case Constant v k p =>
  cases v<;>first|exact .inr (.inl (wd h))|skip
  cases (show some _=some r from h)
  exact .inl ⟨_,_,_,rfl,rfl⟩
theorem uX(xc:XC CX X c G T lv){nm:Option Str}{e:Expr}{r:HR}{rp:Pos}{a C:Addr}{k:Str}{d:D}{σ0:L2.St}{H1:Hp}{rt:VK}{S:Addr→Prop}(hr:cH c nm e=some r)(hd:ij G k r=some d)(hT:T.xc k=some C)(gp:∀n,nm=some n→∃i:Nat,c.N[i]?=some n∧c.sc.names.lookup n=some .local∧(n == ("__debug__":Str))=false∧(n == ("__classdict__":Str))=false∧σ0[i]?=some (some (V.ref a)))
  (hx:H1 a=some (.ext (isExc a C))) (hq:∀v H',aH H1 H'→Rep X.K T H' S d v→rt v H'):PSs (fW X a) [.Return (some e) rp] (fun D' σ' gd=>D'=lG rt∧σ'=σ0∧gd=H1):=by
 have word:∀{f y:Str} {p1 p2 p3:Pos} {x:Str},nm=some y→aW c f=true→G.wd f k=some x→PE (fW X a) (.Call (.Name f p1) [.Name y p2] [] p3) (fun σ' gd Q=>σ'=σ0∧gd=H1∧∀H',aH H1 H'→Q (.str x) H'):=fun {f y p1 p2 p3 x} e1 hg hw=>by
  obtain⟨i,h1,h2,h3,h4,h5⟩:=gp y e1;obtain⟨fa,fd,ps,j,hj,hm,hk,hb,F⟩:=xc.go.wd f k x C hT hw;have kd:X.env.kindOf y=some .local:=by
   have:=xc.kd y
   rw[h2]at this;exact this
  have pv:PE (fW X a) (.Name y p2) (rP i):=lJ (X:=fW X a) (by show X.N[i]?=_;rw[xc.N];exact h1) (.inl kd) h3 h4
  have rm:RoomM j (fW X a).A:=⟨((UX xc.room).mono hj).dp,((UX xc.room).mono hj).un⟩
  refine PE.mono (IQ (X:=fW X a) F rm (xc.glob hg) hm hk hb (bG pv fT) (xc.gne hg) rfl rfl) fun σ' gd Q hh=>?_
  obtain⟨rfl,rfl,q⟩:=hh;exact⟨.ref a,h5,a,rfl,hx,q⟩
 refine jH ?_
 rcases aBe hr with ⟨b,j,q,rfl,rfl⟩|⟨f,p1,y,p2,p3,rfl,h1,h2,rfl⟩|⟨f,p1,y,p2,p3,x,j,p4,p5,rfl,h1,h2,rfl⟩
 ·simp only[ij,Lit.d,qp]at hd;subst hd;intro pins s σ' gd D' I hh;obtain⟨rfl,rfl,rfl⟩:=hh;exact iQ AO pins s _ _ _ I (hq _ _ (aH.refl _) bT)
 ·simp only[ij,rq]at hd;obtain⟨x,hw,rfl⟩:=hd;intro pins s σ' gd D' I hh;obtain⟨rfl,rfl,rfl⟩:=hh;exact iQ (word h1 h2 hw) pins s _ _ _ I ⟨rfl,rfl,fun H' sm=>hq _ H' sm (by unfold Rep;rfl)⟩
 ·simp only[ij,rq]at hd;obtain⟨z,hw,rfl⟩:=hd;intro pins s σ' gd D' I hh;obtain⟨rfl,rfl,rfl⟩:=hh;refine iQ (AL aDT (word h1 h2 hw) fR (JL _)) pins s _ _ _ I ⟨rfl,rfl,fun H' sm=>⟨rfl,?_⟩⟩
  rw[tY];exact hq _ H' sm bT
theorem aFj{k:Str}{r:HR}{d:D}(h:ij G k r=some d):∀ds,d≠.lst ds:=by
 intro ds z;subst z;cases r with
 |lit l=>cases l<;>simp only[ij,Lit.d,qp,reduceCtorEq]at h
 |word f=>simp only[ij,rq,reduceCtorEq,and_false,exists_false]at h
 |weq f x=>simp only[ij,rq,reduceCtorEq,and_false,exists_false]at h
theorem XI(xc:XC CX X c G T lv)(xs:XS CX T X c EX){n:Nat}{f:Expr}{args:List Expr}{kw:List Keyword}{p ep np rp hp:Pos}{ir:IE}{x:Str}{nm:Option Str}{e:Expr}{i:Option Nat}{r:HR}(hg:aW c x=true)(hn:cN c nm=some i)(hr:cH c nm e=some r)(he:cE n c (.Call f args kw p)=some ir) :
  PS X (.Try [.Expr (.Call f args kw p) ep] [.ExceptHandler (some (.Name x np)) nm [.Return (some e) rp] hp] [] [] pos) (cb X.K T S₀ H₀ fr EX G (.tryx ir x i r)):=fun pins s σ H D I ⟨ρ,out,S,hx,si,po⟩=>by
 refine wpAny_Try_except ?_;simp only[ex]at hx;split at hx
 ·rename_i d hd;cases hx;have kh:ev G ir (view ρ)=some d:=aBa hd
  have pn:PSs X.nox [.Expr (.Call f args kw p) ep] (UV (tD X.K T (fun _=>False) (view ρ) d)):=jH (jI ((eG n).1 X.nox c (fun _=>False) (view ρ) _ ir (xc.re rfl rfl rfl rfl rfl rfl rfl rfl rfl rfl) he d kh).1 rfl)
  refine uj (pn pins s σ H { nx:=fun σ' H'=>D.nx σ' H',rt:=fun _ _=>False } (I.wish _) ⟨si.re.view,fun v H' sm _=>po S σ H' (si.step sm) (aO.same sm)⟩) (fun fl s1 h1=>?_) fun _ _ z=>z.elim
  cases fl with
  |next =>
   obtain⟨σ',H',I',q⟩:=h1;exact wpAny_execs_nil ⟨σ',H',I'.unwish,q⟩
  |brk=>obtain⟨_,_,_,z⟩:=h1;exact z.elim
  |cont=>obtain⟨_,_,_,z⟩:=h1;exact z.elim
  |ret u=>obtain⟨_,_,_,_,_,z⟩:=h1;exact z.elim
 ·rename_i k hk;split at hx
  ·rename_i hb;rw[rj,rj]at hb;simp only[rq]at hx;obtain⟨d,hd,rfl⟩:=hx;obtain⟨C,hT⟩:=xc.go.xns k hb.1.1;obtain⟨L,hL⟩:=xc.go.xns x hb.1.2;have mT:=xc.go.sub k x C L hT hL hb.2
   have j9:∀ds,d≠.lst ds:=aFj hd
   have fin:∀v H',aH H H'→Rep X.K T H' S₀ d v→D.rt v H':=fun v H' sm rp=>po v H' (si.same.trans sm) rp fun _ ds z=>absurd z (j9 ds)
   have hCx:=xc.go.xk k C hT
   have hLx:=xc.go.xk x L hL
   have hmL:=xc.go.xcl x L hL
   have fy:∀{H':Hp} {a:Addr},aH H H'→H' a=none→aH H (upd H' a (.ext (isExc a C))):=fun {H' a} sm ha=>sm.trans (aH.upd ha)
   have hp1:fX CX (QS X pins fun v s1=>wpAny (model X.prog X.w) X.A (noteFrame v X.env) (fun _ s₂=>wpAny (model X.prog X.w) X.A (setFlight v none) (fun _ s₃=>wpAny (model X.prog X.w) X.A (handleBy v X.env [.ExceptHandler (some (.Name x np)) nm [.Return (some e) rp] hp]) (SP X pins D) X.xe s₃) X.xe s₂) X.xe s1) (fun cls _ H'=>cls=.ref C∧aH H H'):=by
    intro dn σ1 H1 s1 v s2 I1 hcx;obtain⟨a,cls,a0,B,H',rfl,F,rfl,sm⟩:=xc.go.cxf _ _ _ _ _ _ hcx;have I2:=KI I.ok I1
    cases nm with
    |none =>
     refine aBd (rt:=D.rt) I2 F xs.stk xs.frm hCx hLx mT (xc.glob hg) (xc.gne hg) hmL rfl (uX (S:=S₀) xc hr hd hT (fun n z=>by cases z) aM fun v H2 j3 rp=>fin v H2 ((fy sm F.new).trans j3) rp)
    |some nn =>
     simp only[cN]at hn;split at hn
     ·rename_i hc;simp only[rj,u0,Bool.not_eq_true']at hc;simp only[rq]at hn;obtain⟨ii,hii,rfl⟩:=hn;have hNi:=iA hii
      have kd:X.env.kindOf nn=some .local:=by
       have:=xc.kd nn
       rw[hc.1.1]at this;exact this
      have d7:ii<σ1.length:=by rw[I2.len,xc.N];exact(q8.mp hNi).1
      refine MF (rt:=D.rt) (i:=ii) I2 F xs.stk xs.frm hCx hLx mT (xc.glob hg) (xc.gne hg) hmL rfl (by rw[xc.N];exact xc.nd) (by rw[xc.N];exact hNi) kd (uX (S:=S₀) xc hr hd hT (fun n z=>?_) aM fun v H2 j3 rp=>fin v H2 ((fy sm F.new).trans j3) rp)
      cases z;exact⟨ii,hNi,hc.1.1,hc.1.2,hc.2,by rw[sk d7]⟩
     ·cases hn
   have xc1:XC CX (QS X pins fun v s1=>wpAny (model X.prog X.w) X.A (noteFrame v X.env) (fun _ s₂=>wpAny (model X.prog X.w) X.A (setFlight v none) (fun _ s₃=>wpAny (model X.prog X.w) X.A (handleBy v X.env [.ExceptHandler (some (.Name x np)) nm [.Return (some e) rp] hp]) (SP X pins D) X.xe s₃) X.xe s₂) X.xe s1) c G T lv:=xc.re rfl rfl rfl rfl rfl rfl rfl rfl rfl rfl
   have pn:=jH (jI (pos:=ep) (VI (S:=fun _=>False) xc1 he hk hT hp1) rfl)
   refine uj (pn [] s σ H { nx:=fun _ _=>False,rt:=fun _ _=>False } (aAD I) ⟨si.re.view,fun H' sm=>⟨rfl,sm⟩⟩) (fun fl s1 h1=>?_) fun _ _ z=>z
   cases fl with
   |next=>obtain⟨_,_,_,z⟩:=h1;exact z.elim
   |brk=>obtain⟨_,_,_,z⟩:=h1;exact z.elim
   |cont=>obtain⟨_,_,_,z⟩:=h1;exact z.elim
   |ret u=>obtain⟨_,_,_,_,_,z⟩:=h1;exact z.elim
  ·cases hx
 ·cases hx
end Z
namespace Z
open PySem PySem.Spec PyProof.Rows L2
variable {CX:au}{G:GS}{T:Tx}{lv:Nat}{X:Cx}{c:CC}{S₀:Addr→Prop}{H₀:Hp}{fr:Bool}{EX:Str→Hp→Prop}{pos:Pos}
def aBw(CX:au)(G:GS)(T:Tx)(lv:Nat)(S₀:Addr→Prop)(H₀:Hp)(fr:Bool)(EX:Str→Hp→Prop)(n:Nat):Prop:=∀(X:Cx) (c:CC) (st:Stmt) (is:IS),XC CX X c G T lv→XS CX T X c EX→cS n c st=some is→(fr=true→iC is=true)→PS X st (cb X.K T S₀ H₀ fr EX G is)
def UM(CX:au)(G:GS)(T:Tx)(lv:Nat)(S₀:Addr→Prop)(H₀:Hp)(fr:Bool)(EX:Str→Hp→Prop)(n:Nat):Prop:=∀(X:Cx) (c:CC) (st:List Stmt) (is:IS),XC CX X c G T lv→XS CX T X c EX→jh n c st=some is→(fr=true→iC is=true)→PSs X st (cb X.K T S₀ H₀ fr EX G is)
theorem EJ{s:Stmt}{x:Option Expr×Pos}(h:aCZ s=some x):s=.Return x.1 x.2:=by
 cases s<;>first|exact nomatch (show none=some x from h)|(cases (show some _=some x from h);rfl)
theorem LL{s:Stmt}{x:Expr×Pos}(h:exP s=some x):s=.Expr x.1 x.2:=by
 cases s<;>first|exact nomatch (show none=some x from h)|(cases (show some _=some x from h);rfl)
theorem GP{c:CC}{e:Expr}{q:Nat×Expr}(h:UJ c e=some q):∃x p1 p2 p,e=.Call (.Attribute (.Name x p1) "append" p2) [q.2] [] p∧bX c x=some q.1∧(p2.endLine == p.line)=true:=by
 obtain⟨r,h1,h⟩:=aG h;obtain⟨g,h2,h⟩:=aG h;obtain⟨j,h3,h⟩:=aG h;obtain⟨a,h4,h⟩:=aG h;obtain⟨h5,h⟩:=aY h;obtain⟨h5,h7⟩:=cJ h5;obtain⟨h5,h6⟩:=cJ h5;cases h;obtain⟨x,p1,e3,hs⟩:=fM h3;refine⟨x,p1,g.2.2,r.2.2.2,?_,hs,h7⟩;rw[dR h1,kC h2,bM h4,jA h5,e3,u0.mp h6]
theorem EM{c:CC}{e:Expr}{j:Nat}(h:QO c e=some j):∃x p1 p2 p,e=.Call (.Attribute (.Name x p1) "pop" p2) [] [] p∧bX c x=some j∧(p2.endLine == p.line)=true:=by
 obtain⟨r,h1,h⟩:=aG h;obtain⟨g,h2,h⟩:=aG h;obtain⟨j,h3,h⟩:=aG h;obtain⟨h5,h⟩:=aY h;obtain⟨h5,h7⟩:=cJ h5;obtain⟨h5,h6⟩:=cJ h5;obtain⟨h4,h5⟩:=cJ h5;cases h;obtain⟨x,p1,e3,hs⟩:=fM h3;refine⟨x,p1,g.2.2,r.2.2.2,?_,hs,h7⟩;rw[dR h1,kC h2,jA h4,jA h5,e3,u0.mp h6]
theorem XW{n:Nat}(xc:XC CX X c G T lv)(xs:XS CX T X c EX){t e:Expr}{is:IS}(h:VA (cE n c) c e t=some is):PS X (.Assign [t] e pos) (cb X.K T S₀ H₀ fr EX G is):=by
 cases t<;>first|exact nomatch (show none=some is from h)|skip
 case Name x p =>
  obtain⟨i,hx,h⟩:=aG h;unfold HW at h;split at h
  ·split at h
   ·rename_i hz;cases h;unfold BB at hz;split at hz
    ·exact OT xc hx
    ·cases hz
   ·obtain⟨hf,h⟩:=aY h;obtain⟨y,hy,rfl⟩:=aP h;exact OS xc hx hy hf
  ·obtain⟨y,hy,rfl⟩:=aP h;exact XJ xc hx hy
 case Subscript a i p =>
  obtain⟨j,hj,h⟩:=aG h;obtain⟨k,hkk,h⟩:=aG h;obtain⟨y,hy,rfl⟩:=aP h;obtain⟨x,p1,rfl,hs⟩:=fM hj;exact XQ xc hs hkk hy
 case Tuple ts k p =>
  have h:xX (cE n c) c ts e=some is:=h
  unfold xX at h;cases ht:tupP e with
  |some q =>
   rw[ht]at h;exact nomatch (show none=some is from h)
  |none =>
   rw[ht]at h;obtain⟨is',his,h⟩:=aG h;obtain⟨u,hu,rfl⟩:=aP h;refine OR xc his hu fun vs k p z=>?_
   subst z;exact nomatch (show some _=none from ht)
theorem EV{n:Nat}(hS:UM CX G T lv S₀ H₀ fr EX n):aBw CX G T lv S₀ H₀ fr EX (n+1):=by
 intro X c st is xc xs h aw;cases st<;>first|exact nomatch (show none=some is from h)|skip
 case Pass q=>cases (show some IS.nop=some is from h);exact OW
 case Return v q =>
  cases v with
  |none=>cases (show some IS.retn=some is from h);exact OU
  |some e =>
   have h:(match eY c e with|some i=>some (IS.retm i)|none=>(cE n c e).map fun x=>IS.ret (gJ c e) x)=some is:=h
   cases hm:eY c e with
   |some i =>
    rw[hm]at h;cases h;obtain⟨x,p,rfl,hs⟩:=fM hm;exact OV xc hs
   |none =>
    rw[hm]at h;obtain⟨y,hy,rfl⟩:=aP h;exact XO xc hy (fun z=>z) fun z=>aw z
 case Assign ts e q =>
  obtain⟨t,ht,h⟩:=aG h;obtain rfl:=bM ht;exact XW xc xs h
 case If t a b q =>
  obtain⟨u,hu,h⟩:=aG h;obtain⟨v,hv,h⟩:=aG h;obtain⟨w,hw,rfl⟩:=aP h;have oN:fr=true→iC v=true∧iC w=true:=fun z=>cJ (aw z)
  exact aCx xc hu (hS X _ a v xc xs hv fun z=>(oN z).1) (hS X _ b w xc xs hw fun z=>(oN z).2)
 case For tg iter body qd q =>
  obtain⟨he,h⟩:=aY h;obtain rfl:=jA he;obtain⟨⟨ba,tp⟩,dy,h⟩:=aG h;obtain⟨⟨k,src⟩,hk,h⟩:=aG h;obtain⟨hen,h⟩:=aY h;have lu:MV k tg:=ON dy hen
  obtain⟨v,hv,rfl⟩:=aP h;exact XU xc xs dy hk lu (hS X _ body v xc xs hv fun z=>aw z)
 case Expr e q =>
  have h:(match UJ c e with|some q=>(cE n c q.2).map fun x=>IS.app q.1 x|none=>match QO c e with|some j=>some (IS.pop j)|none=>(kY e).bind fun _=>(cE n c e).map .drop)=some is:=h
  cases ha:UJ c e with
  |some r =>
   rw[ha]at h;obtain⟨u,hu,rfl⟩:=aP h;obtain⟨x,p1,p2,p,rfl,hs,hp⟩:=GP ha;exact XX xc hs hp hu
  |none =>
   rw[ha]at h;cases hp:QO c e with
   |some j =>
    rw[hp]at h;cases h;obtain⟨x,p1,p2,p,rfl,hs,hl⟩:=EM hp;exact XR xc hs hl
   |none =>
   rw[hp]at h;obtain⟨r,hr,h⟩:=aG h;obtain⟨u,hu,rfl⟩:=aP h;obtain rfl:=dR hr;exact OX xc xs hu
 case Raise e f q =>
  obtain⟨e',he,h⟩:=aG h;obtain⟨r,h1,h⟩:=aG h;obtain⟨x,h2,h⟩:=aG h;obtain⟨a,h3,h⟩:=aG h;obtain⟨m,h4,h⟩:=aG h;obtain⟨h5,h⟩:=aY h;obtain⟨h5,h8⟩:=cJ h5;obtain⟨h5,h7⟩:=cJ h5;obtain⟨h5,h6⟩:=cJ h5;cases h;obtain⟨j,p',ea⟩:=pU h4;rw[he,Option.isNone_iff_eq_none.mp h5,dR h1,cP h2,bM h3,jA h6,ea];exact XN xs h7 h8
 case Try b hs qd fin q =>
  obtain⟨h0,h⟩:=aY h;obtain⟨h1,h2⟩:=cJ h0;obtain rfl:=jA h1;obtain rfl:=jA h2
  match hs,h with
  |[.ExceptHandler ty nm body hp],h =>
   obtain⟨s,a1,h⟩:=aG h;obtain⟨e,a2,h⟩:=aG h;obtain⟨r,a3,h⟩:=aG h;obtain⟨ty',a4,h⟩:=aG h;obtain⟨x,a5,h⟩:=aG h;obtain⟨s',a6,h⟩:=aG h;obtain⟨re,a7,h⟩:=aG h;obtain⟨re',a8,h⟩:=aG h;obtain⟨hg,h⟩:=aY h;obtain⟨i,hi,h⟩:=aG h;obtain⟨rr,hr,h⟩:=aG h;obtain⟨u,hu,rfl⟩:=aP h;have e3:=dR a3
   rw[e3]at hu;rw[bM a1,LL a2,a4,cP a5,bM a6,EJ a7,a8,e3];exact XI xc xs hg hi hr hu
theorem EW{n:Nat}(hS:aBw CX G T lv S₀ H₀ fr EX n)(hR:UM CX G T lv S₀ H₀ fr EX n):UM CX G T lv S₀ H₀ fr EX (n+1):=by
 intro X c st is xc xs h aw
 rcases st with _|⟨s,_|⟨s2,r⟩⟩
 ·cases (show some IS.nop=some is from h)
  exact XT
 ·exact jH (hS X c s is xc xs h aw)
 ·obtain⟨u,hu,h⟩:=aG h;obtain⟨v,hv,rfl⟩:=aP h;have oN:fr=true→iC u=true∧iC v=true:=fun z=>cJ (aw z)
  exact XM (hS X c s u xc xs hu fun z=>(oN z).1) (hR X c (s2::r) v xc xs hv fun z=>(oN z).2)
theorem mY:∀n,aBw CX G T lv S₀ H₀ fr EX n∧UM CX G T lv S₀ H₀ fr EX n
 | 0=>⟨fun X c st is xc xs h=>(nomatch (show none=some is from h)),fun X c st is xc xs h=>(nomatch (show none=some is from h))⟩
 |n+1=>⟨EV (mY n).2,EW (mY n).1 (mY n).2⟩
end Z
namespace Z
open PySem PySem.Spec PyProof.Rows L2
variable {CX:au}{G:GS}{T:Tx}{lv:Nat}
noncomputable def lD(n:Nat)(ds:List D):List Sl:=ds.map .im++List.replicate (n-ds.length) .un
theorem nN{K:vi}{H:Hp}{S:Addr→Prop}{N:List Str}{ds:List D}{vs:List V}(dom:∀a,S a→∃o,H a=some o)(rl:aE K T H S ds vs):SInv K T S H S (lD N.length ds) (L2.start N vs) H:=by
 have hl:=rl.len
 have nomu:∀(i:Nat) xs,(lD N.length ds)[i]?≠some (.mu xs):=fun i xs e=>by
  unfold lD at e
  by_cases h:i<(ds.map Sl.im).length
  ·rw[v5 h,qu]at e;cases h2:ds[i]? with
   |none=>rw[h2]at e;cases e
   |some d=>rw[h2]at e;cases e
  ·rw[v7 (by lia),getElem?_replicate]at e
   split at e<;>cases e
 refine⟨⟨dom,by simp[lD,L2.start,hl],fun i s e=>?_⟩,dom,fun _ z=>z,aH.refl H,fun i j xs ys p h=>absurd h (nomu i xs),fun i xs p h=>absurd h (nomu i xs)⟩
 unfold lD at e;unfold L2.start
 by_cases h:i<(ds.map Sl.im).length
 ·rw[v5 h,qu]at e;cases h2:ds[i]? with
  |none=>rw[h2]at e;cases e
  |some d =>
   rw[h2]at e;cases e;obtain⟨v,h3,r⟩:=rl.get h2;exact⟨v,by rw[v5 (by rw[qv]at h ⊢;lia),qu,h3];rfl,r⟩
 ·rw[v7 (by lia),getElem?_replicate]at e
  split at e
  ·cases e;trivial
  ·cases e
theorem vY(k:Option NameKind):uK k k:=by
 cases k with
 |none=>trivial
 |some k=>cases k<;>first|rfl|trivial|exact .inl rfl
noncomputable def mP(c:CC)(sc:Scope):Bool:=c.N.all (fun x=>!(x == ("__debug__":Str))&&!(x == ("__classdict__":Str)))&&!(aW c "__debug__")
theorem GQ{P:vk}{w:World}{K:vi}{mg:vo}{base:Heap}{N ps:List Str}{qual:Str}{sc:Scope}{f:Addr}{cd:Value}{A:Around}{outer:List Env}{s:Shared}{H:Hp}{E:XK}{c:CC}(hN:c.N=N)(j9:c.sc=sc)(fs:aa N ps sc)(hk:mP c sc=true)
  (hr:Room lv (A.deeper (envOfC qual sc s.heap.objs.size f cd))) (go:qm CX (kW CX P w K mg base N qual sc f cd A outer s H E).nox c G T lv):XC CX (kW CX P w K mg base N qual sc f cd A outer s H E).nox c G T lv:=by
 unfold mP at hk;rw[rj,all_eq_true]at hk;refine⟨hN.symm,by rw[hN];exact fs.nd,fun x=>?_,fun _ _=>rfl,fun x hx=>?_,?_,rfl,hr,go⟩
 ·rw[j9];exact vY _
 ·have:=hk.1 x hx
  simpa using this
 ·simpa using hk.2
theorem aAJ{P:vk}{w:World}{K:vi}{mg:vo}{base:Heap}{x qual:Str}{st:Stmt}{f:Addr}{fd:vj}{N ps:List Str}{c:CC}{n:Nat}{ir:IS}{fr:Bool}(F:Fun K x qual st f fd)(fs:aa N ps (aD st))(hN:c.N=N)(j9:c.sc=aD st)(hk:mP c (aD st)=true)
  (iu:jh n c (bR st)=some ir) (aw:fr=true→iC ir=true)
  (go:∀(X:Cx),X.prog=P→X.w=w→X.K=K→X.mg=mg→X.base=base→qm (gL P w) X c G T lv):FnOk P w K mg base (gL P w) (lv+1) f fd ps (i5 K T ps.length (fun ds=>aU G N.length ir ds) fr):=by
 obtain⟨oc,od,kV,doc,pm,an,bt,ct,j4,rfl,lk,fm⟩:=F.ex;refine VO lk fm fs (fun vs H Q E h=>h.1) fun A outer s H vs Q E hr bq=>?_
 obtain⟨hlen,S,ds,dom,rl,hcase⟩:=bq;have xc:XC (gL P w) (kW (gL P w) P w K mg base N qual (aD st) f bt A outer s H E) c G T lv:=(GQ (CX:=gL P w) (E:=E) (P:=P) (w:=w) (mg:=mg) (base:=base) (outer:=outer) (s:=s) (H:=H) (f:=f) (cd:=bt) (qual:=qual) hN j9 fs hk hr (go _ rfl rfl rfl rfl rfl)).re rfl rfl rfl rfl rfl rfl rfl rfl rfl rfl
 have xs:XS (gL P w) T (kW (gL P w) P w K mg base N qual (aD st) f bt A outer s H E) c (fun k H'=>∃C,T.xc k=some C∧E (.ref C) none H'):=by
  refine⟨fs.kind,PassesOwn.leaving,fun y m j p p' q pos hg hc=>?_,fun E1 h1=>QZ fun cls H' z=>?_,rfl,rfl⟩
  ·rintro pins s1 σ H1 D I ⟨C,hT,hE⟩;exact IG (W:=fun H'=>E (.ref C) none H') rfl (xc.glob hg) (xc.gne hg) (xc.go.xcl y C hT) (xc.go.xk y C hT) (fun pins σ H s h' e vs I hm hE=>yR I hm hE) pins s1 σ H1 D I hE
  ·obtain⟨k,C,hT,rfl,C',km,hE⟩:=h1 cls H' z;rw[hT]at km;cases km;exact hE
 refine⟨_,(mY (S₀:=S) (H₀:=H) (fr:=fr) n).2 _ c _ ir xc xs iu aw,?_⟩;have hs:lD N.length ds=ds.map .im++List.replicate (N.length-ds.length) .un:=rfl
 rcases hcase with ⟨d,hd,q⟩|⟨e,C,he,hT,q⟩
 ·dsimp only at hd;unfold aU at hd;rw[←hs]at hd;split at hd
  ·rename_i d' ho;cases hd;exact⟨_,_,S,ho,nN dom rl,fun v H' sm r fr'=>q v H' sm r fr'⟩
  ·rename_i ρ' ho;cases hd;exact⟨_,_,S,ho,nN dom rl,fun S' σ' H' si mv=>q .non H' si.same (by unfold Rep;rfl) fun _ ds' z=>by cases z⟩
  ·cases hd
  ·cases hd
 ·dsimp only at he;unfold aU at he;rw[←hs]at he;split at he
  ·cases he
  ·cases he
  ·rename_i k ho;cases he;exact⟨_,_,S,ho,nN dom rl,fun H' sm=>⟨C,hT,q H' sm⟩⟩
  ·cases he
end Z
namespace Z
open PySem PySem.Spec PyProof.Rows L2
structure Nm where
 fns:List Str
 cls:List Str
 csts:List Str
 fresh:List Str
noncomputable def Nm.cc(m:Nm)(N:List Str)(sc:Scope)(mus:List Str):CC:=⟨N,sc,m.fns,m.cls,m.csts,mus,m.fresh⟩
def MOk(P:vk)(w:World)(K:vi)(mg:vo)(base:Heap)(CX:au)(m:Nm)(G:GS)(T:Tx)(lv:Nat):Prop:=
 ∀(X:Cx) (c:CC),X.prog=P→X.w=w→X.K=K→X.mg=mg→X.base=base→c.fns=m.fns→c.cls=m.cls→c.csts=m.csts→c.fresh=m.fresh→qm CX X c G T lv
noncomputable def Nm.addF(m:Nm)(x:Str)(fr:Bool):Nm:={ m with fns:=x::m.fns,fresh:=if fr then x::m.fresh else m.fresh }
noncomputable def GS.addF(G:GS)(x:Str)(g:List D→Option Rs)(fr:Bool):GS:={ G with fn:=fun y=>if y=x then g else G.fn y,ff:=fun y=>if y=x then fr else G.ff y,mf:=fun cn y=>if y=x then fr else G.mf cn y }
section
variable {P:vk}{w:World}{K:vi}{mg:vo}{base:Heap}{CX:au}{m:Nm}{G:GS}{T:Tx}{lv:Nat}
theorem contains_cons{x y:Str}{l:List Str}:(x::l).contains y=true→y=x∨l.contains y=true:=fun h=>by
 rw[List.contains_cons,or_eq_true,u0]at h;exact h
theorem MOk.addF(h:MOk P w K mg base CX m G T lv){x:Str}{f:Addr}{fd:vj}{ps:List Str}{g:List D→Option Rs}{fr:Bool}(hn:m.fns.contains x=false)(ke:∀cn ds,G.me cn x ds=none)(kb:m.fresh.contains x=false)
  (hm:mg x=some (.ref f)) (hk:keepIn K (.ref f)=true) (hb:Binds K fd ps []) (hl:∀ds r,g ds=some r→ds.length=ps.length) (F:FnOk P w K mg base CX (lv+1) f fd ps (i5 K T ps.length g fr)) :
  MOk P w K mg base CX (m.addF x fr) (G.addF x g fr) T (lv+1):=by
 intro X c e1 e2 e3 e4 e5 e6 e7 e8 e9;subst e1 e2 e3 e4 e5;have o:=h X { c with fns:=m.fns,fresh:=m.fresh } rfl rfl rfl rfl rfl rfl e7 e8 rfl
 refine⟨fun y hy=>?_,fun cn C mm ds r hT hr=>?_,o.cls,o.fld,fun y hy ds d hd=>?_,fun y d hd hc=>o.cst y d hd hc,fun y hy h1 h2=>?_,o.xcl,fun y hy=>?_,o.cx0,o.cxf,o.xns,o.xk,o.sub,fun f k x C h1 h2=>let ⟨a,b,c,j,d,e⟩:=o.wd f k x C h1 h2;⟨a,b,c,j,le_succ_of_le d,e⟩,o.dk⟩
 ·rw[e6]at hy
  by_cases e:y=x
  ·subst e;refine⟨f,fd,ps,hm,hk,hb,?_,?_⟩
   ·intro ds r hr;simp only[GS.addF,if_true]at hr;exact hl ds r hr
   ·simp only[GS.addF,if_true];exact F
  ·rcases contains_cons hy with z|z
   ·exact absurd z e
   ·obtain⟨f',cv,cq,a1,a2,a3,a4,a5⟩:=o.fn y z;refine⟨f',cv,cq,a1,a2,a3,?_,?_⟩
    ·intro ds r hr;simp only[GS.addF,if_neg e]at hr;exact a4 ds r hr
    ·simp only[GS.addF,if_neg e];exact a5.mono (uq _)
 ·have d6:mm≠x:=by
   rintro rfl;have:G.me cn mm ds=some r:=hr
   rw[ke]at this;cases this
  obtain⟨f',cv,cq,a1,a2,a3,a4⟩:=o.me cn C mm ds r hT hr;refine⟨f',cv,cq,a1,a2,a3,?_⟩;simp only[GS.addF,if_neg d6];exact a4.mono (uq _)
 ·obtain⟨C,f',cv,cq,j,a1,a2⟩:=o.mo y hy ds d hd;exact⟨C,f',cv,cq,j,le_succ_of_le a1,a2⟩
 ·refine o.bi y hy ?_ h2;rw[e6]at h1;rw[Nm.addF,List.contains_cons,Bool.or_eq_false_iff]at h1;exact h1.2
 ·rw[e9]at hy
  by_cases e:y=x
  ·subst e;cases aw:fr with
   |true=>exact⟨by simp[GS.addF],fun cn=>by simp[GS.addF]⟩
   |false =>
    exfalso
    rw[aw]at hy;have:m.fresh.contains y=true:=hy
    rw[kb]at this;cases this
  ·have:m.fresh.contains y=true:=by
    unfold Nm.addF at hy;simp only at hy;split at hy
    ·rcases contains_cons hy with z|z
     ·exact absurd z e
     ·exact z
    ·exact hy
   obtain⟨b1,b2⟩:=o.frs y this;exact⟨by simp only[GS.addF,if_neg e];exact b1,fun cn=>by simp only[GS.addF,if_neg e];exact b2 cn⟩
noncomputable def Nm.addM(m:Nm)(x:Str)(fr:Bool):Nm:={ m with fresh:=if fr then x::m.fresh else m.fresh }
noncomputable def GS.addM(G:GS)(cn x:Str)(g:List D→Option Rs)(fr:Bool):GS:={ G with me:=fun c y=>if c=cn∧y=x then g else G.me c y,ff:=fun y=>if y=x then fr else G.ff y,mf:=fun c y=>if y=x then fr else G.mf c y }
theorem MOk.addM(h:MOk P w K mg base CX m G T lv){cn x:Str}{C:Addr}{f:Addr}{fd:vj}{ps:List Str}{g:List D→Option Rs}{fr:Bool}(hn:m.fns.contains x=false)(ke:∀cn ds,G.me cn x ds=none)(kb:m.fresh.contains x=false)
  (hT:T.cl cn=some C) (hm:i3 K C x f) (hb:Binds K fd ps []) (hl:∀ds r,g ds=some r→ds.length=ps.length) (F:FnOk P w K mg base CX (lv+1) f fd ps (i5 K T ps.length g fr)) :
  MOk P w K mg base CX (m.addM x fr) (G.addM cn x g fr) T (lv+1):=by
 intro X c e1 e2 e3 e4 e5 e6 e7 e8 e9;subst e1 e2 e3 e4 e5;have o:=h X { c with fresh:=m.fresh } rfl rfl rfl rfl rfl e6 e7 e8 rfl
 have nfn:∀y,c.fns.contains y=true→y≠x:=fun y hy z=>by
  subst z;rw[e6]at hy;have bY:m.fns.contains y=true:=hy
  rw[hn]at bY;cases bY
 refine⟨fun y hy=>?_,fun cn' C' mm ds r km hr=>?_,o.cls,o.fld,fun y hy ds d hd=>?_,fun y d hd hc=>o.cst y d hd hc,fun y hy h1 h2=>o.bi y hy h1 h2,o.xcl,fun y hy=>?_,o.cx0,o.cxf,o.xns,o.xk,o.sub,fun f k x C h1 h2=>let ⟨a,b,c,j,d,e⟩:=o.wd f k x C h1 h2;⟨a,b,c,j,le_succ_of_le d,e⟩,o.dk⟩
 ·have e:=nfn y hy
  obtain⟨f',cv,cq,a1,a2,a3,a4,a5⟩:=o.fn y hy;refine⟨f',cv,cq,a1,a2,a3,a4,?_⟩;simp only[GS.addM,if_neg e];exact a5.mono (uq _)
 ·by_cases e:mm=x
  ·subst e;have ec:cn'=cn:=by
    by_cases e:cn'=cn
    ·exact e
    ·simp only[GS.addM,e,false_and,if_false]at hr;rw[ke]at hr;cases hr
   subst ec;rw[hT]at km;cases km;refine⟨f,fd,ps,hm,hb,?_,?_⟩
   ·intro ds r hr;simp only[GS.addM,and_self,if_true]at hr;exact hl ds r hr
   ·simp only[GS.addM,and_self,if_true];exact F
  ·simp only[GS.addM,e,and_false,if_false]at hr;obtain⟨f',cv,cq,a1,a2,a3,a4⟩:=o.me cn' C' mm ds r km hr;refine⟨f',cv,cq,a1,a2,?_,?_⟩
   ·intro ds r hr;simp only[GS.addM,e,and_false,if_false]at hr;exact a3 ds r hr
   ·simp only[GS.addM,e,and_false,if_false];exact a4.mono (uq _)
 ·obtain⟨C,f',cv,cq,j,a1,a2⟩:=o.mo y hy ds d hd;exact⟨C,f',cv,cq,j,le_succ_of_le a1,a2⟩
 ·rw[e9]at hy
  by_cases e:y=x
  ·subst e;cases aw:fr with
   |true=>exact⟨by simp[GS.addM],fun cn=>by simp[GS.addM]⟩
   |false =>
    exfalso
    rw[aw]at hy;have:m.fresh.contains y=true:=hy
    rw[kb]at this;cases this
  ·have:m.fresh.contains y=true:=by
    unfold Nm.addM at hy;simp only at hy;split at hy
    ·rcases contains_cons hy with z|z
     ·exact absurd z e
     ·exact z
    ·exact hy
   obtain⟨b1,b2⟩:=o.frs y this;exact⟨by simp only[GS.addM,if_neg e];exact b1,fun cn=>by simp only[GS.addM,if_neg e];exact b2 cn⟩
theorem JR{n:Nat}{o:Option Rs}{r:Rs}{ds:List D}(h:(if ds.length=n then o else none)=some r):ds.length=n:=by
 by_cases e:ds.length=n
 ·exact e
 ·rw[if_neg e]at h;cases h
theorem MOk.defF(h:MOk P w K mg base (gL P w) m G T lv){x:Str}{st:Stmt}{f:Addr}{fd:vj}{N ps mus:List Str}{n:Nat}{ir:IS}{fr:Bool}(hn:m.fns.contains x=false)(ke:∀cn ds,G.me cn x ds=none)(kb:m.fresh.contains x=false)(hm:mg x=some (.ref f))(hb:Binds K fd ps [])
  (F:Fun K x x st f fd) (fs:aa N ps (aD st)) (hk:mP (m.cc N (aD st) mus) (aD st)=true) (iu:jh n (m.cc N (aD st) mus) (bR st)=some ir) (aw:fr=true→iC ir=true) :
  MOk P w K mg base (gL P w) (m.addF x fr) (G.addF x (fun ds=>if ds.length=ps.length then aU G N.length ir ds else none) fr) T (lv+1):=by
 refine h.addF hn ke kb hm F.kp hb (fun ds r hr=>JR hr) ?_
 have G1:=aAJ (P:=P) (w:=w) (mg:=mg) (base:=base) (T:=T) (lv:=lv) F fs (c:=m.cc N (aD st) mus) rfl rfl hk iu aw (fun X a1 a2 a3 a4 a5=>h X _ a1 a2 a3 a4 a5 rfl rfl rfl rfl)
 refine⟨fun vs H Q E h=>h.1,fun A outer s H args us vs Q E hr e0 kj hv bq=>G1.run A outer s H args us vs Q E hr e0 kj hv ?_⟩
 obtain⟨h1,S,ds,dom,rl,hc⟩:=bq;refine⟨h1,S,ds,dom,rl,?_⟩;have el:ds.length=ps.length:=by rw[rl.len];exact h1
 dsimp only at hc;rw[if_pos el]at hc;exact hc
theorem MOk.defM(h:MOk P w K mg base (gL P w) m G T lv){cn x qual:Str}{C:Addr}{st:Stmt}{f:Addr}{fd:vj}{N ps mus:List Str}{n:Nat}{ir:IS}{fr:Bool}(hn:m.fns.contains x=false)(ke:∀cn ds,G.me cn x ds=none)(kb:m.fresh.contains x=false)(hT:T.cl cn=some C)(hm:i3 K C x f)(hb:Binds K fd ps [])
  (F:Fun K x qual st f fd) (fs:aa N ps (aD st)) (hk:mP (m.cc N (aD st) mus) (aD st)=true) (iu:jh n (m.cc N (aD st) mus) (bR st)=some ir) (aw:fr=true→iC ir=true) :
  MOk P w K mg base (gL P w) (m.addM x fr) (G.addM cn x (fun ds=>if ds.length=ps.length then aU G N.length ir ds else none) fr) T (lv+1):=by
 refine h.addM hn ke kb hT hm hb (fun ds r hr=>JR hr) ?_
 have G1:=aAJ (P:=P) (w:=w) (mg:=mg) (base:=base) (T:=T) (lv:=lv) F fs (c:=m.cc N (aD st) mus) rfl rfl hk iu aw (fun X a1 a2 a3 a4 a5=>h X _ a1 a2 a3 a4 a5 rfl rfl rfl rfl)
 refine⟨fun vs H Q E h=>h.1,fun A outer s H args us vs Q E hr e0 kj hv bq=>G1.run A outer s H args us vs Q E hr e0 kj hv ?_⟩
 obtain⟨h1,S,ds,dom,rl,hc⟩:=bq;refine⟨h1,S,ds,dom,rl,?_⟩;have el:ds.length=ps.length:=by rw[rl.len];exact h1
 dsimp only at hc;rw[if_pos el]at hc;exact hc
end
variable {CX:au}{G:GS}{T:Tx}{lv:Nat}{X:Cx}{c:CC}
noncomputable def aGd:Stmt→Option (List Expr×Expr×Pos)
 |.Assign ts e p=>some (ts,e,p)
 |_=>none
theorem GN{s:Stmt}{x:List Expr×Expr×Pos}(h:aGd s=some x):s=.Assign x.1 x.2.1 x.2.2:=by
 cases s<;>first|exact nomatch (show none=some x from h)|(cases (show some _=some x from h);rfl)
noncomputable def qV(n:Nat)(c:CC):List Stmt→Option (List (Str×IE))
 |[]=>some []
 |st::r=>(aGd st).bind fun q=>(one? q.1).bind fun t=>(DL t).bind fun a=>(nameP a.1).bind fun s=>if bX c s.1 == some 0 then(cE n c q.2.1).bind fun y=>(qV n c r).map fun z=>(a.2.1,y)::z else none
noncomputable def ja(G:GS)(ρ:List Sl):List (Str×IE)→Option (List (Str×D))
 |[]=>some []
 | (f,e)::r=>do some ((f,←ev G e ρ)::(←ja G ρ r))
noncomputable def EI(G:GS)(cn:Str)(n:Nat)(fs:List (Str×IE))(ds:List D):Option Rs:=
 (ja G (.un::(ds.map .im++List.replicate (n-1-ds.length) .un)) fs).map fun gs=>.ok (.obj cn gs)
theorem vI{f:Str}{v:V}:∀{gs:List (Str×V)},f∉gs.map (·.1)→iK f v gs=gs++[(f,v)]
 |[],_=>rfl
 | (g,x)::r,h=>by
  simp only[tu,sv,not_or]at h;unfold iK;rw[if_neg (Ne.symm h.1),vI h.2];rfl
theorem cK.names{K:vi}{H:Hp}{S:Addr→Prop}:∀{fs:List (Str×D)} {gs:List (Str×V)},cK K T H S fs gs→gs.map (·.1)=fs.map (·.1)
 |[],gs,h=>by unfold cK at h;subst h;rfl
 | (f,d)::fs,gs,h=>by
  unfold cK at h;obtain⟨x,r,rfl,_,q⟩:=h;simp[cK.names q]
theorem cK.app1{K:vi}{H:Hp}{S:Addr→Prop}{f:Str}{d:D}{v:V}(rv:Rep K T H S d v):∀{fs:List (Str×D)} {gs:List (Str×V)},cK K T H S fs gs→cK K T H S (fs++[(f,d)]) (gs++[(f,v)])
 |[],gs,h=>by
  unfold cK at h;subst h;show cK K T H S [(f,d)] [(f,v)]
  unfold cK;exact⟨v,[],rfl,rv,by unfold cK;rfl⟩
 | (g,e)::fs,gs,h=>by
  unfold cK at h;obtain⟨x,r,rfl,p,q⟩:=h;show cK K T H S ((g,e)::(fs++[(f,d)])) _
  unfold cK;exact⟨x,r++[(f,v)],rfl,p,cK.app1 rv q⟩
structure IInv (K:vi) (T:Tx) (S:Addr→Prop) (H₀:Hp) (C p dx:Addr) (ρ:List Sl) (fs:List (Str×D)) (σ:L2.St) (H:Hp):Prop where
 re:RE K T H S ρ σ
 sp:S p
 self:σ[0]?=some (some (.ref p))
 at_:∃gs,H p=some (.ins C dx gs)∧cK K T H S fs gs
 keep:∀b o,b≠p→H₀ b=some o→H b=some o
theorem qM(xc:XC CX X c G T lv){S:Addr→Prop}{H₀:Hp}{C p dx:Addr}{ρ:List Sl}{n:Nat}(hc:Cls X.K C):∀{body:List Stmt} {is:List (Str×IE)} {gs fs:List (Str×D)},qV n c body=some is→ja G ρ is=some gs→(∀x∈is,eD X.K C x.1)→((fs++gs).map (·.1)).Nodup→(fs++gs).length<1000 →
  PSs X body (fun D σ H=>IInv X.K T S H₀ C p dx ρ fs σ H∧∀σ' H',IInv X.K T S H₀ C p dx ρ (fs++gs) σ' H'→D.nx σ' H')
 |[],is,gs,fs,h1,h2,_,_,_=>by
  simp only[qV,qp]at h1;subst h1;simp only[ja,qp]at h2;subst h2;exact fun pins s σ H D I ⟨iv,q⟩=>rV pins s σ H D I (q σ H (by rw[tj];exact iv))
 |st::body,is,gs,fs,h1,h2,l6,l5,hlen=>by
  obtain⟨q0,a1,h1⟩:=aG h1;obtain⟨t0,a2,h1⟩:=aG h1;obtain⟨a0,a3,h1⟩:=aG h1;obtain⟨s0,a4,h1⟩:=aG h1;obtain⟨hs,h1⟩:=aY h1;obtain⟨ir,iu,h1⟩:=aG h1;obtain⟨is',his,rfl⟩:=aP h1;have e0:st=.Assign [.Attribute (.Name s0.1 s0.2) a0.2.1 a0.2.2] q0.2.1 q0.2.2:=by rw[GN a1,bM a2,kC a3,cP a4]
  subst e0;obtain⟨_,e,pe⟩:=q0;obtain⟨_,f,pf⟩:=a0;obtain⟨s,ps⟩:=s0;clear a1 a2 a3 a4;simp only[ja,qx,qr,qp]at h2;obtain⟨d,hd,gs',jr,rfl⟩:=h2;have c7:bX c s=some 0:=u0.mp hs
  have ih:=qM xc (S:=S) (H₀:=H₀) (p:=p) (dx:=dx) hc (fs:=fs++[(f,d)]) his jr (fun x hx=>l6 x (rg _ hx)) (by simpa using l5) (by simpa using hlen)
  intro pins s1 σ H DD I ⟨iv,q⟩;refine iP (YZ (mI xc c7) ((eG n).1 X c S ρ e ir xc iu d hd).1 ?_) ih pins s1 σ H DD I ⟨iv.re,fun v H' sm r=>⟨.ref p,iv.self,?_⟩⟩
  ·cases e<;>rfl
  ·obtain⟨ys,hy,rf⟩:=iv.at_;have gg:f∉ys.map (·.1):=by
    rw[rf.names];have:=l5
    simp only[ux,tu]at this;rw[nodup_append]at this;intro z;exact this.2.2 f z f (by simp) rfl
   have hl:ys.length<1000:=by
    have e1:=congrArg List.length rf.names
    simp only[qv]at e1;rw[e1];simp only[t9,uw]at hlen;lia
   refine⟨p,C,dx,ys,rfl,sm _ _ hy,hc,l6 (f,ir) (by simp),hl,?_⟩
   rw[vI gg];have mv:aO X.K H' (upd H' p (.ins C dx (ys++[(f,v)]))) S S:=fun a na _=>⟨na,fun o e=>by rw[aN (fun z=>na (by rw[z];exact iv.sp))];exact e⟩
   have rf':cK X.K T H' S fs ys:=cK.gen (aO.same sm) _ _ rf
   refine⟨⟨?_,iv.sp,iv.self,⟨_,aM,cK.gen mv _ _ (cK.app1 r rf')⟩,fun b o hb e=>by rw[aN hb];exact sm _ _ (iv.keep b o hb e)⟩,fun σ' H2 iv2=>q σ' H2 (by simpa using iv2)⟩
   refine(iv.re.same sm).gen mv (fun a xs z e hm=>⟨z,?_⟩) fun a z=>?_
   ·rw[aN]
    ·exact e
    ·rintro rfl;rw[sm _ _ hy]at e;cases e;obtain⟨d',hm⟩:=hm
     rcases hm with ⟨_,_,_,z,_⟩|⟨_,_,_,z,_⟩<;>cases z
   ·by_cases e:a=p
    ·exact⟨.ins C dx (ys++[(f,v)]),by rw[e];exact aM⟩
    ·obtain⟨o,e2⟩:=(iv.re.same sm).dom a z;exact⟨o,by rw[aN e];exact e2⟩
end Z
namespace Z
open PySem PySem.Spec PyProof.Rows L2
variable {CX:au}{G:GS}{T:Tx}{lv:Nat}
theorem qR{ρ:List Sl}:∀{is:List (Str×IE)} {gs:List (Str×D)},ja G ρ is=some gs→gs.map (·.1)=is.map (·.1)
 |[],gs,h=>by simp only[ja,qp]at h;subst h;rfl
 | (f,e)::r,gs,h=>by
  simp only[ja,qx,qr,qp]at h;obtain⟨d,_,gs',h2,rfl⟩:=h;simp[qR h2]
theorem xR{K:vi}{H:Hp}{S:Addr→Prop}{N:List Str}{ds:List D}{p:Addr}{ws:List V}(dom:∀a,S a→∃o,H a=some o)(rl:aE K T H S ds ws)(hN:ws.length+1≤N.length):RE K T H S (.un::(ds.map .im++List.replicate (N.length-1-ds.length) .un)) (L2.start N (.ref p::ws)):=by
 have hl:=rl.len
 refine⟨dom,by simp[L2.start,hl];lia,fun i s e=>?_⟩
 cases i with
 |zero=>cases e;trivial
 |succ i =>
  rw[List.getElem?_cons_succ]at e;unfold L2.start;rw[tu,List.cons_append,List.getElem?_cons_succ]
  by_cases h:i<(ds.map Sl.im).length
  ·rw[v5 h,qu]at e;cases h2:ds[i]? with
   |none=>rw[h2]at e;cases e
   |some d =>
    rw[h2]at e;cases e;obtain⟨v,h3,r⟩:=rl.get h2;exact⟨v,by rw[v5 (by rw[qv]at h ⊢;lia),qu,h3];rfl,r⟩
  ·rw[v7 (by lia),getElem?_replicate]at e
   split at e
   ·cases e;trivial
   ·cases e
theorem SX{P:vk}{w:World}{K:vi}{mg:vo}{base:Heap}{x qual cn:Str}{C:Addr}{st:Stmt}{f:Addr}{fd:vj}{N ps:List Str}{c:CC}{n:Nat}{is:List (Str×IE)}(F:Fun K x qual st f fd)(fs:aa N ps (aD st))(hN:c.N=N)(j9:c.sc=aD st)(hk:mP c (aD st)=true)
  (iu:qV n c (bR st)=some is) (hT:T.cl cn=some C) (az:Cls K C) (l6:∀x∈is,eD K C x.1) (l5:(is.map (·.1)).Nodup) (hlen:is.length<1000)
  (go:∀(X:Cx),X.prog=P→X.w=w→X.K=K→X.mg=mg→X.base=base→qm CX X c G T lv):FnOk P w K mg base CX (lv+1) f fd ps (XY K T C ps.length (EI G cn N.length is)):=by
 obtain⟨oc,od,kV,doc,pm,an,bt,ct,j4,rfl,lk,fm⟩:=F.ex;refine VO lk fm fs (fun vs H Q E h=>h.1) fun A outer s H vs Q E hr bq=>?_
 obtain⟨hl,p,dx,ws,S,ds,d,rfl,hp,sp,dom,rl,hg,q⟩:=bq;have xc:=GQ (E:=E) (P:=P) (w:=w) (mg:=mg) (base:=base) (outer:=outer) (s:=s) (H:=H) (f:=f) (cd:=bt) (qual:=qual) hN j9 fs hk hr (go _ rfl rfl rfl rfl rfl)
 unfold EI at hg;simp only[rq]at hg;obtain⟨gs,jr,hg⟩:=hg;cases hg;have hnm:=qR jr
 have ik:ps.length≤N.length:=by have:=congrArg List.length fs.pre;rw[ud]at this;lia
 refine⟨_,PSs.nox (qM xc (S:=S) (H₀:=H) (C:=C) (p:=p) (dx:=dx) (fs:=[]) az iu jr l6 (by rw[nil_append,hnm];exact l5) (by rw[nil_append];have:=congrArg List.length hnm;simp only[qv]at this;lia)),?_,?_⟩
 ·exact⟨xR dom rl (by simp only[uw]at hl;lia),sp,rfl,⟨[],hp,by unfold cK;rfl⟩,fun b o _ e=>e⟩
 ·intro σ' H' iv;obtain⟨ys,hy,rf⟩:=iv.at_;refine q H' iv.keep fun S' jt=>?_
  unfold Rep;exact⟨p,C,dx,ys,rfl,fun z=>(jt p z).2 rfl,hT,hy,cK.gen (aO.mk (fun a z=>(jt a z).1) fun b o _ e=>e) _ _ rf⟩
def xM(K:vi)(T:Tx)(mg:vo)(x:Str)(d:D):Prop:=∃u v,mg x=some u∧RelV v u∧∀(H:Hp) (S:Addr→Prop),(∀a o,K.lookup a=some o→H a=none)→(∀a,S a→∃o,H a=some o)→Rep K T H S d v
theorem UD{K:vi}{mg:vo}{x:Str}{i:Int}{t:Tok}(h:mg x=some (.int i t)):xM K T mg x (.int i):=⟨_,.int i,h,⟨t,rfl⟩,fun H S _ _=>by unfold Rep;rfl⟩
theorem uB{K:vi}{mg:vo}{x:Str}{a:Addr}{ds:List D}{xs:List V}(h:mg x=some (.ref a))(hs:∀H,SqT K H a xs)(hk:∃o,K.lookup a=some o)(hd:∀H S,aE K T H S ds xs):xM K T mg x (.tup ds):=⟨_,.ref a,h,rfl,fun H S h1 h2=>by
 unfold Rep;refine⟨a,xs,rfl,fun z=>?_,hs H,hd H S⟩
 obtain⟨o,e⟩:=h2 a z;obtain⟨u,e2⟩:=hk;rw[h1 a u e2]at e;cases e⟩
noncomputable def G0(csts:List (Str×D))(fl:Str→List Str)(sub:Str→Str→Bool)(xn:Str→Bool)(wd:Str→Str→Option Str)(jb:List (Str×List (Str×D)):=[]):GS:={ fn:=fun _ _=>none,ff:=fun _=>false,me:=fun _ _ _=>none,mf:=fun _ _=>false,mo:=fun _ _=>none,cst:=fun x=>csts.lookup x,sub:=sub,fl:=fl,xn:=xn,wd:=wd,dk:=fun x=>jb.lookup x }
theorem aIb{P:vk}{w:World}{K:vi}{mg:vo}{base:Heap}{cls:List Str}{csts:List (Str×D)}{fl:Str→List Str}{sub:Str→Str→Bool}{xn:Str→Bool}{wd:Str→Str→Option Str}{jb:List (Str×List (Str×D))}(hc:∀x d,csts.lookup x=some d→xM K T mg x d)(az:∀cn C,T.cl cn=some C→Cls K C)(gu:∀cn C f,T.cl cn=some C→(fl cn).contains f=true→eD K C f)
  (hbi:∀x,fK.contains x=true→mg x=none) (hx:∀x C,T.xc x=some C→mg x=some (.ref C)) (hxn:∀k,xn k=true→∃C,T.xc k=some C) (ox:∀k C,T.xc k=some C→excIn K C fw "ValueError.__new__" = true)
  (mT:∀k k' C C',T.xc k=some C→T.xc k'=some C'→sub k k'=true→eI K C (.ref C')=true)
  (hwd:∀f k x C,T.xc k=some C→wd f k=some x→∃fa fd ps j,j≤lv∧mg f=some (.ref fa)∧keepIn K (.ref fa)=true∧Binds K fd ps []∧k6 P w K mg base j fa fd ps (nu C x)) (hdk:∀x kvs,jb.lookup x=some kvs→∃a,mg x=some (.ref a)∧∀X:Cx,X.prog=P→X.w=w→X.K=K→OH X T a kvs:=by intro x kvs h;cases h):MOk P w K mg base (gL P w) ⟨[],cls,csts.map (·.1),[]⟩ (G0 csts fl sub xn wd jb) T lv:=by
 intro X c e1 e2 e3 e4 e5 e6 e7 e8 e9;subst e1 e2 e3 e4 e5;refine⟨fun x hx=>?_,fun cn C m ds r _ hr=>(by cases hr),az,gu,fun x _ ds d hd=>(by cases hd),fun x d hd _=>hc x d hd,fun x hx _ _=>hbi x hx,hx,fun x hx=>?_,VP,fun _ _ _ _ _ _ z=>z,hxn,ox,mT,hwd,fun x kvs h=>let ⟨a,h1,h2⟩:=hdk x kvs h;⟨a,h1,h2 X rfl rfl rfl⟩⟩
 ·rw[e6]at hx;simp at hx
 ·rw[e9]at hx;simp at hx
noncomputable def GS.addC(G:GS)(x:Str)(g:List D→Option Rs):GS:={ G with mo:=fun y=>if y=x then g else G.mo y }
theorem MOk.addC{P:vk}{w:World}{K:vi}{mg:vo}{base:Heap}{m:Nm}(h:MOk P w K mg base CX m G T lv){x:Str}{C f:Addr}{fd:vj}{ps:List Str}{g:List D→Option Rs}(hm:mg x=some (.ref C))(M:Mk K C f)(hb:Binds K fd ps [])(hl:∀ds d,g ds=some (.ok d)→ds.length+1=ps.length)
  (F:FnOk P w K mg base CX lv f fd ps (XY K T C ps.length g)):MOk P w K mg base CX m (G.addC x g) T (lv+1):=by
 intro X c e1 e2 e3 e4 e5 e6 e7 e8 e9;subst e1 e2 e3 e4 e5;have o:=h X c rfl rfl rfl rfl rfl e6 e7 e8 e9
 refine⟨fun y hy=>?_,fun cn C mm ds r hT hr=>?_,o.cls,o.fld,fun y hy ds d hd=>?_,fun y d hd hc=>o.cst y d hd hc,fun y hy h1 h2=>o.bi y hy h1 h2,o.xcl,o.frs,o.cx0,o.cxf,o.xns,o.xk,o.sub,fun f k x C h1 h2=>let ⟨a,b,c,j,d,e⟩:=o.wd f k x C h1 h2;⟨a,b,c,j,le_succ_of_le d,e⟩,o.dk⟩
 ·obtain⟨f',cv,cq,a1,a2,a3,a4,a5⟩:=o.fn y hy;exact⟨f',cv,cq,a1,a2,a3,a4,a5.mono (uq _)⟩
 ·obtain⟨f',cv,cq,a1,a2,a3,a4⟩:=o.me cn C mm ds r hT hr;exact⟨f',cv,cq,a1,a2,a3,a4.mono (uq _)⟩
 ·by_cases e:y=x
  ·subst e;simp only[GS.addC,if_true]at hd ⊢;exact⟨C,f,fd,ps,lv,qw _,hm,M,hb,hl ds d hd,F⟩
  ·simp only[GS.addC,if_neg e]at hd ⊢;obtain⟨C',f',cv,cq,j,a1,a2⟩:=o.mo y hy ds d hd;exact⟨C',f',cv,cq,j,le_succ_of_le a1,a2⟩
theorem MOk.defC{P:vk}{w:World}{K:vi}{mg:vo}{base:Heap}{m:Nm}(h:MOk P w K mg base CX m G T lv){x qual:Str}{C f:Addr}{st:Stmt}{fd:vj}{N ps mus:List Str}{n:Nat}{is:List (Str×IE)}(hm:mg x=some (.ref C))(M:Mk K C f)(hb:Binds K fd ps [])
  (F:Fun K "__init__" qual st f fd) (fs:aa N ps (aD st)) (hk:mP (m.cc N (aD st) mus) (aD st)=true) (iu:qV n (m.cc N (aD st) mus) (bR st)=some is) (hT:T.cl x=some C) (az:Cls K C) (l6:∀x∈is,eD K C x.1) (l5:(is.map (·.1)).Nodup) (hlen:is.length<1000) :
  MOk P w K mg base CX m (G.addC x fun ds=>if ds.length+1=ps.length then EI G x N.length is ds else none) T (lv+2):=by
 have G1:=SX (CX:=CX) (P:=P) (w:=w) (mg:=mg) (base:=base) (T:=T) (lv:=lv) F fs (c:=m.cc N (aD st) mus) rfl rfl hk iu hT az l6 l5 hlen (fun X a1 a2 a3 a4 a5=>h X _ a1 a2 a3 a4 a5 rfl rfl rfl rfl)
 have h':MOk P w K mg base CX m G T (lv+1):=by
  intro X c e1 e2 e3 e4 e5 e6 e7 e8 e9;subst e1 e2 e3 e4 e5;have o:=h X c rfl rfl rfl rfl rfl e6 e7 e8 e9
  refine⟨fun y hy=>?_,fun cn C mm ds r hT hr=>?_,o.cls,o.fld,fun y hy ds d hd=>?_,fun y d hd hc=>o.cst y d hd hc,fun y hy h1 h2=>o.bi y hy h1 h2,o.xcl,o.frs,o.cx0,o.cxf,o.xns,o.xk,o.sub,fun f k x C h1 h2=>let ⟨a,b,c,j,d,e⟩:=o.wd f k x C h1 h2;⟨a,b,c,j,le_succ_of_le d,e⟩,o.dk⟩
  ·obtain⟨f',cv,cq,a1,a2,a3,a4,a5⟩:=o.fn y hy;exact⟨f',cv,cq,a1,a2,a3,a4,a5.mono (uq _)⟩
  ·obtain⟨f',cv,cq,a1,a2,a3,a4⟩:=o.me cn C mm ds r hT hr;exact⟨f',cv,cq,a1,a2,a3,a4.mono (uq _)⟩
  ·obtain⟨C',f',cv,cq,j,a1,a2⟩:=o.mo y hy ds d hd;exact⟨C',f',cv,cq,j,le_succ_of_le a1,a2⟩
 refine h'.addC hm M hb (fun ds d hd=>?_) ?_
 ·by_cases e:ds.length+1=ps.length
  ·exact e
  ·rw[if_neg e]at hd;cases hd
 ·refine⟨fun vs H Q E h=>h.1,fun A outer s H args us vs Q E hr e0 kj hv bq=>G1.run A outer s H args us vs Q E hr e0 kj hv ?_⟩
  obtain⟨h1,p,dx,ws,S,ds,d,e1,h2,h3,h4,h5,h6,h7⟩:=bq;refine⟨h1,p,dx,ws,S,ds,d,e1,h2,h3,h4,h5,?_,h7⟩;have el:ds.length+1=ps.length:=by
   by_cases e:ds.length+1=ps.length
   ·exact e
   ·dsimp only at h6;rw[if_neg e]at h6;cases h6
  dsimp only at h6;rw[if_pos el]at h6;exact h6
end Z
namespace Z
open PySem PySem.Spec PyProof.Rows L2
def CV(K:vi)(T:Tx)(d:D)(u:Value):Prop:=∃v,RelV v u∧∀(H:Hp) (S:Addr→Prop),(∀a o,K.lookup a=some o→H a=none)→(∀a,S a→∃o,H a=some o)→Rep K T H S d v
theorem tZ{K:vi}{T:Tx}{a:Addr}{ds:List D}{xs:List V}(hs:∀H,SqT K H a xs)(hk:∃o,K.lookup a=some o)(hd:∀H S,aE K T H S ds xs):CV K T (.tup ds) (.ref a):=⟨.ref a,rfl,fun H S h1 h2=>by
 unfold Rep;refine⟨a,xs,rfl,fun z=>?_,hs H,hd H S⟩
 obtain⟨o,e⟩:=h2 a z;obtain⟨u,e2⟩:=hk;rw[h1 a u e2]at e;cases e⟩
noncomputable def enW(w:World)(p:Str×Tok×Value):DictEntry:=⟨hashStr w p.1,.str p.1 p.2.1,p.2.2⟩
noncomputable def dvs(ts:List (Str×Tok×Value)):List (Key×Value):=ts.map fun p=>(Sum.inr p.1,p.2.2)
theorem LR:∀{ts:List (Str×Tok×Value)},(ts.map (·.1)).Nodup→((dvs ts).map (·.1)).Nodup:=fun {ts} h=>by
 unfold dvs;rw[v3];have e:ts.map ((fun x=>x.1) ∘ fun p:Str×Tok×Value=>((Sum.inr p.1,p.2.2):Key×Value))=(ts.map (·.1)).map Sum.inr:=by rw[v3];rfl
 rw[e];rw[List.nodup_iff_pairwise_ne,pairwise_map];exact(List.nodup_iff_pairwise_ne.mp h).imp fun {a b} hab z=>hab (Sum.inr.inj z)
theorem qT{P:vk}{w:World}:∀{ts:List (Str×Tok×Value)},Pairs (bP P w) (ts.map (enW w)) (dvs ts)
 |[]=>.nil
 |p::ts=>.cons (eU P w p.1 p.2.1) rfl qT
theorem LS:∀{kvs:List (Str×D)} {ts:List (Str×Tok×Value)},kvs.map (·.1)=ts.map (·.1)→∀k,(valueAt (dvs ts) (Sum.inr k)).isSome=(kvs.lookup k).isSome
 |[],[],_,k=>rfl
 | (x,d)::kvs,(y,t,u)::ts,h,k=>by
  simp only[tu,List.cons.injEq]at h;obtain⟨rfl,h⟩:=h;have ih:=LS h k
  show (valueAt ((Sum.inr x,u)::dvs ts) (Sum.inr k)).isSome=_
  unfold valueAt at ih ⊢;rw[find?_cons,lookup_cons]
  by_cases e:k=x
  ·subst e;simp
  ·have e1:(k == x)=false:=ub.mpr e
   have e2:decide ((Sum.inr x:Key)=Sum.inr k)=false:=qy fun z=>e (Sum.inr.inj z).symm
   rw[e1,e2];exact ih
theorem CZ{K:vi}{T:Tx}:∀{kvs:List (Str×D)} {ts:List (Str×Tok×Value)},kvs.map (·.1)=ts.map (·.1)→(∀(i:Nat) p q,kvs[i]?=some p→ts[i]?=some q→CV K T p.2 q.2.2)→∀k d u,kvs.lookup k=some d→valueAt (dvs ts) (Sum.inr k)=some u→CV K T d u
 |[],[],_,_,k,d,u,h,_=>by cases h
 | (x,d')::kvs,(y,t,u')::ts,h,hv,k,d,u,h1,h2=>by
  simp only[tu,List.cons.injEq]at h;obtain⟨rfl,h⟩:=h;have ih:=CZ h (fun i p q a b=>hv (i+1) p q a b) k d u
  unfold valueAt at ih h2;rw[show dvs ((x,t,u')::ts)=(Sum.inr x,u')::dvs ts from rfl,find?_cons]at h2
  rw[lookup_cons]at h1
  by_cases e:k=x
  ·subst e;simp at h1 h2;subst h1 h2;exact hv 0 _ _ rfl rfl
  ·have e1:(k == x)=false:=ub.mpr e
   have e2:decide ((Sum.inr x:Key)=Sum.inr k)=false:=qy fun z=>e (Sum.inr.inj z).symm
   rw[e1]at h1;rw[e2]at h2;exact ih h1 h2
theorem LV{X:Cx}{T:Tx}{a:Addr}{o:Obj}{ep:Nat}{kvs:List (Str×D)}{ts:List (Str×Tok×Value)}(hs:(a == sysModules)=false)(hl:X.K.lookup a=some o)(he:o.ExactDict)(hd:o.data=.dict (ts.map (enW X.w)).toArray ep)(hk:kvs.map (·.1)=ts.map (·.1))(hn:(ts.map (·.1)).Nodup)
  (hv:∀(i:Nat) p q,kvs[i]?=some p→ts[i]?=some q→CV X.K T p.2 q.2.2):OH X T a kvs:=by
 refine⟨hs,o,dvs ts,hl,⟨_,ep,he,hd,fun e h=>?_,?_,LR hn⟩,LS hk,fun k d u h1 h2=>CZ hk hv k d u h1 h2⟩
 ·have h:e∈ts.map (enW X.w):=by simpa using h
  obtain⟨p,_,rfl⟩:=u7.mp h;exact⟨Sum.inr p.1,eU X.prog X.w p.1 p.2.1,rfl⟩
 ·exact qT
section
variable {X:Cx}
theorem rL:∀{bs:List Bool} {its:List Value},aQ (bs.map V.bl) its→its=bs.map Value.bool
 |[],its,h=>by cases h;rfl
 |b::bs,its,h=>by
  cases h with
  |cons h1 h2 =>
   obtain rfl:=h1;rw[rL h2];rfl
noncomputable def eqT:Value→Bool
 |.bool a=>a == true
 |_=>false
theorem aFy:∀bs:List Bool,(bs.map Value.bool).countP eqT=bs.count true
 |[]=>rfl
 |b::bs=>by
  rw[tu,List.countP_cons,List.count_cons,aFy bs];cases b<;>rfl
noncomputable def aDI:V→List V→Hp→VK→Prop:=fun x vs H Q=>∃(l:Addr) (bs:List Bool),x=.ref l∧vs=[.bl true]∧H l=some (.lst (bs.map V.bl))∧Q (.int (bs.count true)) H
theorem aAp:qk X "list.count" aDI:=by
 intro pins s σ H x vs v us Q I rx rv h;obtain⟨l,bs,rfl,rfl,hH,q⟩:=h;cases rx;obtain⟨u,rfl,ru⟩:=rv.one;obtain rfl:u=.bool true:=ru;obtain⟨z,its,n,r,hl,e⟩:=I.lstM hH;have hi:=rL r
 subst hi;refine call_meets PySem.F.slot_list_count ⟨_,e,rfl⟩ PySem.F.entry_list_count (PySem.F.args_list_count_2 _ _) (SeqAt.list_countAt l (bs.map Value.bool).toArray n none #[] (.bool true) eqT) ⟨e,fun y hy=>?_,?_⟩
 ·have bY:y∈bs.map Value.bool:=by simpa using hy
  obtain⟨b,_,rfl⟩:=u7.mp bY;exact SeqAt.EqAt.bool_bool b true
 ·refine⟨.int (bs.count true),H,I.tok _,⟨s.toks,?_⟩,q⟩;rw[←aFy bs]
noncomputable def aDH:V→List V→Hp→VK→Prop:=fun x vs H Q=>∃(l:Addr) (bs:List Bool) (j:Nat),x=.ref l∧vs=[.bl true]∧H l=some (.lst (bs.map V.bl))∧bs[j]?=some true∧(∀m,m<j→bs[m]?=some false)∧j<1000∧Q (.int (j:Nat)) H
theorem aAo:qk X "list.index" aDH:=by
 intro pins s σ H x vs v us Q I rx rv h;obtain⟨l,bs,j,rfl,rfl,hH,hj,hno,hs,q⟩:=h;cases rx;obtain⟨u,rfl,ru⟩:=rv.one;obtain rfl:u=.bool true:=ru;obtain⟨z,its,n,r,hl,e⟩:=I.lstM hH;have hi:=rL r
 subst hi;have hjl:=(q8.mp hj).1
 have hsz:(bs.map Value.bool).toArray.size=bs.length:=by simp
 have at_:∀(m:Nat) (hm:m<(bs.map Value.bool).toArray.size) (b:Bool),bs[m]?=some b→(bs.map Value.bool).toArray[m]=.bool b:=fun m hm b e=>by
  have hm':m<bs.length:=by rw[hsz]at hm;exact hm
  have e':bs[m]=b:=by rw[qt hm']at e;exact rn e
  simp[e']
 refine call_meets PySem.F.slot_list_index ⟨_,e,rfl⟩ PySem.F.entry_list_index (PySem.F.args_list_index_2 _ _) (SeqAt.list_indexAt l (bs.map Value.bool).toArray n none #[] (.bool true) eqT j (by rw[hsz];exact hjl) (by lia) ?_ fun m hm hmj=>?_) ⟨e,fun y hy=>?_,?_⟩
 ·rw[at_ j _ true hj];rfl
 ·rw[at_ m hm false (hno m hmj)];rfl
 ·have bY:y∈bs.map Value.bool:=by simpa using hy
  obtain⟨b,_,rfl⟩:=u7.mp bY;exact SeqAt.EqAt.bool_bool b true
 ·exact⟨.int (j:Nat),H,I.tok _,⟨_,rfl⟩,q⟩
end
noncomputable def fE(p:Nat→Pos)(k:Nat)(y:Str):Expr:=.Call (.Name "isinstance" (p k)) [.Name "e" (p (k+1)),.Name y (p (k+2))] [] (p (k+3))
noncomputable def nG(p:Nat→Pos):List Stmt:=[
 .Assign [.Name "kinds" (p 0)] (.List [fE p 1 "NoSheet",fE p 5 "NoFold",fE p 9 "NoPlace",fE p 13 "Ajar"] (p 17)) (p 18),
 .Assign [.Name "kinds" (p 19)] (.BinOp (.Name "kinds" (p 20)) .Add (.List [fE p 21 "Severed",fE p 25 "Bolted",fE p 29 "Loose",fE p 33 "NoWord"] (p 37)) (p 38)) (p 39),
 .If (.BoolOp .Or [.Compare (.Call (.Attribute (.Name "kinds" (p 40)) "count" (p 41)) [.Constant (.bool true) 0 (p 42)] [] (p 43)) [.NotEq] [.Constant (.int 1) 0 (p 44)] (p 45),.UnaryOp .Not (fE p 46 "ValueError") (p 50)] (p 51)) [.Return (some (.Constant (.str "other") 0 (p 52))) (p 53)] [] (p 54),
 .Return (some (.Subscript (.List [.Constant (.str "sheet") 0 (p 55),.Constant (.str "fold") 0 (p 56),.Constant (.str "place") 0 (p 57),.Constant (.str "ajar") 0 (p 58),.Constant (.str "severed") 0 (p 59),.Constant (.str "bolted") 0 (p 60),.Constant (.str "loose") 0 (p 61),.Constant (.str "word") 0 (p 62)] (p 63)) (.Call (.Attribute (.Name "kinds" (p 64)) "index" (p 65)) [.Constant (.bool true) 0 (p 66)] [] (p 67)) (p 68))) (p 69)]
noncomputable def bI:List Str:=["NoSheet","NoFold","NoPlace","Ajar","Severed","Bolted","Loose","NoWord"]
noncomputable def rJ:List Str:=["sheet","fold","place","ajar","severed","bolted","loose","word"]
section
variable {X:Cx}{p:Nat→Pos}
def XE(K:vi)(c:Value):TE:=fun σ H Q=>∃a C b,σ[0]?=some (some (.ref a))∧H a=some (.ext (isExc a C))∧XcK K C∧kitOne K (.ref C) c=some b∧Q (.bl b) H
theorem xI{c:Value}{v:V}(rc:∀u,RelV v u→u=c):fY X (.builtin "isinstance") (fun xs H Q=>∃a C b,xs=[.ref a,v]∧H a=some (.ext (isExc a C))∧XcK X.K C∧kitOne X.K (.ref C) c=some b∧Q (.bl b) H):=by
 rintro pins s σ H xs us Q I r ⟨a,C,b,rfl,hx,F,hk,q⟩;cases r with
 |cons r1 r2 =>
  cases r2 with
  |cons r2 r3 =>
   cases r3;obtain rfl:=r1;have ec:=rc _ r2
   subst ec;obtain⟨h1,_,_⟩:=I.hok a _ hx;exact kia_one (JW F) I.kIn h1 hk (fun z=>by cases z) fun tk=>⟨.bl b,H,I.tok tk,rfl,q⟩
theorem qW:bootBuiltins "isinstance" = some (.builtin "isinstance"):=by decide +kernel
theorem aFz:bootBuiltins "ValueError" = some (.type "ValueError"):=by decide +kernel
structure WX (X:Cx) (cs:Str→Addr):Prop where
 N:X.N=(["e","kinds"]:List Str)
 le:X.env.kindOf "e" = some .local
 lk:X.env.kindOf "kinds" = some .local
 gi:Gl X "isinstance"
 gv:Gl X "ValueError"
 gx:∀y∈bI,Gl X y
 mi:X.mg "isinstance" = none
 mv:X.mg "ValueError" = none
 mx:∀y∈bI,X.mg y=some (.ref (cs y))
variable {cs:Str→Addr}
theorem aDN(W:WX X cs){q:Pos}:PE X (.Name "e" q) (rP 0):=lJ (by rw[W.N];rfl) (.inl W.le) (by decide +kernel) (by decide +kernel)
theorem ZI(W:WX X cs){q:Pos}:PE X (.Name "kinds" q) (rP 1):=lJ (by rw[W.N];rfl) (.inl W.lk) (by decide +kernel) (by decide +kernel)
theorem rW(W:WX X cs){k:Nat}{y:Str}(hy:y∈bI):PE X (fE p k y) (XE X.K (.ref (cs y))):=by
 have hd:(y == ("__debug__":Str))=false:=by
  have:bI.all (fun y=>!(y == ("__debug__":Str)))=true:=by decide +kernel
  have:=all_eq_true.mp this y hy
  simpa using this
 refine PE.mono (fS (xI (v:=.ref (cs y)) fun u h=>h) W.gi W.mi qW (bG (aDN W) (bG (QX (v:=.ref (cs y)) (W.gx y hy) (W.mx y hy) rfl hd) fT)) (by decide +kernel) (by decide +kernel) rfl rfl) fun σ H Q hh=>?_
 obtain⟨a,C,b,h1,h2,h3,h4,q⟩:=hh;exact⟨.ref a,h1,a,C,b,rfl,h2,h3,h4,q⟩
theorem ZJ(W:WX X cs){k:Nat}:PE X (fE p k "ValueError") (XE X.K (.type "ValueError")):=by
 refine PE.mono (fS (xI (v:=.ty "ValueError") fun u h=>h) W.gi W.mi qW (bG (aDN W) (bG (AN (v:=.ty "ValueError") W.gv W.mv aFz rfl (by decide +kernel) (by decide +kernel)) fT)) (by decide +kernel) (by decide +kernel) rfl rfl) fun σ H Q hh=>?_
 obtain⟨a,C,b,h1,h2,h3,h4,q⟩:=hh;exact⟨.ref a,h1,a,C,b,rfl,h2,h3,h4,q⟩
def HD(K:vi)(c1 c2 c3 c4:Value):TE:=fun σ H Q=>∃a C b1 b2 b3 b4,σ[0]?=some (some (.ref a))∧H a=some (.ext (isExc a C))∧XcK K C∧kitOne K (.ref C) c1=some b1∧kitOne K (.ref C) c2=some b2∧kitOne K (.ref C) c3=some b3∧kitOne K (.ref C) c4=some b4∧∀l,H l=none→Q (.ref l) (upd H l (.lst ([b1,b2,b3,b4].map V.bl)))
theorem AJ(W:WX X cs){k1 k2 k3 k4:Nat}{q:Pos}{y1 y2 y3 y4:Str}(h1:y1∈bI)(h2:y2∈bI)(h3:y3∈bI)(h4:y4∈bI):PE X (.List [fE p k1 y1,fE p k2 y2,fE p k3 y3,fE p k4 y4] q) (HD X.K (.ref (cs y1)) (.ref (cs y2)) (.ref (cs y3)) (.ref (cs y4))):=
 PE.mono (yC (bG (rW W h1) (bG (rW W h2) (bG (rW W h3) (bG (rW W h4) fT))))) fun σ H Q hh=>by
  obtain⟨a,C,b1,b2,b3,b4,e1,e2,e3,f1,f2,f3,f4,q⟩:=hh;exact⟨a,C,b1,e1,e2,e3,f1,a,C,b2,e1,e2,e3,f2,a,C,b3,e1,e2,e3,f3,a,C,b4,e1,e2,e3,f4,by show 4≤sizeLine;rw[sizeLine_eq];decide,q⟩
theorem mJ{i:Nat}{y:Str}(h:bI[i]?=some y):y∈bI:=qq h
def aCp(K:vi)(cs:Str→Addr):TS:=fun D σ H=>∃a C j w,σ[0]?=some (some (.ref a))∧σ.length=2∧H a=some (.ext (isExc a C))∧XcK K C∧j<8∧(∀i y,bI[i]?=some y→kitOne K (.ref C) (.ref (cs y))=some (decide (i=j)))∧kitOne K (.ref C) (.type "ValueError")=some true∧rJ[j]?=some w∧∀H',aH H H'→D.rt (.str w) H'
section
variable (p)
abbrev wS1:Stmt:=.Assign [.Name "kinds" (p 0)] (.List [fE p 1 "NoSheet",fE p 5 "NoFold",fE p 9 "NoPlace",fE p 13 "Ajar"] (p 17)) (p 18)
abbrev wS2:Stmt:=.Assign [.Name "kinds" (p 19)] (.BinOp (.Name "kinds" (p 20)) .Add (.List [fE p 21 "Severed",fE p 25 "Bolted",fE p 29 "Loose",fE p 33 "NoWord"] (p 37)) (p 38)) (p 39)
abbrev wC1:Expr:=.Call (.Attribute (.Name "kinds" (p 40)) "count" (p 41)) [.Constant (.bool true) 0 (p 42)] [] (p 43)
abbrev wC2:Expr:=.Call (.Attribute (.Name "kinds" (p 64)) "index" (p 65)) [.Constant (.bool true) 0 (p 66)] [] (p 67)
abbrev wT3:Expr:=.BoolOp .Or [.Compare (wC1 p) [.NotEq] [.Constant (.int 1) 0 (p 44)] (p 45),.UnaryOp .Not (fE p 46 "ValueError") (p 50)] (p 51)
abbrev wL:Expr:=.List [.Constant (.str "sheet") 0 (p 55),.Constant (.str "fold") 0 (p 56),.Constant (.str "place") 0 (p 57),.Constant (.str "ajar") 0 (p 58),.Constant (.str "severed") 0 (p 59),.Constant (.str "bolted") 0 (p 60),.Constant (.str "loose") 0 (p 61),.Constant (.str "word") 0 (p 62)] (p 63)
end
theorem w1(W:WX X cs):PS X (wS1 p) (OP (HD X.K (.ref (cs "NoSheet")) (.ref (cs "NoFold")) (.ref (cs "NoPlace")) (.ref (cs "Ajar"))) (qO 1)):=
 nR (i:=1) (by rw[W.N];decide +kernel) (by rw[W.N];rfl) (.inl W.lk) (AJ W (mJ (i:=0) rfl) (mJ (i:=1) rfl) (mJ (i:=2) rfl) (mJ (i:=3) rfl)) rfl (.inr W.lk)
theorem w2(W:WX X cs):PS X (wS2 p) (OP (jc aDK (rP 1) (HD X.K (.ref (cs "Severed")) (.ref (cs "Bolted")) (.ref (cs "Loose")) (.ref (cs "NoWord")))) (qO 1)):=
 nR (i:=1) (by rw[W.N];decide +kernel) (by rw[W.N];rfl) (.inl W.lk) (VD IX (ZI W) (AJ W (mJ (i:=4) rfl) (mJ (i:=5) rfl) (mJ (i:=6) rfl) (mJ (i:=7) rfl))) rfl (.inr W.lk)
theorem w3(W:WX X cs)(kf:((p 41).endLine == (p 43).line)=true):PT X (wT3 p) (tOr (HB (jc rNe (tBM X.K "list" aDI (rP 1) (iM (tC (.bl true)) HC)) (tC (.int 1)))) (aCt (tB (XE X.K (.type "ValueError"))))):=
 PW.pt (HY (AF aDO (IR plainAttrs_list PySem.F.slot_list_count PySem.F.type_list_count aAp (ZI W) (bG AO fT) rfl rfl kf) IM (JL _)) (HX (IF (YW (ZJ W)))))
def tWd:TE:=aCu (iM (tC (.str "sheet")) (iM (tC (.str "fold")) (iM (tC (.str "place")) (iM (tC (.str "ajar")) (iM (tC (.str "severed")) (iM (tC (.str "bolted")) (iM (tC (.str "loose")) (iM (tC (.str "word")) HC))))))))
theorem w4(W:WX X cs)(gq:((p 65).endLine == (p 67).line)=true):PS X (.Return (some (.Subscript (wL p) (wC2 p) (p 68))) (p 69)) (aCr (jc (YI X.K) tWd (tBM X.K "list" aDH (rP 1) (iM (tC (.bl true)) HC)))):=
 iQ (VE AV (yC (bG fR (bG fR (bG fR (bG fR (bG fR (bG fR (bG fR (bG fR fT))))))))) (IR plainAttrs_list PySem.F.slot_list_index PySem.F.type_list_index aAo (ZI W) (bG AO fT) rfl rfl gq) (fun _ _=>rfl))
end
section
variable {X:Cx}{p:Nat→Pos}{cs:Str→Addr}
theorem aIl:∀j,j<8→[decide (0=j),decide (1=j),decide (2=j),decide (3=j),decide (4=j),decide (5=j),decide (6=j),decide (7=j)].count true=1:=by decide
theorem at8:∀j,j<8→[decide (0=j),decide (1=j),decide (2=j),decide (3=j),decide (4=j),decide (5=j),decide (6=j),decide (7=j)][j]?=some true:=by decide
theorem no8:∀j,j<8→∀m,m<j→[decide (0=j),decide (1=j),decide (2=j),decide (3=j),decide (4=j),decide (5=j),decide (6=j),decide (7=j)][m]?=some false:=by decide
theorem wd8:∀j:Nat,j<8→∀w,rJ[j]?=some w→L2.atI ([.str "sheet",.str "fold",.str "place",.str "ajar",.str "severed",.str "bolted",.str "loose",.str "word"]:List V) (j:Int)=some (.str w):=by
 intro j hj w hw;refine UI ?_;have:j=0∨j=1∨j=2∨j=3∨j=4∨j=5∨j=6∨j=7:=by lia
 rcases this with rfl|rfl|rfl|rfl|rfl|rfl|rfl|rfl<;>(have jn:=rn hw;subst jn;rfl)
theorem OJ(W:WX X cs)(kf:((p 41).endLine == (p 43).line)=true)(gq:((p 65).endLine == (p 67).line)=true):PSs X (nG p) (aCp X.K cs):=by
 intro pins s σ H D I hw;refine iP (w1 W) (iP (w2 W) (iP (VB (w3 W kf) (jH (iQ fR)) rV) (jH (w4 W gq)))) pins s σ H D I ?_;obtain⟨a,C,j,w,e0,elen,e1,e2,hj,hk,hv,hwj,q⟩:=hw;refine⟨a,C,_,_,_,_,e0,e1,e2,hk 0 _ rfl,hk 1 _ rfl,hk 2 _ rfl,hk 3 _ rfl,fun l hl=>?_⟩
 have ne1:a≠l:=fun z=>by rw[z,hl]at e1;cases e1
 refine⟨.ref l,by rw[sk (by lia)],?_⟩
 have a0:(σ.set 1 (some (V.ref l)))[0]?=some (some (.ref a)):=by rw[so (by decide)];exact e0
 refine⟨a,C,_,_,_,_,a0,by rw[aN ne1];exact e1,e2,hk 4 _ rfl,hk 5 _ rfl,hk 6 _ rfl,hk 7 _ rfl,fun l2 i9=>?_⟩
 have ne2:l≠l2:=fun z=>by rw[←z,aM]at i9;cases i9
 have s1:aH H (upd H l (.lst ([decide (0=j),decide (1=j),decide (2=j),decide (3=j)].map V.bl))):=aH.upd hl
 have s2:=s1.trans (aH.upd (o:=.lst ([decide (4=j),decide (5=j),decide (6=j),decide (7=j)].map V.bl)) i9)
 refine⟨l,l2,_,_,rfl,rfl,by rw[aN ne2];exact aM,aM,?_,fun l3 hl3=>?_⟩
 ·show 4+4≤sizeLine;rw[sizeLine_eq];decide
 have n2:(((σ.set 1 (some (V.ref l))).set 1 (some (V.ref l3))))[1]?=some (some (.ref l3)):=by rw[sk (by rw[List.length_set];lia)]
 have n0:(((σ.set 1 (some (V.ref l))).set 1 (some (V.ref l3))))[0]?=some (some (.ref a)):=by rw[so (by decide)];exact a0
 have s3:=s2.trans (aH.upd (o:=.lst ([decide (0=j),decide (1=j),decide (2=j),decide (3=j),decide (4=j),decide (5=j),decide (6=j),decide (7=j)].map V.bl)) hl3)
 have ha3:=s3 _ _ e1
 refine⟨.ref l3,n2,.inl ⟨rfl,_,SqL.of aM⟩,l3,[decide (0=j),decide (1=j),decide (2=j),decide (3=j),decide (4=j),decide (5=j),decide (6=j),decide (7=j)],rfl,rfl,aM,rfl,⟨_,rfl,?_⟩⟩;refine aFc (by rw[aIl j hj];rfl) ?_
 refine⟨a,C,true,n0,ha3,e2,hv,true,rfl,?_⟩;show if false=true then _ else _
 refine pG ?_;refine⟨by show 8≤sizeLine;rw[sizeLine_eq];decide,fun l4 hl4=>?_⟩
 have ne4:l3≠l4:=fun z=>by
  rw[←z]at hl4;have:(some (HO.lst ([decide (0=j),decide (1=j),decide (2=j),decide (3=j),decide (4=j),decide (5=j),decide (6=j),decide (7=j)].map V.bl)))=none:=aM.symm.trans hl4
  cases this
 refine⟨.ref l3,n2,.inl ⟨rfl,_,SqL.of (by rw[aN ne4];exact aM)⟩,l3,[decide (0=j),decide (1=j),decide (2=j),decide (3=j),decide (4=j),decide (5=j),decide (6=j),decide (7=j)],j,rfl,rfl,by rw[aN ne4];exact aM,at8 j hj,no8 j hj,by lia,l4,_,_,_,rfl,rfl,SqL.of aM,wd8 j hj w hwj,q _ (s3.trans (aH.upd hl4))⟩
end
theorem SW{P:vk}{w:World}{K:vi}{mg:vo}{base:Heap}{x qual:Str}{st:Stmt}{f C:Addr}{fd:vj}{p:Nat→Pos}{cs:Str→Addr}{j k:Nat}{wd:Str}(F:Fun K x qual st f fd)(fs:aa ["e","kinds"] ["e"] (aD st))(hb:bR st=nG p)
  (kf:((p 41).endLine == (p 43).line)=true) (gq:((p 65).endLine == (p 67).line)=true) (h1:(aD st).names.lookup ("e":Str)=some .local) (h2:(aD st).names.lookup ("kinds":Str)=some .local)
  (h3:∀y∈("isinstance":Str) :: "ValueError" :: bI,(aD st).names.lookup y=some .globalImplicit) (mi:mg "isinstance" = none) (mv:mg "ValueError" = none) (mx:∀y∈bI,mg y=some (.ref (cs y)))
  (X:XcK K C) (hj:j<8) (hk:∀(i:Nat) (y:Str),bI[i]?=some y→kitOne K (.ref C) (.ref (cs y))=some (decide (i=j))) (hv:kitOne K (.ref C) (.type "ValueError")=some true) (hw:rJ[j]?=some wd):k6 P w K mg base (k+1) f fd ["e"] (nu C wd):=by
 refine aAK F fs (fun vs H Q bq=>?_) fun cd A outer s H vs Q hr bq=>⟨_,by rw[hb];exact OJ (cs:=cs) ⟨rfl,h1,h2,h3 _ (by simp),h3 _ (by simp),fun y hy=>h3 y (by simp[hy]),mi,mv,mx⟩ kf gq,?_⟩
 ·obtain⟨a,rfl,_⟩:=bq;rfl
 ·obtain⟨a,rfl,hx,q⟩:=bq;exact⟨a,C,j,wd,rfl,rfl,hx,X,hj,hk,hv,hw,q⟩
end Z
namespace Toy
open PySem PySem.Spec PyProof.Rows L2 Z
noncomputable def wD:Str→List Str:=fun c=>if c = "Pile" then ["columns","rows","wide","high","table","folds","severed"] else []
noncomputable def csts:List (Str×D):=[("MOST_CELLS",.int 64),("UPRIGHT_SIDES",.tup [.str "west",.str "east"]),("LEVEL_SIDES",.tup [.str "north",.str "south"]),("NEAR_SIDES",.tup [.str "west",.str "north"])]
noncomputable def jb:List (Str×List (Str×D)):=[("SPINE_LINES",[("west",.tup [.bl false,.int 0]),("east",.tup [.bl false,.int 1]),("north",.tup [.bl true,.int 0]),("south",.tup [.bl true,.int 1])])]
noncomputable def cj:List Str:=(["LeafError","Ajar","NoPlace"]:List Str)
noncomputable def XG:Str→Str→Bool:=fun k k'=>cj.contains k&&(k' == "LeafError" || k == k')
noncomputable def k8:Str→Str→Option Str:=fun f k=>if f = "_law_word_of"∧cj.contains k=true then(bI.idxOf? k).bind (rJ[·]?) else none
noncomputable def m0:Nm:=⟨[],(["Pile","LeafError","NoSheet","NoFold","NoPlace","Ajar","Severed","Bolted","Loose","NoWord"]:List Str),csts.map (·.1),[]⟩
noncomputable def g0:GS:=G0 csts wD XG (fun k=>cj.contains k) k8 jb
abbrev Rd(U:List Str)(m:Nm)(N:List Str)(st:Stmt)(i:IS):Prop:=jh 60 (m.cc N (aD st) U) (bR st)=some i
abbrev Ok(U:List Str)(m:Nm)(N:List Str)(st:Stmt):Prop:=mP (m.cc N (aD st) U) (aD st)=true
theorem sK{N P:List Str}{sc:Scope}(a:sc.kind=.function:=by rfl)(b:sc.isCoroutine=false:=by rfl)(c:sc.isGenerator=false:=by rfl)(d:N.Nodup:=by decide +kernel)(e:N.take P.length=P:=by rfl)(f:∀x∈P,sc.names.lookup x=some .local∨sc.names.lookup x=some .cell:=by decide +kernel)(h:∀y∈sc.names,y.2≠.free:=by decide +kernel):aa N P sc:=⟨a,b,c,d,e,f,h⟩
noncomputable def fD(k:Nat)(g:GS)(n:Nat)(i:IS)(ds:List D):Option Rs:=if ds.length=k then aU g n i ds else none
theorem dG{k:Nat}{g:GS}{n:Nat}{i:IS}{ds:List D}(h:ds.length=k):fD k g n i ds=aU g n i ds:=if_pos h
noncomputable def wC:List (Str×IE):=[("columns",.var 1),("rows",.var 2),("wide",.bcall .len (.cons (.ix (.var 3) (.lit (.int 0))) .nil)),("high",.bcall .len (.cons (.var 3) .nil)),("table",.var 3),("folds",.var 4),("severed",.var 5)]
theorem aDG:qV 60 (m0.cc (["self","columns","rows","table","folds","severed"]:List Str) (aD (L2.inClass (top 15) 0)) []) (bR (L2.inClass (top 15) 0))=some wC:=by kernel_rfl
noncomputable def LB(ds:List D):Option Rs:=if ds.length+1=6 then EI g0 "Pile" 6 wC ds else none
noncomputable def g1:GS:=g0.addC "Pile" LB
noncomputable def m1:Nm:=m0
noncomputable def DO:List Str:=(["self","x","y"]:List Str)
abbrev NA:List Str:=DO
theorem aDk:Rd ([]:List Str) m1 DO (L2.inClass (top 15) 1) Pg.sJ:=by kernel_rfl
theorem aCD:aa DO NA (aD (L2.inClass (top 15) 1)):=sK
theorem aEe:Ok ([]:List Str) m1 DO (L2.inClass (top 15) 1):=by decide +kernel
noncomputable def oJ:=fD 3 g1 3 Pg.sJ
theorem aBU{ds:List D}:ds.length=3→oJ ds=aU g1 3 Pg.sJ ds:=dG
noncomputable def g2:GS:=g1.addM "Pile" "heap" oJ true
noncomputable def m2:Nm:=m1.addM "heap" true
noncomputable def DR:List Str:=(["columns","y"]:List Str)
abbrev NF:List Str:=DR
theorem aDo:Rd ([]:List Str) m2 DR (top 17) Pg.iB:=by kernel_rfl
theorem aCH:aa DR NF (aD (top 17)):=sK
theorem aEi:Ok ([]:List Str) m2 DR (top 17):=by decide +kernel
noncomputable def BY:=fD 2 g2 2 Pg.iB
theorem aBY{ds:List D}:ds.length=2→BY ds=aU g2 2 Pg.iB ds:=dG
noncomputable def g3:GS:=g2.addF "laid_row" BY false
noncomputable def m3:Nm:=m2.addF "laid_row" false
noncomputable def NV:List Str:=(["columns","rows","table"]:List Str)
noncomputable def MY:List Str:=(["columns","rows"]:List Str)
theorem aDi:Rd ([]:List Str) m3 NV (top 16) Pg.sI:=by kernel_rfl
theorem aCB:aa NV MY (aD (top 16)):=sK
theorem aEc:Ok ([]:List Str) m3 NV (top 16):=by decide +kernel
noncomputable def wH:=fD 2 g3 3 Pg.sI
theorem aBT{ds:List D}:ds.length=2→wH ds=aU g3 3 Pg.sI ds:=dG
noncomputable def g4:GS:=g3.addF "laid" wH false
noncomputable def m4:Nm:=m3.addF "laid" false
noncomputable def DQ:List Str:=(["part","k"]:List Str)
abbrev ND:List Str:=DQ
theorem aDn:Rd ([]:List Str) m4 DQ (top 28) Pg.jN:=by kernel_rfl
theorem aCG:aa DQ ND (aD (top 28)):=sK
theorem aEh:Ok ([]:List Str) m4 DQ (top 28):=by decide +kernel
noncomputable def BX:=fD 2 g4 2 Pg.jN
theorem aBX{ds:List D}:ds.length=2→BX ds=aU g4 2 Pg.jN ds:=dG
noncomputable def g5:GS:=g4.addF "heap_at" BX false
noncomputable def m5:Nm:=m4.addF "heap_at" false
noncomputable def aBA:List Str:=(["moving","staying","over","upper","lower","longer"]:List Str)
noncomputable def aBq:List Str:=(["moving","staying","over"]:List Str)
theorem aHB:Rd ([]:List Str) m5 aBA (top 27) Pg.dM:=by kernel_rfl
theorem aHp:aa aBA aBq (aD (top 27)):=sK
theorem aHT:Ok ([]:List Str) m5 aBA (top 27):=by decide +kernel
noncomputable def TJ:=fD 3 g5 6 Pg.dM
theorem aGZ{ds:List D}:ds.length=3→TJ ds=aU g5 6 Pg.dM ds:=dG
noncomputable def g6:GS:=g5.addF "laid_together" TJ false
noncomputable def m6:Nm:=m5.addF "laid_together" false
noncomputable def DX:List Str:=(["heap","side"]:List Str)
abbrev NT:List Str:=DX
theorem aDC:Rd ([]:List Str) m6 DX (top 26) Pg.eR:=by kernel_rfl
theorem aCV:aa DX NT (aD (top 26)):=sK
theorem aEx:Ok ([]:List Str) m6 DX (top 26):=by decide +kernel
noncomputable def CM:=fD 2 g6 2 Pg.eR
theorem aCl{ds:List D}:ds.length=2→CM ds=aU g6 2 Pg.eR ds:=dG
noncomputable def g7:GS:=g6.addF "turned_heap" CM false
noncomputable def m7:Nm:=m6.addF "turned_heap" false
noncomputable def DW:List Str:=(["part","side"]:List Str)
abbrev NR:List Str:=DW
theorem aDA:Rd ([]:List Str) m7 DW (top 25) Pg.eQ:=by kernel_rfl
theorem aCT:aa DW NR (aD (top 25)):=sK
theorem aEv:Ok ([]:List Str) m7 DW (top 25):=by decide +kernel
noncomputable def CK:=fD 2 g7 2 Pg.eQ
theorem aCj{ds:List D}:ds.length=2→CK ds=aU g7 2 Pg.eQ ds:=dG
noncomputable def g8:GS:=g7.addF "turned_part" CK false
noncomputable def m8:Nm:=m7.addF "turned_part" false
noncomputable def aBy:List Str:=(["strip","side","over","crease","before","behind","outward"]:List Str)
noncomputable def aBo:List Str:=(["strip","side","over","crease"]:List Str)
theorem aHz:Rd ([]:List Str) m8 aBy (top 24) Pg.eC:=by kernel_rfl
theorem aHn:aa aBy aBo (aD (top 24)):=sK
theorem aHR:Ok ([]:List Str) m8 aBy (top 24):=by decide +kernel
noncomputable def TF:=fD 4 g8 7 Pg.eC
theorem aGX{ds:List D}:ds.length=4→TF ds=aU g8 7 Pg.eC ds:=dG
noncomputable def g9:GS:=g8.addF "folded_strip" TF false
noncomputable def m9:Nm:=m8.addF "folded_strip" false
noncomputable def DS:List Str:=(["table","x"]:List Str)
abbrev NG:List Str:=DS
theorem aDp:Rd ([]:List Str) m9 DS (top 23) Pg.gC:=by kernel_rfl
theorem aCI:aa DS NG (aD (top 23)):=sK
theorem aEj:Ok ([]:List Str) m9 DS (top 23):=by decide +kernel
noncomputable def BZ:=fD 2 g9 2 Pg.gC
theorem aBZ{ds:List D}:ds.length=2→BZ ds=aU g9 2 Pg.gC ds:=dG
noncomputable def qb:GS:=g9.addF "column_of" BZ false
noncomputable def m10:Nm:=m9.addF "column_of" false
noncomputable def DT:List Str:=(["table"]:List Str)
abbrev NL:List Str:=DT
theorem aDu:Rd ([]:List Str) m10 DT (top 22) Pg.fF:=by kernel_rfl
theorem aCN:aa DT NL (aD (top 22)):=sK
theorem aEp:Ok ([]:List Str) m10 DT (top 22):=by decide +kernel
noncomputable def CG:=fD 1 qb 1 Pg.fF
theorem aCe{ds:List D}:ds.length=1→CG ds=aU qb 1 Pg.fF ds:=dG
noncomputable def mG:GS:=qb.addF "transposed" CG false
noncomputable def m11:Nm:=m10.addF "transposed" false
noncomputable def aBz:List Str:=(["table","side","over","crease","strips"]:List Str)
noncomputable def aBp:List Str:=(["table","side","over","crease"]:List Str)
theorem aHA:Rd ([]:List Str) m11 aBz (top 21) Pg.eB:=by kernel_rfl
theorem aHo:aa aBz aBp (aD (top 21)):=sK
theorem aHS:Ok ([]:List Str) m11 aBz (top 21):=by decide +kernel
noncomputable def TH:=fD 4 mG 5 Pg.eB
theorem aGY{ds:List D}:ds.length=4→TH ds=aU mG 5 Pg.eB ds:=dG
noncomputable def g12:GS:=mG.addF "folded_table" TH false
noncomputable def m12:Nm:=m11.addF "folded_table" false
noncomputable def DU:List Str:=(["pile","side","crease"]:List Str)
abbrev NM:List Str:=DU
theorem aDv:Rd ([]:List Str) m12 DU (top 20) Pg.fH:=by kernel_rfl
theorem aCO:aa DU NM (aD (top 20)):=sK
theorem aEq:Ok ([]:List Str) m12 DU (top 20):=by decide +kernel
noncomputable def CH:=fD 3 g12 3 Pg.fH
theorem aCf{ds:List D}:ds.length=3→CH ds=aU g12 3 Pg.fH ds:=dG
noncomputable def g13:GS:=g12.addF "has_crease" CH false
noncomputable def m13:Nm:=m12.addF "has_crease" false
noncomputable def UP:List Str:=(["pile"]:List Str)
abbrev aBu:List Str:=UP
theorem aHF:Rd ([]:List Str) m13 UP (top 19) Pg.dB:=by kernel_rfl
theorem aHt:aa UP aBu (aD (top 19)):=sK
theorem aHX:Ok ([]:List Str) m13 UP (top 19):=by decide +kernel
noncomputable def TL:=fD 1 g13 1 Pg.dB
theorem aHc{ds:List D}:ds.length=1→TL ds=aU g13 1 Pg.dB ds:=dG
noncomputable def kn:GS:=g13.addF "refuse_severed" TL false
noncomputable def m14:Nm:=m13.addF "refuse_severed" false
noncomputable def NX:List Str:=(["pile","side","over","crease","table","folds"]:List Str)
noncomputable def NC:List Str:=(["pile","side","over","crease"]:List Str)
theorem aDm:Rd ([]:List Str) m14 NX (top 18) Pg.kN:=by kernel_rfl
theorem aCF:aa NX NC (aD (top 18)):=sK
theorem aEg:Ok ([]:List Str) m14 NX (top 18):=by decide +kernel
noncomputable def BW:=fD 4 kn 6 Pg.kN
theorem aBW{ds:List D}:ds.length=4→BW ds=aU kn 6 Pg.kN ds:=dG
noncomputable def mz:GS:=kn.addF "folded" BW false
noncomputable def m15:Nm:=m14.addF "folded" false
noncomputable def OE:List Str:=(["pile","lines","y","x","cell","east","north"]:List Str)
noncomputable def NQ:List Str:=(["pile"]:List Str)
theorem aDz:Rd (["lines"]:List Str) m15 OE (top 33) Pg.fI:=by kernel_rfl
theorem aCS:aa OE NQ (aD (top 33)):=sK
theorem aEu:Ok (["lines"]:List Str) m15 OE (top 33):=by decide +kernel
noncomputable def CJ:=fD 1 mz 7 Pg.fI
theorem aCi{ds:List D}:ds.length=1→CJ ds=aU mz 7 Pg.fI ds:=dG
noncomputable def g16:GS:=mz.addF "edge_lines" CJ false
noncomputable def m16:Nm:=m15.addF "edge_lines" false
noncomputable def OB:List Str:=(["columns","rows","cells","found","cell"]:List Str)
noncomputable def NK:List Str:=(["columns","rows"]:List Str)
theorem aDt:Rd (["found"]:List Str) m16 OB (top 32) Pg.fG:=by kernel_rfl
theorem aCM:aa OB NK (aD (top 32)):=sK
theorem aEo:Ok (["found"]:List Str) m16 OB (top 32):=by decide +kernel
noncomputable def CF:=fD 2 g16 5 Pg.fG
theorem aCd{ds:List D}:ds.length=2→CF ds=aU g16 5 Pg.fG ds:=dG
noncomputable def my:GS:=g16.addF "neighbours" CF false
noncomputable def m17:Nm:=m16.addF "neighbours" false
noncomputable def OD:List Str:=(["pile","lines","found","first","second","level"]:List Str)
noncomputable def NO:List Str:=(["pile"]:List Str)
theorem aDx:Rd (["found"]:List Str) m17 OD (top 31) Pg.fJ:=by kernel_rfl
theorem aCQ:aa OD NO (aD (top 31)):=sK
theorem aEs:Ok (["found"]:List Str) m17 OD (top 31):=by decide +kernel
noncomputable def CI:=fD 1 my 6 Pg.fJ
theorem aCg{ds:List D}:ds.length=1→CI ds=aU my 6 Pg.fJ ds:=dG
noncomputable def qa:GS:=my.addF "all_joints" CI false
noncomputable def m18:Nm:=m17.addF "all_joints" false
noncomputable def DP:List Str:=(["pile"]:List Str)
abbrev NB:List Str:=DP
theorem aDl:Rd ([]:List Str) m18 DP (top 30) Pg.kM:=by kernel_rfl
theorem aCE:aa DP NB (aD (top 30)):=sK
theorem aEf:Ok ([]:List Str) m18 DP (top 30):=by decide +kernel
noncomputable def BV:=fD 1 qa 1 Pg.kM
theorem aBV{ds:List D}:ds.length=1→BV ds=aU qa 1 Pg.kM ds:=dG
noncomputable def p9:GS:=qa.addF "joints" BV false
noncomputable def m19:Nm:=m18.addF "joints" false
noncomputable def NU:List Str:=(["pile","level","number","last","parted"]:List Str)
noncomputable def MX:List Str:=(["pile","level","number"]:List Str)
theorem aDg:Rd ([]:List Str) m19 NU (top 34) Pg.BE:=by kernel_rfl
theorem aCz:aa NU MX (aD (top 34)):=sK
theorem aEa:Ok ([]:List Str) m19 NU (top 34):=by decide +kernel
noncomputable def BU:=fD 3 p9 5 Pg.BE
theorem aBS{ds:List D}:ds.length=3→BU ds=aU p9 5 Pg.BE ds:=dG
noncomputable def g20:GS:=p9.addF "cut" BU false
noncomputable def m20:Nm:=m19.addF "cut" false
noncomputable def UO:List Str:=(["pile","spine"]:List Str)
abbrev aBt:List Str:=UO
theorem aHE:Rd ([]:List Str) m20 UO (top 38) Pg.qN:=by kernel_rfl
theorem aHs:aa UO aBt (aD (top 38)):=sK
theorem aHW:Ok ([]:List Str) m20 UO (top 38):=by decide +kernel
noncomputable def FZ:=fD 2 g20 2 Pg.qN
theorem XA{ds:List D}:ds.length=2→FZ ds=aU g20 2 Pg.qN ds:=dG
noncomputable def p8:GS:=g20.addF "refuse_unbound" FZ false
noncomputable def m21:Nm:=m20.addF "refuse_unbound" false
noncomputable def aBC:List Str:=(["pile","spine","found","cell","east","north","upward","downward"]:List Str)
noncomputable def aBs:List Str:=(["pile","spine"]:List Str)
theorem aHD:Rd (["found"]:List Str) m21 aBC (top 39) Pg.SQ:=by kernel_rfl
theorem aHr:aa aBC aBs (aD (top 39)):=sK
theorem aHV:Ok (["found"]:List Str) m21 aBC (top 39):=by decide +kernel
noncomputable def TK:=fD 2 p8 8 Pg.SQ
theorem aHb{ds:List D}:ds.length=2→TK ds=aU p8 8 Pg.SQ ds:=dG
noncomputable def mw:GS:=p8.addF "upright_pages" TK false
noncomputable def m22:Nm:=m21.addF "upright_pages" false
noncomputable def NW:List Str:=(["pile","spine","prints","mark","page"]:List Str)
noncomputable def MZ:List Str:=(["pile","spine"]:List Str)
theorem aDj:Rd (["prints"]:List Str) m22 NW (top 37) K09.oA:=by kernel_rfl
theorem aCC:aa NW MZ (aD (top 37)):=sK
theorem aEd:Ok (["prints"]:List Str) m22 NW (top 37):=by decide +kernel
noncomputable def wI:=fD 2 mw 5 K09.oA
theorem GV{ds:List D}:ds.length=2→wI ds=aU mw 5 K09.oA ds:=dG
noncomputable def g23:GS:=mw.addF "plan" wI true
noncomputable def m23:Nm:=m22.addF "plan" true
noncomputable def UN:List Str:=(["script","k"]:List Str)
abbrev aBn:List Str:=UN
theorem aHy:Rd ([]:List Str) m23 UN (top 41) Pg.jO:=by kernel_rfl
theorem aHm:aa UN aBn (aD (top 41)):=sK
theorem aHQ:Ok ([]:List Str) m23 UN (top 41):=by decide +kernel
noncomputable def LC:=fD 2 g23 2 Pg.jO
theorem aGW{ds:List D}:ds.length=2→LC ds=aU g23 2 Pg.jO ds:=dG
noncomputable def g24:GS:=g23.addF "_law_cell_at" LC false
noncomputable def m24:Nm:=m23.addF "_law_cell_at" false
noncomputable def DV:List Str:=(["found"]:List Str)
abbrev NP:List Str:=DV
theorem aDy:Rd ([]:List Str) m24 DV (top 42) Pg.nD:=by kernel_rfl
theorem aCR:aa DV NP (aD (top 42)):=sK
theorem aEt:Ok ([]:List Str) m24 DV (top 42):=by decide +kernel
noncomputable def wK:=fD 1 g24 1 Pg.nD
theorem aCh{ds:List D}:ds.length=1→wK ds=aU g24 1 Pg.nD ds:=dG
noncomputable def g25:GS:=g24.addF "_law_whole" wK false
noncomputable def m25:Nm:=m24.addF "_law_whole" false
noncomputable def aBB:List Str:=(["cell","way","more"]:List Str)
noncomputable def aBr:List Str:=(["cell"]:List Str)
theorem aHC:Rd ([]:List Str) m25 aBB (top 43) Pg.fV:=by kernel_rfl
theorem aHq:aa aBB aBr (aD (top 43)):=sK
theorem aHU:Ok ([]:List Str) m25 aBB (top 43):=by decide +kernel
noncomputable def aAO:=fD 1 g25 3 Pg.fV
theorem aHa{ds:List D}:ds.length=1→aAO ds=aU g25 3 Pg.fV ds:=dG
noncomputable def p7:GS:=g25.addF "_law_sheet_by" aAO false
noncomputable def m26:Nm:=m25.addF "_law_sheet_by" false
noncomputable def aBx:List Str:=(["cell","wide","high","level","extent","sides"]:List Str)
noncomputable def aBm:List Str:=(["cell","wide","high"]:List Str)
theorem aHx:Rd ([]:List Str) m26 aBx (top 44) Pg.gR:=by kernel_rfl
theorem aHl:aa aBx aBm (aD (top 44)):=sK
theorem aHP:Ok ([]:List Str) m26 aBx (top 44):=by decide +kernel
noncomputable def TC:=fD 3 p7 6 Pg.gR
theorem aGV{ds:List D}:ds.length=3→TC ds=aU p7 6 Pg.gR ds:=dG
noncomputable def jg:GS:=p7.addF "_law_fold_by" TC false
noncomputable def m27:Nm:=m26.addF "_law_fold_by" false
noncomputable def NY:List Str:=(["columns","rows","script","pile","k","cell","fold"]:List Str)
noncomputable def NH:List Str:=(["columns","rows","script"]:List Str)
theorem aDq:Rd ([]:List Str) m27 NY (top 45) Pg.sG:=by kernel_rfl
theorem aCJ:aa NY NH (aD (top 45)):=sK
theorem aEk:Ok ([]:List Str) m27 NY (top 45):=by decide +kernel
noncomputable def CA:=fD 3 jg 7 Pg.sG
theorem aCa{ds:List D}:ds.length=3→CA ds=aU jg 7 Pg.sG ds:=dG
noncomputable def mq:GS:=jg.addF "_law_shut" CA false
noncomputable def m28:Nm:=m27.addF "_law_shut" false
noncomputable def OF:List Str:=(["pile","count","found","one"]:List Str)
noncomputable def NS:List Str:=(["pile","count"]:List Str)
theorem aDB:Rd ([]:List Str) m28 OF (top 46) Pg.sH:=by kernel_rfl
theorem aCU:aa OF NS (aD (top 46)):=sK
theorem aEw:Ok ([]:List Str) m28 OF (top 46):=by decide +kernel
noncomputable def CL:=fD 2 mq 4 Pg.sH
theorem aCk{ds:List D}:ds.length=2→CL ds=aU mq 4 Pg.sH ds:=dG
noncomputable def g29:GS:=mq.addF "_law_leaves" CL false
noncomputable def m29:Nm:=m28.addF "_law_leaves" false
noncomputable def OA:List Str:=(["found","spine","out","cell","east","north","front","head_south"]:List Str)
noncomputable def NJ:List Str:=(["found","spine"]:List Str)
theorem aDs:Rd (["out"]:List Str) m29 OA (top 47) Pg.sM:=by kernel_rfl
theorem aCL:aa OA NJ (aD (top 47)):=sK
theorem aEn:Ok (["out"]:List Str) m29 OA (top 47):=by decide +kernel
noncomputable def CD:=fD 2 g29 8 Pg.sM
theorem aCc{ds:List D}:ds.length=2→CD ds=aU g29 8 Pg.sM ds:=dG
noncomputable def p6:GS:=g29.addF "_law_faces" CD false
noncomputable def m30:Nm:=m29.addF "_law_faces" false
noncomputable def NZ:List Str:=(["found","due","k","one"]:List Str)
noncomputable def NI:List Str:=(["found","due"]:List Str)
theorem aDr:Rd ([]:List Str) m30 NZ (top 50) K09.sL:=by kernel_rfl
theorem aCK:aa NZ NI (aD (top 50)):=sK
theorem aEm:Ok ([]:List Str) m30 NZ (top 50):=by decide +kernel
noncomputable def CB:=fD 2 p6 4 K09.sL
theorem aCb{ds:List D}:ds.length=2→CB ds=aU p6 4 K09.sL ds:=dG
noncomputable def p0:GS:=p6.addF "_law_good" CB false
noncomputable def m31:Nm:=m30.addF "_law_good" false
noncomputable def OC:List Str:=(["pile","spine","e"]:List Str)
noncomputable def NN:List Str:=(["pile","spine"]:List Str)
theorem aDw:Rd ([]:List Str) m31 OC (top 49) K09.nE:=by kernel_rfl
theorem aCP:aa OC NN (aD (top 49)):=sK
theorem aEr:Ok ([]:List Str) m31 OC (top 49):=by decide +kernel
noncomputable def wJ:=fD 2 p0 3 K09.nE
theorem US{ds:List D}:ds.length=2→wJ ds=aU p0 3 K09.nE ds:=dG
noncomputable def fu:GS:=p0.addF "_law_tried" wJ false
noncomputable def oq:Nm:=m31.addF "_law_tried" false
noncomputable def DN:List Str:=(["script","columns","rows","spine","odd","word","pile","leafs","due","found","torn"]:List Str)
noncomputable def rB:List Str:=(["script"]:List Str)
theorem aDh:Rd (["found"]:List Str) oq DN (top 51) K09.BD:=by kernel_rfl
theorem aCA:aa DN rB (aD (top 51)):=sK
theorem aEb:Ok (["found"]:List Str) oq DN (top 51):=by decide +kernel
noncomputable def wG:=fD 1 fu 11 K09.BD
theorem UR{ds:List D}:ds.length=1→wG ds=aU fu 11 K09.BD ds:=dG
noncomputable def tx(C:Addr)(cs:Str→Addr):Tx:=⟨fun x=>if x = "Pile" then some C else none,fun x=>if cj.contains x=true then some (cs x) else none⟩
theorem zU(C:Addr)(cs:Str→Addr):(tx C cs).cl "Pile" = some C:=by
 unfold tx;simp only[if_true]
theorem UT{C:Addr}{cs:Str→Addr}{cn:Str}{C':Addr}(h:(tx C cs).cl cn=some C'):cn = "Pile"∧C'=C:=by
 unfold tx at h;dsimp only at h;split at h
 ·rename_i e;cases h;exact⟨e,rfl⟩
 ·cases h
theorem uR{C:Addr}{cs:Str→Addr}{k:Str}{C':Addr}(h:(tx C cs).xc k=some C'):cj.contains k=true∧C'=cs k:=by
 unfold tx at h;dsimp only at h;split at h
 ·rename_i e;cases h;exact⟨e,rfl⟩
 ·cases h
structure Df (K:vi) (mg:vo) (x:Str) (st:Stmt) (ps:List Str) (f:Addr) (fd:vj):Prop where
 fn:Fun K x x st f fd
 at_:mg x=some (.ref f)
 bd:Binds K fd ps []
structure Mt (K:vi) (C:Addr) (x qual:Str) (st:Stmt) (ps:List Str) (f:Addr) (fd:vj):Prop where
 fn:Fun K x qual st f fd
 at_:i3 K C x f
 bd:Binds K fd ps []
section
variable {P:vk}{w:World}{K:vi}{mg:vo}{base:Heap}{C:Addr}{cs:Str→Addr}
abbrev MO(P:vk)(w:World)(K:vi)(mg:vo)(base:Heap)(C:Addr)(cs:Str→Addr)(m:Nm)(g:GS)(k:Nat):Prop:=MOk P w K mg base (gL P w) m g (tx C cs) k
noncomputable def aGU:Nat→Pos:=fun i=>([⟨204,4,204,9⟩,⟨204,13,204,23⟩,⟨204,24,204,25⟩,⟨204,27,204,34⟩,⟨204,13,204,35⟩,⟨204,37,204,47⟩,⟨204,48,204,49⟩,⟨204,51,204,57⟩,⟨204,37,204,58⟩,⟨204,60,204,70⟩,⟨204,71,204,72⟩,⟨204,74,204,81⟩,⟨204,60,204,82⟩,⟨204,84,204,94⟩,⟨204,95,204,96⟩,⟨204,98,204,102⟩,⟨204,84,204,103⟩,⟨204,12,204,104⟩,⟨204,4,204,104⟩,⟨205,4,205,9⟩,⟨205,12,205,17⟩,⟨205,21,205,31⟩,⟨205,32,205,33⟩,⟨205,35,205,42⟩,⟨205,21,205,43⟩,⟨205,45,205,55⟩,⟨205,56,205,57⟩,⟨205,59,205,65⟩,⟨205,45,205,66⟩,⟨205,68,205,78⟩,⟨205,79,205,80⟩,⟨205,82,205,87⟩,⟨205,68,205,88⟩,⟨205,90,205,100⟩,⟨205,101,205,102⟩,⟨205,104,205,110⟩,⟨205,90,205,111⟩,⟨205,20,205,112⟩,⟨205,12,205,112⟩,⟨205,4,205,112⟩,⟨206,7,206,12⟩,⟨206,7,206,18⟩,⟨206,19,206,23⟩,⟨206,7,206,24⟩,⟨206,28,206,29⟩,⟨206,7,206,29⟩,⟨206,37,206,47⟩,⟨206,48,206,49⟩,⟨206,51,206,61⟩,⟨206,37,206,62⟩,⟨206,33,206,62⟩,⟨206,7,206,62⟩,⟨207,15,207,22⟩,⟨207,8,207,22⟩,⟨206,4,207,22⟩,⟨208,12,208,19⟩,⟨208,21,208,27⟩,⟨208,29,208,36⟩,⟨208,38,208,44⟩,⟨208,46,208,55⟩,⟨208,57,208,65⟩,⟨208,67,208,74⟩,⟨208,76,208,82⟩,⟨208,11,208,83⟩,⟨208,84,208,89⟩,⟨208,84,208,95⟩,⟨208,96,208,100⟩,⟨208,84,208,101⟩,⟨208,11,208,102⟩,⟨208,4,208,102⟩]:List Pos).getD i ⟨0,0,0,0⟩
theorem WZ:bR (top 48)=nG aGU:=by rfl
theorem OL:aa ["e","kinds"] ["e"] (aD (top 48)):=sK
theorem WY:∀y∈("isinstance":Str) :: "ValueError" :: bI,(aD (top 48)).names.lookup y=some .globalImplicit:=by
 have:(("isinstance":Str) :: "ValueError" :: bI).all (fun y=>(aD (top 48)).names.lookup y == some .globalImplicit)=true:=by decide +kernel
 intro y hy;exact u0.mp (all_eq_true.mp this y hy)
theorem aGT{f:Addr}{fd:vj}(F:Df K mg "_law_word_of" (top 48) ["e"] f fd)(mi:mg "isinstance" = none)(mv:mg "ValueError" = none)(mx:∀y∈bI,mg y=some (.ref (cs y)))(hX:∀k,cj.contains k=true→∀(j:Nat),bI.idxOf? k=some j→XcK K (cs k))
  (hk:∀k,cj.contains k=true→∀(j:Nat),bI.idxOf? k=some j→∀(i:Nat) (y:Str),bI[i]?=some y→kitOne K (.ref (cs k)) (.ref (cs y))=some (decide (i=j))) (hv:∀k,cj.contains k=true→∀(j:Nat),bI.idxOf? k=some j→kitOne K (.ref (cs k)) (.type "ValueError")=some true) :
  ∀g k x C',(tx C cs).xc k=some C'→k8 g k=some x→∃fa fd ps j,j≤1∧mg g=some (.ref fa)∧keepIn K (.ref fa)=true∧Binds K fd ps []∧k6 P w K mg base j fa fd ps (nu C' x):=by
 intro g k x C' h1 h2;obtain⟨l7,rfl⟩:=uR h1;unfold k8 at h2;split at h2
 ·rename_i hc;obtain⟨rfl,_⟩:=hc;obtain⟨j,hj,hw⟩:=qr.mp h2;refine⟨f,fd,["e"],1,qw 1,F.at_,F.fn.kp,F.bd,SW (cs:=cs) (j:=j) F.fn OL WZ (by decide) (by decide) (by decide +kernel) (by decide +kernel) WY mi mv mx (hX k l7 j hj) ?_ (hk k l7 j hj) (hv k l7 j hj) hw⟩
  have:=(q8.mp hw).1
  exact this
 ·cases h2
theorem mk0(hc:∀x d,csts.lookup x=some d→xM K (tx C cs) mg x d)(az:Cls K C)(gu:∀f,(wD "Pile").contains f=true→eD K C f)(hbi:∀x,fK.contains x=true→mg x=none)(hx:∀k,cj.contains k=true→mg k=some (.ref (cs k)))(ox:∀k,cj.contains k=true→excIn K (cs k) fw "ValueError.__new__" = true)
  (mT:∀k k',cj.contains k=true→cj.contains k'=true→XG k k'=true→eI K (cs k) (.ref (cs k'))=true) (hwd:∀g k x C',(tx C cs).xc k=some C'→k8 g k=some x→∃fa fd ps j,j≤1∧mg g=some (.ref fa)∧keepIn K (.ref fa)=true∧Binds K fd ps []∧k6 P w K mg base j fa fd ps (nu C' x)) (hdk:∀x kvs,jb.lookup x=some kvs→∃a,mg x=some (.ref a)∧∀X:Cx,X.prog=P→X.w=w→X.K=K→OH X (tx C cs) a kvs):MO P w K mg base C cs m0 g0 1:=
 aIb hc (fun cn C' h=>by obtain⟨_,rfl⟩:=UT h;exact az) (fun cn C' f h hf=>by obtain⟨rfl,rfl⟩:=UT h;exact gu f hf) hbi (fun k C' h=>by obtain⟨h1,rfl⟩:=uR h;exact hx k h1) (fun k h=>⟨cs k,if_pos h⟩) (fun k C' h=>by obtain⟨h1,rfl⟩:=uR h;exact ox k h1)
  (fun k k' C1 C2 a b h=>by obtain⟨h1,rfl⟩:=uR a;obtain⟨h2,rfl⟩:=uR b;exact mT k k' h1 h2 h) hwd hdk
theorem aCW:aa (["self","columns","rows","table","folds","severed"]:List Str) (["self","columns","rows","table","folds","severed"]:List Str) (aD (L2.inClass (top 15) 0)):=sK
theorem mk1{f:Addr}{fd:vj}(h:MO P w K mg base C cs m0 g0 1)(hm:mg "Pile" = some (.ref C))(M:Mk K C f)(hb:Binds K fd (["self","columns","rows","table","folds","severed"]:List Str) [])(F:Fun K "__init__" "Pile.__init__" (L2.inClass (top 15) 0) f fd)(az:Cls K C)(gu:∀f,(wD "Pile").contains f=true→eD K C f):MO P w K mg base C cs m1 g1 3:=
 h.defC hm M hb F aCW (by decide +kernel) aDG (zU C cs) az (fun x hx=>gu x.1 (by
  have:wC.all (fun x=>(wD "Pile").contains x.1)=true:=by decide +kernel
  exact all_eq_true.mp this x hx)) (by decide +kernel) (by decide)
theorem mkM{m:Nm}{g:GS}{k:Nat}{x q:Str}{st:Stmt}{N ps U:List Str}{i:IS}{f:Addr}{fd:vj}(e:∀cn ds,g.me cn x ds=none)(s:aa N ps (aD st))(o:Ok U m N st)(r:Rd U m N st i)(h:MO P w K mg base C cs m g k)(M:Mt K C x q st ps f fd)(a1:m.fns.contains x=false:=by decide +kernel)(a3:m.fresh.contains x=false:=by decide +kernel)(a4:true=true→iC i=true:=by decide +kernel):MO P w K mg base C cs (m.addM x true) (g.addM "Pile" x (fD ps.length g N.length i) true) (k+1):=h.defM a1 e a3 (zU C cs) M.at_ M.bd M.fn s o r a4
theorem aFu:∀cn ds,g1.me cn "heap" ds=none:=fun cn ds=>by
 rfl
theorem VL{x:Str}(h_heap:¬x = "heap"):∀cn ds,g2.me cn x ds=none:=fun cn ds=>by
 show (if cn = "Pile"∧x = "heap" then oJ else fun _=>none) ds=none
 rw[if_neg fun z=>h_heap z.2]
theorem b0{m:Nm}{g:GS}{k:Nat}{x:Str}{st:Stmt}{N ps U:List Str}{i:IS}{f:Addr}{fd:vj}(s:aa N ps (aD st))(o:Ok U m N st)(r:Rd U m N st i)(h:MO P w K mg base C cs m g k)(M:Df K mg x st ps f fd)(a1:m.fns.contains x=false:=by decide +kernel)(a2:∀cn ds,g.me cn x ds=none:=by exact VL (by decide +kernel))(a3:m.fresh.contains x=false:=by decide +kernel)(a4:false=true→iC i=true:=by first|(intro z;cases z;done)|decide +kernel):MO P w K mg base C cs (m.addF x false) (g.addF x (fD ps.length g N.length i) false) (k+1):=h.defF a1 a2 a3 M.at_ M.bd M.fn s o r a4
theorem mkT{m:Nm}{g:GS}{k:Nat}{x:Str}{st:Stmt}{N ps U:List Str}{i:IS}{f:Addr}{fd:vj}(s:aa N ps (aD st))(o:Ok U m N st)(r:Rd U m N st i)(h:MO P w K mg base C cs m g k)(M:Df K mg x st ps f fd)(a1:m.fns.contains x=false:=by decide +kernel)(a2:∀cn ds,g.me cn x ds=none:=by exact VL (by decide +kernel))(a3:m.fresh.contains x=false:=by decide +kernel)(a4:true=true→iC i=true:=by first|(intro z;cases z;done)|decide +kernel):MO P w K mg base C cs (m.addF x true) (g.addF x (fD ps.length g N.length i) true) (k+1):=h.defF a1 a2 a3 M.at_ M.bd M.fn s o r a4
theorem aAq{f:Addr}{fd:vj}(h:MO P w K mg base C cs oq fu 34)(M:Df K mg "law" (top 51) rB f fd):FnOk P w K mg base (gL P w) 35 f fd rB (i5 K (tx C cs) 1 wG false):=
 ((aAJ (fr:=false) (n:=60) (c:=oq.cc DN (aD (top 51)) (["found"]:List Str)) M.fn aCA rfl rfl aEb aDh (fun z=>by cases z) (fun X a1 a2 a3 a4 a5=>h X _ a1 a2 a3 a4 a5 rfl rfl rfl rfl)).imp fun vs H Q E ⟨h1,S,ds,dom,rl,hc⟩=>⟨h1,S,ds,dom,rl,by rw[UR (by rw[rl.len];exact h1)]at hc;exact hc⟩)
end
theorem YM:g3.fn "laid_row" = BY:=by kernel_rfl
theorem YL:g5.fn "heap_at" = BX:=by kernel_rfl
theorem YK:g7.fn "turned_heap" = CM:=by kernel_rfl
theorem aDL:g8.fn "laid_together" = TJ:=by kernel_rfl
theorem YJ:g8.fn "turned_part" = CK:=by kernel_rfl
theorem QJ:qb.fn "column_of" = BZ:=by kernel_rfl
theorem YV:mG.fn "folded_strip" = TF:=by kernel_rfl
theorem QI:mG.fn "transposed" = CG:=by kernel_rfl
theorem YT:kn.fn "folded_table" = TH:=by kernel_rfl
theorem QH:kn.fn "has_crease" = CH:=by kernel_rfl
theorem YU:kn.fn "refuse_severed" = TL:=by kernel_rfl
theorem RC:mz.me "Pile" "heap" = oJ:=by kernel_rfl
theorem QG:my.fn "edge_lines" = CJ:=by kernel_rfl
theorem QF:my.fn "neighbours" = CF:=by kernel_rfl
theorem QE:qa.fn "all_joints" = CI:=by kernel_rfl
theorem QD:p9.fn "joints" = BV:=by kernel_rfl
theorem RB:p8.me "Pile" "heap" = oJ:=by kernel_rfl
theorem yA:mw.fn "refuse_unbound" = FZ:=by kernel_rfl
theorem YS:mw.fn "upright_pages" = TK:=by kernel_rfl
theorem YR:jg.fn "_law_cell_at" = LC:=by kernel_rfl
theorem YQ:jg.fn "_law_fold_by" = TC:=by kernel_rfl
theorem QC:jg.fn "folded" = BW:=by kernel_rfl
theorem QB:jg.fn "laid" = wH:=by kernel_rfl
theorem QA:mq.fn "_law_whole" = wK:=by kernel_rfl
theorem RA:mq.me "Pile" "heap" = oJ:=by kernel_rfl
theorem PZ:p6.fn "_law_whole" = wK:=by kernel_rfl
theorem AE:p0.fn "plan" = wI:=by kernel_rfl
theorem YN:fu.fn "_law_cell_at" = LC:=by kernel_rfl
theorem PX:fu.fn "_law_faces" = CD:=by kernel_rfl
theorem PV:fu.fn "_law_good" = CB:=by kernel_rfl
theorem PY:fu.fn "_law_leaves" = CL:=by kernel_rfl
theorem YO:fu.fn "_law_sheet_by" = aAO:=by kernel_rfl
theorem PU:fu.fn "_law_shut" = CA:=by kernel_rfl
theorem AD:fu.fn "_law_tried" = wJ:=by kernel_rfl
theorem PP:fu.fn "cut" = BU:=by kernel_rfl
theorem PQ:fu.fn "laid" = wH:=by kernel_rfl
theorem PR:fu.fn "plan" = wI:=by kernel_rfl
end Toy
namespace Toy
open PySem Z Z.Pg
theorem gj(G:GS)(h:G.fl=wD):G.fl "Pile" = cx:=by rw[h];rfl
theorem mo_(c r:Int)(T row:List D)(F S:List D)(h:T[0]?=some (.lst row)):LB [.int c,.int r,.lst T,.tup F,.tup S]=some (.ok (bN c r row.length T.length T F S)):=by
 show EI g0 "Pile" 6 wC _=_
 unfold EI wC;have e:atI T 0=some (.lst row):=eZ (k:=0) h
 show Option.map _ (ja g0 [.un,.im (.int c),.im (.int r),.im (.lst T),.im (.tup F),.im (.tup S)] _)=_
 simp only[ja,qx];simp only[zz,yy,aA,aB,e];rfl
theorem GR{c r w h:Nat}{T:Table}{F S:List D}{x y:Nat}(R:Rect T w h)(hx:x<w)(hy:y<h):oJ [aL c r w h T F S,.int x,.int y]=some (.ok (hE ((T.getD y []).getD x []))):=by
 rw[aBU rfl];have bY:y<T.length:=by rw[R.len];exact hy
 have hr:(T.getD y []).length=w:=R.row _ (by rw[q9,qt bY];exact ve bY)
 refine SR (gj _ rfl) (row:=(T.getD y []).map hE) (by lia) (by lia) ?_ ?_
 ·rw[qu,q9,qt bY];rfl
 ·rw[qu,q9 (l:=T.getD y []),qt (by lia)];rfl
theorem mc_:g3.cst "MOST_CELLS" = some (.int 64):=by rfl
theorem aBJ{c y:Nat}(h1:c≤64)(h2:y≤64):BY [.int c,.int y]=some (.ok (.lst (mR c y))):=(aBY rfl).trans (vX h1 h2)
theorem UQ{c r:Nat}(h1:1≤c)(h2:1≤r)(h3:c*r≤64):wH [.int c,.int r]=some (.ok (aL c r c r (fB c r) [] [])):=by
 rw[aBT rfl];unfold aL;rw[←uU];exact SI mc_ (fun c y a b=>by rw[YM];exact aBJ a b) (fun c r T row h=>mo_ c r T row [] [] h) h1 h2 h3
theorem aBI(p:aZ)(k:Nat):BX [sE p,.int k]=some (.ok (hE (p.getD k []))):=(aBX rfl).trans yZ
theorem aGR(mv st:aZ)(over:Bool)(l1:mv.length≤1000)(l2:st.length≤1000)(f1:Few 400000 mv)(f2:Few 400000 st):TJ [sE mv,sE st,.bl over]=some (.ok (sE (bV mv st over))):=
 (aGZ rfl).trans (lO (fun p k=>by rw[YL];exact aBI p k) l1 l2 f1 f2)
theorem aBR(h:cM)(sd:Side):CM [hE h,.str sd.str]=some (.ok (hE (eE sd.up h))):=(aCl rfl).trans (nK rfl)
theorem aBQ(p:aZ)(sd:Side):CK [sE p,.str sd.str]=some (.ok (sE (dU sd.up p))):=(aCj rfl).trans (nJ fun h sd=>by rw[YK];exact aBR h sd)
theorem aGP(s:aZ)(sd:Side)(over:Bool)(c:Nat)(ls:s.length≤1000)(hf:Few 400000 s):TF [sE s,.str sd.str,.bl over,.int c]=some (.ok (sE (cY sd over c s))):=
 (aGX rfl).trans (mV rfl (fun p sd=>by rw[YJ];exact aBQ p sd) (fun mv st over a b c d=>by rw[aDL];exact aGR mv st over a b c d) ls hf)
theorem aBK(T:Table)(x:Nat)(h:∀s∈T,x<s.length):BZ [tE T,.int x]=some (.ok (sE (T.map fun s=>s.getD x []))):=(aBZ rfl).trans (uE h)
theorem aBM(T:Table)(w h:Nat)(R:Rect T w h)(hw:w≤1000):CG [tE T]=some (.ok (tE (transp T))):=(aCe rfl).trans (pC (fun T x h=>by rw[QJ];exact aBK T x h) R hw)
theorem aGQ(T:Table)(w h:Nat)(sd:Side)(over:Bool)(k:Nat)(R:Rect T w h)(hw:w≤1000)(hh:h≤1000)(hf:pM 400000 T)(h1:1≤k)(h2:k<if sd.up then w else h):TH [tE T,.str sd.str,.bl over,.int k]=some (.ok (tE (foldT sd over k T))):=
 (aGY rfl).trans (mU rfl (fun T w h R hw=>by rw[QI];exact aBM T w h R hw) (fun s sd over c a b=>by rw[YV];exact aGP s sd over c a b) R hw hh hf h1 h2)
theorem aBN(c r w h:Nat)(T:Table)(F S:List D)(sd:Side)(i:Int):CH [aL c r w h T F S,.str sd.str,.int i]=some (.ok (.bl (decide (1≤i)&&decide (i<((if sd.up then w else h:Nat):Int))))):=(aCf rfl).trans (pH (gj _ rfl) rfl rfl)
theorem aGS(c r w h:Nat)(T:Table)(F:List D):TL [aL c r w h T F []]=some (.ok .non):=(aHc rfl).trans (kJ (gj _ rfl))
theorem aBH(c r w h:Nat)(T:Table)(F:List D)(sd:Side)(over:Bool)(k:Nat)(R:Rect T w h)(hw:w≤1000)(hh:h≤1000)(hf:pM 400000 T)(h1:1≤k)(h2:k<if sd.up then w else h)(hF:F.length≤1000):BW [aL c r w h T F [],.str sd.str,.bl over,.int k]=some (.ok (aL c r (if sd.up then max k (w-k) else w) (if sd.up then h else max k (h-k)) (foldT sd over k T) (F++[fA sd over k]) [])):=
 (aBW rfl).trans (FT (gj _ rfl) (fun c r w h T F=>by rw[YU];exact aGS c r w h T F) (fun c r w h T F S sd i=>by rw[QH];exact aBN c r w h T F S sd i) (fun T w h sd over k a b c d e f=>by rw[YT];exact aGQ T w h sd over k a b c d e f) (fun c r T row F S h=>mo_ c r T row F S h) R hw hh hf h1 h2 hF)
theorem pN(ns:List Int)(k:Nat):LC [.frz (ns.map .int),.int k]=some (.ok (.int (bw ns k))):=(aGW rfl).trans zK
theorem zR(i:Int):wK [.int i]=some (.ok (.bl true)):=(aCh rfl).trans GT
theorem DY(w h:Nat)(cell:Int)(hw:1≤w)(hh:1≤h)(hwh:1<w*h):∃(sd:Side) (over:Bool) (k:Nat),1≤k∧(k<if sd.up then w else h)∧TC [.int cell,.int w,.int h]=some (.ok (fA sd over k)):=by
 obtain⟨sd,over,k,a,b,e⟩:=zE (G:=p7) (cell:=cell) hw hh hwh;exact⟨sd,over,k,a,b,(aGV rfl).trans e⟩
theorem aBP(c r w h:Nat)(T:Table)(F C:List D)(sp:List Spot)(S:Sits T w h sp):∃kvs,CJ [aL c r w h T F C]=some (.ok (.dct kvs))∧∀(i:Nat) (s:Spot),sp[i]?=some s→cC kvs i=some (iR s):=by
 obtain⟨kvs,e,h⟩:=pI (G:=mz) (c:=c) (r:=r) (F:=F) (C:=C) (gj _ rfl) (fun c r w h T F S x y a b d=>by rw[RC];exact GR a b d) S
 exact⟨kvs,(aCi rfl).trans e,h⟩
theorem aBL(c r:Nat)(hc:1≤c)(bg:c*r≤64)(iN:c≤64):CF [.int c,.int r]=some (.ok (.lst ((ef c (c*r) (c*r)).map jm))):=(aCd rfl).trans (pF hc bg iN)
theorem aBO(c r w h:Nat)(T:Table)(F C:List D)(sp:List Spot)(S:Sits T w h sp)(hc:1≤c)(bg:c*r≤64)(iN:c≤64)(bq:sp.length=c*r):CI [aL c r w h T F C]=some (.ok (jsE sp c r)):=by
 obtain⟨kvs,e,hk⟩:=aBP c r w h T F C sp S;exact(aCg rfl).trans (pL (gj _ rfl) (by rw[QG];exact e) hk (by rw[QF];exact aBL c r hc bg iN) bg bq)
theorem rH(c r w h:Nat)(T:Table)(F:List D)(sp:List Spot)(ao:List (Nat×Nat))(S:Sits T w h sp)(hc:1≤c)(bg:c*r≤64)(iN:c≤64)(bq:sp.length=c*r):BV [aL c r w h T F (ao.map pD)]=some (.ok (.lst ((Pg.left c (c*r) ao).map (jD sp)))):=
 (aBV rfl).trans (yT (gj _ rfl) (by rw[QE];exact aBO c r w h T F _ sp S hc bg iN bq))
theorem DZ(c r w h:Nat)(T:Table)(F:List D)(sp:List Spot)(ao:List (Nat×Nat))(S:Sits T w h sp)(hc:1≤c)(bg:c*r≤64)(iN:c≤64)(bq:sp.length=c*r)(l:Bool)(n:Int)(h0:0≤n)(h1:n≤((if l then h else w:Nat):Int))(hs:ao.length≤900000):BU [aL c r w h T F (ao.map pD),.bl l,.int n]=some (.ok (aL c r w h T F ((ao++iJ c (c*r) sp ao l n).map pD))):=
 (aBS rfl).trans (UC (gj _ rfl) S.rect (by rw[QD];exact rH c r w h T F sp ao S hc bg iN bq) (fun c r T row F S h=>mo_ c r T row F S h) h0 h1 (by lia))
theorem aBF(c r:Nat)(T:Table)(F S:List D)(sd:Side):FZ [aL c r 1 1 T F S,.str sd.str]=some (.ok .non):=(XA rfl).trans (XB (gj _ rfl) rfl)
theorem uN(c r:Nat)(T:Table)(F S:List D)(x:Str)(hn:kx.lookup x=none):FZ [aL c r 1 1 T F S,.str x]=some (.er "NoPlace"):=(XA rfl).trans (EA (gj _ rfl) rfl rfl hn)
theorem xN(c r w h:Nat)(T:Table)(F S:List D)(d:D)(hw:1≤w)(hh:1≤h)(h1:1<w*h):FZ [aL c r w h T F S,d]=some (.er "Ajar"):=(XA rfl).trans (GW (gj _ rfl) rfl h1 hw hh)
theorem WT(ns:List Int)(c r:Nat)(hc:1≤c)(hr:1≤r)(bg:c*r≤64):∃fs sp,Stg c r fs sp∧(runs c r fs).2.1=1∧(runs c r fs).2.2=1∧CA [.int c,.int r,.frz (ns.map .int)]=some (.ok (dP c r fs)):=by
 obtain⟨fs,sp,S,w1,h1,e⟩:=PJ (G:=jg) (ns:=ns) (gj _ rfl) hc hr bg (fun k=>by rw[YR];exact pN ns k) (by rw[QB];exact UQ hc hr bg) (fun w h cell a b d=>by rw[YQ];exact DY w h cell a b d)
  (fun fs sp f S ok hl=>FU (fun c r w h T F sd over k a1 a2 a3 a4 a5 a6 a7=>by rw[QC];exact aBH c r w h T F sd over k a1 a2 a3 a4 a5 a6 a7) S ok hl)
 exact⟨fs,sp,S,w1,h1,(aCa rfl).trans e⟩
theorem WU(c r:Nat)(T:Table)(F S:List D)(sp:List Spot)(Si:Sits T 1 1 sp)(hs:sp.length=c*r):CL [aL c r 1 1 T F S,.int ((c*r:Nat):Int)]=some (.ok (hE (aj T 0 0))):=
 (aCk rfl).trans (SF (gj _ rfl) (fun i=>by rw[QA];exact zR i) Si hs (by rw[RA];exact GR (x:=0) (y:=0) Si.rect (by decide) (by decide)))
theorem WW(h:cM)(sd:Side)(hl:h.length≤1000):CD [hE h,.str sd.str]=some (.ok (.lst ((br (!sd.up) h).map Pg.fD))):=(aCc rfl).trans (SZ hl)
theorem aGO(c r:Nat)(T:Table)(F S:List D)(sp:List Spot)(sd:Side)(Si:Sits T 1 1 sp):TK [aL c r 1 1 T F S,.str sd.str]=some (.ok (.lst ((br (!sd.up) (aj T 0 0)).map Pg.fD))):=
 (aHb rfl).trans (aCm rfl (by rw[RB];exact GR (x:=0) (y:=0) Si.rect (by decide) (by decide)) (by rw[(iE Si).1];exact sr Si.len (by decide)))
theorem wA:k8 "_law_word_of" "Ajar" = some ("ajar":Str):=by decide +kernel
theorem wP:k8 "_law_word_of" "NoPlace" = some ("place":Str):=by decide +kernel
theorem aBG(c r:Nat)(T:Table)(F S:List D)(sp:List Spot)(sd:Side)(Si:Sits T 1 1 sp)(hs:sp.length≤64):wI [aL c r 1 1 T F S,.str sd.str]=some (.ok (.lst (K09.prs (br (!sd.up) (aj T 0 0))))):=
 (GV rfl).trans (K09.QR (by rw[yA];exact aBF c r T F S sd) (by rw[YS];exact aGO c r T F S sp sd Si) (K09.jY Si rfl).1 (by rw[(K09.jY Si rfl).2];lia))
theorem rG(c r w h:Nat)(T:Table)(F S:List D)(x:Str)(hw:1≤w)(hh:1≤h)(h1:1<w*h):wJ [aL c r w h T F S,.str x]=some (.ok (.str "ajar")):=
 (US rfl).trans (K09.uT (k:="Ajar") (by rw[AE];exact(GV rfl).trans (K09.AH (by rw[yA];exact xN c r w h T F S _ hw hh h1) rfl)) rfl rfl rfl wA)
theorem pB(c r:Nat)(T:Table)(F S:List D)(x:Str)(hn:kx.lookup x=none):wJ [aL c r 1 1 T F S,.str x]=some (.ok (.str "place")):=
 (US rfl).trans (K09.uT (k:="NoPlace") (by rw[AE];exact(GV rfl).trans (K09.AH (by rw[yA];exact uN c r T F S x hn) rfl)) rfl rfl rfl wP)
theorem WV(fs:List (Int×Bool))(hF:K09.Full fs)(hl:fs.length≤1000):CB [.lst (K09.prs fs),.lst (fs.map Pg.fD)]=some (.ok (.bl true)):=(aCb rfl).trans (K09.SU (fun i=>by rw[PZ];exact zR i) hF hl)
theorem law_true(ns:List Int)(_:ns.length≤63):wG [.frz (ns.map .int)]=some (.ok (.bl true)):=by
 refine(UR rfl).trans (K09.aAr (G:=fu) (ns:=ns) (fun k=>by rw[YN];exact pN ns k) (fun cell=>?_) (fun c r a b d=>by rw[PQ];exact UQ a b d)
  (fun c r x hc hr h=>by rw[AD];exact rG c r c r _ _ _ x hc hr h) (fun c r hc hr bg=>by rw[PU];exact WT ns c r hc hr bg) (fun c r T F S sp Si hs=>by rw[PY];exact WU c r T F S sp Si hs)
  (fun c r T F S x hn=>by rw[AD];exact pB c r T F S x hn) (fun h sd hl=>by rw[PX];exact WW h sd hl) (fun c r T F S sp sd Si hs=>by rw[PR];exact aBG c r T F S sp sd Si hs)
  (fun fs hF hl=>by rw[PV];exact WV fs hF hl) (fun c r T F sp ao l n hc bg iN Si hs h0 h1 hsv=>by rw[PP];exact DZ c r 1 1 T F sp ao Si hc bg iN hs l n h0 (by cases l<;>exact h1) hsv))
 rw[YO,aHa rfl];exact EF
end Toy
namespace Toy
open PySem L2 Z
theorem ji{K:vi}{x q:Str}{st:Stmt}{f:Addr}{fd:vj}{ps:List Str}(F:Fun K x q st f fd)(l:ps.length=1)(h:∀(kV doc pm:Value) (an:Option Addr) (bt ct a:Value),bindArgs (PySem.W.fnOf x q (gF st) (bR st) (aD st) .none kV doc pm an bt ct) ⟨[a],[]⟩=pure (ps.zip [a])):Binds K fd ps []:=F.binds fun _ _ _ _ _ _ us hl=>by
 match us,hl.trans l with
 |[a],_=>exact h _ _ _ _ _ _ a
theorem fv{K:vi}{x q:Str}{st:Stmt}{f:Addr}{fd:vj}{ps:List Str}(F:Fun K x q st f fd)(l:ps.length=2)(h:∀(kV doc pm:Value) (an:Option Addr) (bt ct a b:Value),bindArgs (PySem.W.fnOf x q (gF st) (bR st) (aD st) .none kV doc pm an bt ct) ⟨[a,b],[]⟩=pure (ps.zip [a,b])):Binds K fd ps []:=F.binds fun _ _ _ _ _ _ us hl=>by
 match us,hl.trans l with
 |[a,b],_=>exact h _ _ _ _ _ _ a b
theorem ni{K:vi}{x q:Str}{st:Stmt}{f:Addr}{fd:vj}{ps:List Str}(F:Fun K x q st f fd)(l:ps.length=3)(h:∀(kV doc pm:Value) (an:Option Addr) (bt ct a b c:Value),bindArgs (PySem.W.fnOf x q (gF st) (bR st) (aD st) .none kV doc pm an bt ct) ⟨[a,b,c],[]⟩=pure (ps.zip [a,b,c])):Binds K fd ps []:=F.binds fun _ _ _ _ _ _ us hl=>by
 match us,hl.trans l with
 |[a,b,c],_=>exact h _ _ _ _ _ _ a b c
theorem bn4{K:vi}{x q:Str}{st:Stmt}{f:Addr}{fd:vj}{ps:List Str}(F:Fun K x q st f fd)(l:ps.length=4)(h:∀(kV doc pm:Value) (an:Option Addr) (bt ct a b c d:Value),bindArgs (PySem.W.fnOf x q (gF st) (bR st) (aD st) .none kV doc pm an bt ct) ⟨[a,b,c,d],[]⟩=pure (ps.zip [a,b,c,d])):Binds K fd ps []:=F.binds fun _ _ _ _ _ _ us hl=>by
 match us,hl.trans l with
 |[a,b,c,d],_=>exact h _ _ _ _ _ _ a b c d
theorem bn6{K:vi}{x q:Str}{st:Stmt}{f:Addr}{fd:vj}{ps:List Str}(F:Fun K x q st f fd)(l:ps.length=6)(h:∀(kV doc pm:Value) (an:Option Addr) (bt ct a b c d e f:Value),bindArgs (PySem.W.fnOf x q (gF st) (bR st) (aD st) .none kV doc pm an bt ct) ⟨[a,b,c,d,e,f],[]⟩=pure (ps.zip [a,b,c,d,e,f])):Binds K fd ps []:=F.binds fun _ _ _ _ _ _ us hl=>by
 match us,hl.trans l with
 |[a,b,c,d,e,f],_=>exact h _ _ _ _ _ _ a b c d e f
theorem mF{K:vi}{n q:Str}{st:Stmt}{a:Addr}{fd:vj}{m:Str}{t c:Nat}(e:fd=dF n q st m t c)(h:K.lookup a=some (oF fd))(h2:codeIn K (.ref c) q=true)(h3:keepIn K (.ref a)=true):Fun K n q st a fd:=⟨⟨_,_,_,_,_,_,_,_,_,e,h,h2⟩,h3⟩
section
variable (P:Params)
theorem VV:Fun (KK P) "laid" "laid" (top 16) 166 sR:=mF rfl (by kernel_rfl) (by kernel_rfl) (by kernel_rfl)
theorem aFH:Binds (KK P) sR MY []:=fv (VV P) rfl fun _ _ _ _ _ _ _ _=>rfl
theorem WB:Fun (KK P) "laid_row" "laid_row" (top 17) 171 sX:=mF rfl (by kernel_rfl) (by kernel_rfl) (by kernel_rfl)
theorem aFO:Binds (KK P) sX NF []:=fv (WB P) rfl fun _ _ _ _ _ _ _ _=>rfl
theorem VY:Fun (KK P) "folded" "folded" (top 18) 178 sV:=mF rfl (by kernel_rfl) (by kernel_rfl) (by kernel_rfl)
theorem aFL:Binds (KK P) sV NC []:=bn4 (VY P) rfl fun _ _ _ _ _ _ _ _ _ _=>rfl
theorem aGr:Fun (KK P) "refuse_severed" "refuse_severed" (top 19) 185 BS:=mF rfl (by kernel_rfl) (by kernel_rfl) (by kernel_rfl)
theorem aIv:Binds (KK P) BS aBu []:=ji (aGr P) rfl fun _ _ _ _ _ _ _=>rfl
theorem WJ:Fun (KK P) "has_crease" "has_crease" (top 20) 192 tK:=mF rfl (by kernel_rfl) (by kernel_rfl) (by kernel_rfl)
theorem aFV:Binds (KK P) tK NM []:=ni (WJ P) rfl fun _ _ _ _ _ _ _ _ _=>rfl
theorem aGm:Fun (KK P) "folded_table" "folded_table" (top 21) 197 BN:=mF rfl (by kernel_rfl) (by kernel_rfl) (by kernel_rfl)
theorem aIq:Binds (KK P) BN aBp []:=bn4 (aGm P) rfl fun _ _ _ _ _ _ _ _ _ _=>rfl
theorem WI:Fun (KK P) "transposed" "transposed" (top 22) 202 tJ:=mF rfl (by kernel_rfl) (by kernel_rfl) (by kernel_rfl)
theorem aFU:Binds (KK P) tJ NL []:=ji (WI P) rfl fun _ _ _ _ _ _ _=>rfl
theorem WC:Fun (KK P) "column_of" "column_of" (top 23) 207 sY:=mF rfl (by kernel_rfl) (by kernel_rfl) (by kernel_rfl)
theorem aFP:Binds (KK P) sY NG []:=fv (WC P) rfl fun _ _ _ _ _ _ _ _=>rfl
theorem aGl:Fun (KK P) "folded_strip" "folded_strip" (top 24) 214 BM:=mF rfl (by kernel_rfl) (by kernel_rfl) (by kernel_rfl)
theorem aIp:Binds (KK P) BM aBo []:=bn4 (aGl P) rfl fun _ _ _ _ _ _ _ _ _ _=>rfl
theorem WO:Fun (KK P) "turned_part" "turned_part" (top 25) 219 tP:=mF rfl (by kernel_rfl) (by kernel_rfl) (by kernel_rfl)
theorem aGa:Binds (KK P) tP NR []:=fv (WO P) rfl fun _ _ _ _ _ _ _ _=>rfl
theorem WR:Fun (KK P) "turned_heap" "turned_heap" (top 26) 224 tR:=mF rfl (by kernel_rfl) (by kernel_rfl) (by kernel_rfl)
theorem aGc:Binds (KK P) tR NT []:=fv (WR P) rfl fun _ _ _ _ _ _ _ _=>rfl
theorem aGn:Fun (KK P) "laid_together" "laid_together" (top 27) 229 BO:=mF rfl (by kernel_rfl) (by kernel_rfl) (by kernel_rfl)
theorem aIr:Binds (KK P) BO aBq []:=ni (aGn P) rfl fun _ _ _ _ _ _ _ _ _=>rfl
theorem VZ:Fun (KK P) "heap_at" "heap_at" (top 28) 236 sW:=mF rfl (by kernel_rfl) (by kernel_rfl) (by kernel_rfl)
theorem aFM:Binds (KK P) sW ND []:=fv (VZ P) rfl fun _ _ _ _ _ _ _ _=>rfl
theorem VX:Fun (KK P) "joints" "joints" (top 30) 241 sU:=mF rfl (by kernel_rfl) (by kernel_rfl) (by kernel_rfl)
theorem aFK:Binds (KK P) sU NB []:=ji (VX P) rfl fun _ _ _ _ _ _ _=>rfl
theorem WL:Fun (KK P) "all_joints" "all_joints" (top 31) 248 tM:=mF rfl (by kernel_rfl) (by kernel_rfl) (by kernel_rfl)
theorem aFX:Binds (KK P) tM NO []:=ji (WL P) rfl fun _ _ _ _ _ _ _=>rfl
theorem WH:Fun (KK P) "neighbours" "neighbours" (top 32) 255 tH:=mF rfl (by kernel_rfl) (by kernel_rfl) (by kernel_rfl)
theorem aFT:Binds (KK P) tH NK []:=fv (WH P) rfl fun _ _ _ _ _ _ _ _=>rfl
theorem WN:Fun (KK P) "edge_lines" "edge_lines" (top 33) 262 tO:=mF rfl (by kernel_rfl) (by kernel_rfl) (by kernel_rfl)
theorem aFZ:Binds (KK P) tO NQ []:=ji (WN P) rfl fun _ _ _ _ _ _ _=>rfl
theorem VT:Fun (KK P) "cut" "cut" (top 34) 267 sQ:=mF rfl (by kernel_rfl) (by kernel_rfl) (by kernel_rfl)
theorem aFF:Binds (KK P) sQ MX []:=ni (VT P) rfl fun _ _ _ _ _ _ _ _ _=>rfl
theorem VW:Fun (KK P) "plan" "plan" (top 37) 277 sS:=mF rfl (by kernel_rfl) (by kernel_rfl) (by kernel_rfl)
theorem aFI:Binds (KK P) sS MZ []:=fv (VW P) rfl fun _ _ _ _ _ _ _ _=>rfl
theorem aGq:Fun (KK P) "refuse_unbound" "refuse_unbound" (top 38) 284 BR:=mF rfl (by kernel_rfl) (by kernel_rfl) (by kernel_rfl)
theorem aIu:Binds (KK P) BR aBt []:=fv (aGq P) rfl fun _ _ _ _ _ _ _ _=>rfl
theorem aGp:Fun (KK P) "upright_pages" "upright_pages" (top 39) 291 BQ:=mF rfl (by kernel_rfl) (by kernel_rfl) (by kernel_rfl)
theorem aIt:Binds (KK P) BQ aBs []:=fv (aGp P) rfl fun _ _ _ _ _ _ _ _=>rfl
theorem aGk:Fun (KK P) "_law_cell_at" "_law_cell_at" (top 41) 298 BL:=mF rfl (by kernel_rfl) (by kernel_rfl) (by kernel_rfl)
theorem aIo:Binds (KK P) BL aBn []:=fv (aGk P) rfl fun _ _ _ _ _ _ _ _=>rfl
theorem WM:Fun (KK P) "_law_whole" "_law_whole" (top 42) 305 tN:=mF rfl (by kernel_rfl) (by kernel_rfl) (by kernel_rfl)
theorem aFY:Binds (KK P) tN NP []:=ji (WM P) rfl fun _ _ _ _ _ _ _=>rfl
theorem aGo:Fun (KK P) "_law_sheet_by" "_law_sheet_by" (top 43) 312 BP:=mF rfl (by kernel_rfl) (by kernel_rfl) (by kernel_rfl)
theorem aIs:Binds (KK P) BP aBr []:=ji (aGo P) rfl fun _ _ _ _ _ _ _=>rfl
theorem aGi:Fun (KK P) "_law_fold_by" "_law_fold_by" (top 44) 319 BJ:=mF rfl (by kernel_rfl) (by kernel_rfl) (by kernel_rfl)
theorem aIm:Binds (KK P) BJ aBm []:=ni (aGi P) rfl fun _ _ _ _ _ _ _ _ _=>rfl
theorem WD:Fun (KK P) "_law_shut" "_law_shut" (top 45) 326 sZ:=mF rfl (by kernel_rfl) (by kernel_rfl) (by kernel_rfl)
theorem aFQ:Binds (KK P) sZ NH []:=ni (WD P) rfl fun _ _ _ _ _ _ _ _ _=>rfl
theorem WQ:Fun (KK P) "_law_leaves" "_law_leaves" (top 46) 331 tQ:=mF rfl (by kernel_rfl) (by kernel_rfl) (by kernel_rfl)
theorem aGb:Binds (KK P) tQ NS []:=fv (WQ P) rfl fun _ _ _ _ _ _ _ _=>rfl
theorem WG:Fun (KK P) "_law_faces" "_law_faces" (top 47) 338 tG:=mF rfl (by kernel_rfl) (by kernel_rfl) (by kernel_rfl)
theorem aFS:Binds (KK P) tG NJ []:=fv (WG P) rfl fun _ _ _ _ _ _ _ _=>rfl
theorem aGj:Fun (KK P) "_law_word_of" "_law_word_of" (top 48) 345 BK:=mF rfl (by kernel_rfl) (by kernel_rfl) (by kernel_rfl)
theorem aIn:Binds (KK P) BK (["e"]:List Str) []:=ji (aGj P) rfl fun _ _ _ _ _ _ _=>rfl
theorem WK:Fun (KK P) "_law_tried" "_law_tried" (top 49) 352 tL:=mF rfl (by kernel_rfl) (by kernel_rfl) (by kernel_rfl)
theorem aFW:Binds (KK P) tL NN []:=fv (WK P) rfl fun _ _ _ _ _ _ _ _=>rfl
theorem WE:Fun (KK P) "_law_good" "_law_good" (top 50) 359 tF:=mF rfl (by kernel_rfl) (by kernel_rfl) (by kernel_rfl)
theorem aFR:Binds (KK P) tF NI []:=fv (WE P) rfl fun _ _ _ _ _ _ _ _=>rfl
theorem VU:Fun (KK P) "law" "law" (top 51) 366 oI:=mF rfl (by kernel_rfl) (by kernel_rfl) (by kernel_rfl)
theorem aFG:Binds (KK P) oI rB []:=ji (VU P) rfl fun _ _ _ _ _ _ _=>rfl
theorem WA:Fun (KK P) "__init__" "Pile.__init__" (L2.inClass (top 15) 0) 140 zG:=mF rfl (by kernel_rfl) (by kernel_rfl) (by kernel_rfl)
theorem aFN:Binds (KK P) zG (["self","columns","rows","table","folds","severed"]:List Str) []:=bn6 (WA P) rfl fun _ _ _ _ _ _ _ _ _ _ _ _=>rfl
theorem OG:Fun (KK P) "heap" "Pile.heap" (L2.inClass (top 15) 1) 147 sT:=mF rfl (by kernel_rfl) (by kernel_rfl) (by kernel_rfl)
theorem aFJ:Binds (KK P) sT NA []:=ni (OG P) rfl fun _ _ _ _ _ _ _ _ _=>rfl
theorem aGv:Mt (KK P) 157 "heap" "Pile.heap" (L2.inClass (top 15) 1) NA 147 sT:=⟨OG P,⟨by kernel_rfl,by kernel_rfl,(OG P).kp⟩,aFJ P⟩
theorem aAF:Mk (KK P) 157 140:=⟨by kernel_rfl,by kernel_rfl,by kernel_rfl,by kernel_rfl⟩
theorem MK:Cls (KK P) 157:=⟨by kernel_rfl,by kernel_rfl,by kernel_rfl,by kernel_rfl⟩
theorem JO:∀f,(wD "Pile").contains f=true→eD (KK P) 157 f:=by
 intro f hf;have iw:f∈wD "Pile":=by simpa using hf
 rw[show wD "Pile" = (["columns","rows","wide","high","table","folds","severed"]:List Str) from if_pos rfl]at iw
 simp only[sv,uz,or_false]at iw
 rcases iw with rfl|rfl|rfl|rfl|rfl|rfl|rfl
 ·exact(by kernel_rfl:findIn (KK P) (.ref 157) "columns" = some none)
 ·exact(by kernel_rfl:findIn (KK P) (.ref 157) "rows" = some none)
 ·exact(by kernel_rfl:findIn (KK P) (.ref 157) "wide" = some none)
 ·exact(by kernel_rfl:findIn (KK P) (.ref 157) "high" = some none)
 ·exact(by kernel_rfl:findIn (KK P) (.ref 157) "table" = some none)
 ·exact(by kernel_rfl:findIn (KK P) (.ref 157) "folds" = some none)
 ·exact(by kernel_rfl:findIn (KK P) (.ref 157) "severed" = some none)
variable {P}{h:Heap}{mg:vo}(X:(KK P).In h)(G:h.Ns mainGlobals mg)
include X G
theorem aGt:Df (KK P) mg "laid" (top 16) MY 166 sR:=⟨VV P,mg_of X G (by kernel_rfl),aFH P⟩
theorem aGz:Df (KK P) mg "laid_row" (top 17) NF 171 sX:=⟨WB P,mg_of X G (by kernel_rfl),aFO P⟩
theorem aGx:Df (KK P) mg "folded" (top 18) NC 178 sV:=⟨VY P,mg_of X G (by kernel_rfl),aFL P⟩
theorem aII:Df (KK P) mg "refuse_severed" (top 19) aBu 185 BS:=⟨aGr P,mg_of X G (by kernel_rfl),aIv P⟩
theorem aGG:Df (KK P) mg "has_crease" (top 20) NM 192 tK:=⟨WJ P,mg_of X G (by kernel_rfl),aFV P⟩
theorem aID:Df (KK P) mg "folded_table" (top 21) aBp 197 BN:=⟨aGm P,mg_of X G (by kernel_rfl),aIq P⟩
theorem aGF:Df (KK P) mg "transposed" (top 22) NL 202 tJ:=⟨WI P,mg_of X G (by kernel_rfl),aFU P⟩
theorem aGA:Df (KK P) mg "column_of" (top 23) NG 207 sY:=⟨WC P,mg_of X G (by kernel_rfl),aFP P⟩
theorem aIC:Df (KK P) mg "folded_strip" (top 24) aBo 214 BM:=⟨aGl P,mg_of X G (by kernel_rfl),aIp P⟩
theorem aGL:Df (KK P) mg "turned_part" (top 25) NR 219 tP:=⟨WO P,mg_of X G (by kernel_rfl),aGa P⟩
theorem aGN:Df (KK P) mg "turned_heap" (top 26) NT 224 tR:=⟨WR P,mg_of X G (by kernel_rfl),aGc P⟩
theorem aIE:Df (KK P) mg "laid_together" (top 27) aBq 229 BO:=⟨aGn P,mg_of X G (by kernel_rfl),aIr P⟩
theorem aGy:Df (KK P) mg "heap_at" (top 28) ND 236 sW:=⟨VZ P,mg_of X G (by kernel_rfl),aFM P⟩
theorem aGw:Df (KK P) mg "joints" (top 30) NB 241 sU:=⟨VX P,mg_of X G (by kernel_rfl),aFK P⟩
theorem aGI:Df (KK P) mg "all_joints" (top 31) NO 248 tM:=⟨WL P,mg_of X G (by kernel_rfl),aFX P⟩
theorem aGE:Df (KK P) mg "neighbours" (top 32) NK 255 tH:=⟨WH P,mg_of X G (by kernel_rfl),aFT P⟩
theorem aGK:Df (KK P) mg "edge_lines" (top 33) NQ 262 tO:=⟨WN P,mg_of X G (by kernel_rfl),aFZ P⟩
theorem aGs:Df (KK P) mg "cut" (top 34) MX 267 sQ:=⟨VT P,mg_of X G (by kernel_rfl),aFF P⟩
theorem aGu:Df (KK P) mg "plan" (top 37) MZ 277 sS:=⟨VW P,mg_of X G (by kernel_rfl),aFI P⟩
theorem aIH:Df (KK P) mg "refuse_unbound" (top 38) aBt 284 BR:=⟨aGq P,mg_of X G (by kernel_rfl),aIu P⟩
theorem aIG:Df (KK P) mg "upright_pages" (top 39) aBs 291 BQ:=⟨aGp P,mg_of X G (by kernel_rfl),aIt P⟩
theorem aIB:Df (KK P) mg "_law_cell_at" (top 41) aBn 298 BL:=⟨aGk P,mg_of X G (by kernel_rfl),aIo P⟩
theorem aGJ:Df (KK P) mg "_law_whole" (top 42) NP 305 tN:=⟨WM P,mg_of X G (by kernel_rfl),aFY P⟩
theorem aIF:Df (KK P) mg "_law_sheet_by" (top 43) aBr 312 BP:=⟨aGo P,mg_of X G (by kernel_rfl),aIs P⟩
theorem aIz:Df (KK P) mg "_law_fold_by" (top 44) aBm 319 BJ:=⟨aGi P,mg_of X G (by kernel_rfl),aIm P⟩
theorem aGB:Df (KK P) mg "_law_shut" (top 45) NH 326 sZ:=⟨WD P,mg_of X G (by kernel_rfl),aFQ P⟩
theorem aGM:Df (KK P) mg "_law_leaves" (top 46) NS 331 tQ:=⟨WQ P,mg_of X G (by kernel_rfl),aGb P⟩
theorem aGD:Df (KK P) mg "_law_faces" (top 47) NJ 338 tG:=⟨WG P,mg_of X G (by kernel_rfl),aFS P⟩
theorem aIA:Df (KK P) mg "_law_word_of" (top 48) (["e"]:List Str) 345 BK:=⟨aGj P,mg_of X G (by kernel_rfl),aIn P⟩
theorem aGH:Df (KK P) mg "_law_tried" (top 49) NN 352 tL:=⟨WK P,mg_of X G (by kernel_rfl),aFW P⟩
theorem aGC:Df (KK P) mg "_law_good" (top 50) NI 359 tF:=⟨WE P,mg_of X G (by kernel_rfl),aFR P⟩
theorem WS:Df (KK P) mg "law" (top 51) rB 366 oI:=⟨VU P,mg_of X G (by kernel_rfl),aFG P⟩
theorem aAH:∀x,fK.contains x=true→mg x=none:=by
 intro x hx;have dw:x∈fK:=by simpa using hx
 simp only[fK,sv,uz,or_false]at dw
 rcases dw with rfl|rfl|rfl|rfl|rfl|rfl|rfl|rfl|rfl|rfl|rfl|rfl|rfl|rfl|rfl
 ·exact mg_none_of X G (by kernel_rfl)
 ·exact mg_none_of X G (by kernel_rfl)
 ·exact mg_none_of X G (by kernel_rfl)
 ·exact mg_none_of X G (by kernel_rfl)
 ·exact mg_none_of X G (by kernel_rfl)
 ·exact mg_none_of X G (by kernel_rfl)
 ·exact mg_none_of X G (by kernel_rfl)
 ·exact mg_none_of X G (by kernel_rfl)
 ·exact mg_none_of X G (by kernel_rfl)
 ·exact mg_none_of X G (by kernel_rfl)
 ·exact mg_none_of X G (by kernel_rfl)
 ·exact mg_none_of X G (by kernel_rfl)
 ·exact mg_none_of X G (by kernel_rfl)
 ·exact mg_none_of X G (by kernel_rfl)
 ·exact mg_none_of X G (by kernel_rfl)
theorem aFk{T:Tx}:∀x d,csts.lookup x=some d→xM (KK P) T mg x d:=by
 intro x d hx;have dw:(x,d)∈csts:=ua hx
 simp only[csts,sv,uz,or_false,Prod.mk.injEq]at dw
 rcases dw with ⟨rfl,rfl⟩|⟨rfl,rfl⟩|⟨rfl,rfl⟩|⟨rfl,rfl⟩
 ·exact UD (mg_of X G (by kernel_rfl:nsIn (KK P) mainGlobals "MOST_CELLS" = some (some (.int 64 337))))
 ·have u:(KK P).lookup 124=some ⟨(.type "tuple"),none,(.seq #[(.str "west" 339),(.str "east" 340)] 0),#[]⟩:=by kernel_rfl
  exact uB (xs:=[.str "west",.str "east"]) (mg_of X G (by kernel_rfl:nsIn (KK P) mainGlobals "UPRIGHT_SIDES" = some (some (.ref 124)))) (fun H=>.inr ⟨_,_,_,u,rfl,rfl,by show 2≤sizeLine;rw[sizeLine_eq];decide,.cons ⟨_,rfl⟩ (.cons ⟨_,rfl⟩ .nil)⟩) ⟨_,u⟩ fun H S=>aE.cons (by exact rfl) (aE.cons (by exact rfl) aE.nil)
 ·have u:(KK P).lookup 125=some ⟨(.type "tuple"),none,(.seq #[(.str "north" 342),(.str "south" 343)] 0),#[]⟩:=by kernel_rfl
  exact uB (xs:=[.str "north",.str "south"]) (mg_of X G (by kernel_rfl:nsIn (KK P) mainGlobals "LEVEL_SIDES" = some (some (.ref 125)))) (fun H=>.inr ⟨_,_,_,u,rfl,rfl,by show 2≤sizeLine;rw[sizeLine_eq];decide,.cons ⟨_,rfl⟩ (.cons ⟨_,rfl⟩ .nil)⟩) ⟨_,u⟩ fun H S=>aE.cons (by exact rfl) (aE.cons (by exact rfl) aE.nil)
 ·have u:(KK P).lookup 126=some ⟨(.type "tuple"),none,(.seq #[(.str "west" 345),(.str "north" 346)] 0),#[]⟩:=by kernel_rfl
  exact uB (xs:=[.str "west",.str "north"]) (mg_of X G (by kernel_rfl:nsIn (KK P) mainGlobals "NEAR_SIDES" = some (some (.ref 126)))) (fun H=>.inr ⟨_,_,_,u,rfl,rfl,by show 2≤sizeLine;rw[sizeLine_eq];decide,.cons ⟨_,rfl⟩ (.cons ⟨_,rfl⟩ .nil)⟩) ⟨_,u⟩ fun H S=>aE.cons (by exact rfl) (aE.cons (by exact rfl) aE.nil)
end
theorem aIh{w:World}{h:Heap}{mg:vo}(X:(KK w.params).In h)(G:h.Ns mainGlobals mg){T:Tx}{Pr:vk}:∀x kvs,jb.lookup x=some kvs→∃a,mg x=some (.ref a)∧∀Y:Cx,Y.prog=Pr→Y.w=w→Y.K=KK w.params→OH Y T a kvs:=by
 intro x kvs hx;have dw:(x,kvs)∈jb:=ua hx
 simp only[jb,sv,uz,or_false,Prod.mk.injEq]at dw;obtain⟨rfl,rfl⟩:=dw;refine⟨268,mg_of X G (by kernel_rfl:nsIn (KK w.params) mainGlobals "SPINE_LINES" = some (some (.ref 268))),fun Y _ e2 e3=>?_⟩
 refine LV (ts:=[("west",552,.ref 269),("east",554,.ref 270),("north",556,.ref 271),("south",558,.ref 272)]) (o:=⟨(.type "dict"),none,(.dict #[en Y.w.params "west" 552 (.ref 269),en Y.w.params "east" 554 (.ref 270),en Y.w.params "north" 556 (.ref 271),en Y.w.params "south" 558 (.ref 272)] 4),#[]⟩) (by decide +kernel) (by rw[e3,←e2];kernel_rfl) ⟨rfl,rfl,rfl⟩ rfl (by decide +kernel) (by decide +kernel) ?_
 rw[e3];have u269:CV (KK w.params) T (.tup [.bl false,.int 0]) (.ref 269):=by
  have u:(KK w.params).lookup 269=some ⟨(.type "tuple"),none,(.seq #[(.bool false),(.int 0 553)] 0),#[]⟩:=by kernel_rfl
  exact tZ (xs:=[.bl false,.int 0]) (fun H=>.inr ⟨_,_,_,u,rfl,rfl,by show 2≤sizeLine;rw[sizeLine_eq];decide,.cons rfl (.cons ⟨_,rfl⟩ .nil)⟩) ⟨_,u⟩ fun H S=>aE.cons (by exact rfl) (aE.cons (by exact rfl) aE.nil)
 have u270:CV (KK w.params) T (.tup [.bl false,.int 1]) (.ref 270):=by
  have u:(KK w.params).lookup 270=some ⟨(.type "tuple"),none,(.seq #[(.bool false),(.int 1 555)] 0),#[]⟩:=by kernel_rfl
  exact tZ (xs:=[.bl false,.int 1]) (fun H=>.inr ⟨_,_,_,u,rfl,rfl,by show 2≤sizeLine;rw[sizeLine_eq];decide,.cons rfl (.cons ⟨_,rfl⟩ .nil)⟩) ⟨_,u⟩ fun H S=>aE.cons (by exact rfl) (aE.cons (by exact rfl) aE.nil)
 have u271:CV (KK w.params) T (.tup [.bl true,.int 0]) (.ref 271):=by
  have u:(KK w.params).lookup 271=some ⟨(.type "tuple"),none,(.seq #[(.bool true),(.int 0 557)] 0),#[]⟩:=by kernel_rfl
  exact tZ (xs:=[.bl true,.int 0]) (fun H=>.inr ⟨_,_,_,u,rfl,rfl,by show 2≤sizeLine;rw[sizeLine_eq];decide,.cons rfl (.cons ⟨_,rfl⟩ .nil)⟩) ⟨_,u⟩ fun H S=>aE.cons (by exact rfl) (aE.cons (by exact rfl) aE.nil)
 have u272:CV (KK w.params) T (.tup [.bl true,.int 1]) (.ref 272):=by
  have u:(KK w.params).lookup 272=some ⟨(.type "tuple"),none,(.seq #[(.bool true),(.int 1 559)] 0),#[]⟩:=by kernel_rfl
  exact tZ (xs:=[.bl true,.int 1]) (fun H=>.inr ⟨_,_,_,u,rfl,rfl,by show 2≤sizeLine;rw[sizeLine_eq];decide,.cons rfl (.cons ⟨_,rfl⟩ .nil)⟩) ⟨_,u⟩ fun H S=>aE.cons (by exact rfl) (aE.cons (by exact rfl) aE.nil)
 intro i p q h1 h2
 match i with
 | 0=>cases h1;cases h2;exact u269
 | 1=>cases h1;cases h2;exact u270
 | 2=>cases h1;cases h2;exact u271
 | 3=>cases h1;cases h2;exact u272
 |i+4=>cases h1
def uY(K:vi):Sp:=fun vs H Q _=>∃(a:Addr) (ns:List Int),vs=[.ref a]∧SqL K H a (ns.map V.int)∧ns.length≤63∧∀H',Q (.bl true) H'
theorem qB{K:vi}{T:Tx}{H:Hp}{S:Addr→Prop}:∀ns:List Int,aE K T H S (ns.map D.int) (ns.map V.int)
 |[]=>aE.nil
 |n::ns=>aE.cons (by exact rfl) (qB ns)
theorem aAs{P:vk}{w:World}{K:vi}{mg:vo}{base:Heap}{T:Tx}{k:Nat}{f:Addr}{fd:vj}{fr:Bool}(F:FnOk P w K mg base (gL P w) k f fd rB (i5 K T 1 wG fr))(hk:k≤60):FnOk P w K mg base k7 60 f fd ["script"] (uY K):=by
 have key:∀vs H Q E,uY K vs H Q E→i5 K T 1 wG fr vs H Q E0:=by
  rintro vs H Q E ⟨a,ns,rfl,hS,hl,q⟩;refine⟨rfl,fun _=>False,[.frz (ns.map D.int)],fun _ z=>z.elim,aE.cons (show Exists _ from⟨a,ns.map V.int,rfl,fun z=>z,hS,qB ns⟩) aE.nil,.inl ⟨.bl true,law_true ns hl,fun v H' sm r _=>?_⟩⟩
  obtain rfl:=r;exact q H'
 refine⟨fun vs H Q E hs=>F.len _ _ _ _ (key vs H Q E hs),fun A outer s H args us vs Q E hr e0 hb hv hs=>?_⟩
 refine codeAny_mono (F.run A outer s H args us vs Q E0 (hr.mono hk) e0 hb hv (key vs H Q E hs)) fun r s' hq=>?_
 cases r with
 |error e=>exact(VP _ _ _ _ _ hq).elim
 |ok fl=>cases fl<;>exact hq
noncomputable def cs(y:Str):Addr:=if y = "LeafError" then 24 else if y = "NoSheet" then 37 else if y = "NoFold" then 49 else if y = "NoPlace" then 61 else if y = "Ajar" then 73 else if y = "Severed" then 85 else if y = "Bolted" then 97 else if y = "Loose" then 109 else if y = "NoWord" then 121 else 0
section
variable {P:Params}
theorem uC:cs "LeafError" = 24:=by kernel_rfl
theorem zJ:cs "NoSheet" = 37:=by kernel_rfl
theorem GI:cs "NoFold" = 49:=by kernel_rfl
theorem oS:cs "NoPlace" = 61:=by kernel_rfl
theorem DG:cs "Ajar" = 73:=by kernel_rfl
theorem zI:cs "Severed" = 85:=by kernel_rfl
theorem GJ:cs "Bolted" = 97:=by kernel_rfl
theorem MC:cs "Loose" = 109:=by kernel_rfl
theorem GH:cs "NoWord" = 121:=by kernel_rfl
theorem ig:∀k,cj.contains k=true→k = "LeafError"∨k = "Ajar"∨k = "NoPlace":=by
 intro k hk;have gf:k∈cj:=by simpa using hk
 simpa only [cj,sv,uz,or_false] using gf
theorem ox:∀k,cj.contains k=true→excIn (KK P) (cs k) fw "ValueError.__new__" = true:=by
 intro k hk
 rcases ig k hk with rfl|rfl|rfl
 ·exact(by kernel_rfl:excIn (KK P) (cs "LeafError") fw "ValueError.__new__" = true)
 ·exact(by kernel_rfl:excIn (KK P) (cs "Ajar") fw "ValueError.__new__" = true)
 ·exact(by kernel_rfl:excIn (KK P) (cs "NoPlace") fw "ValueError.__new__" = true)
theorem mT:∀k k',cj.contains k=true→cj.contains k'=true→XG k k'=true→eI (KK P) (cs k) (.ref (cs k'))=true:=by
 intro k k' hk gf hs
 rcases ig k hk with rfl|rfl|rfl
 ·rcases ig k' gf with rfl|rfl|rfl
  ·exact(by kernel_rfl:eI (KK P) (cs "LeafError") (.ref (cs "LeafError"))=true)
  ·exact nomatch (show false=true from hs)
  ·exact nomatch (show false=true from hs)
 ·rcases ig k' gf with rfl|rfl|rfl
  ·exact(by kernel_rfl:eI (KK P) (cs "Ajar") (.ref (cs "LeafError"))=true)
  ·exact(by kernel_rfl:eI (KK P) (cs "Ajar") (.ref (cs "Ajar"))=true)
  ·exact nomatch (show false=true from hs)
 ·rcases ig k' gf with rfl|rfl|rfl
  ·exact(by kernel_rfl:eI (KK P) (cs "NoPlace") (.ref (cs "LeafError"))=true)
  ·exact nomatch (show false=true from hs)
  ·exact(by kernel_rfl:eI (KK P) (cs "NoPlace") (.ref (cs "NoPlace"))=true)
theorem aAG:∀k,cj.contains k=true→∀j,bI.idxOf? k=some j→(k = "Ajar"∧j=3)∨(k = "NoPlace"∧j=2):=by
 intro k hk j hj
 rcases ig k hk with rfl|rfl|rfl
 ·rw[show bI.idxOf? ("LeafError":Str)=none from by decide +kernel]at hj;cases hj
 ·exact .inl ⟨rfl,rn (hj.symm.trans (by decide +kernel))⟩
 ·exact .inr (⟨rfl,rn (hj.symm.trans (by decide +kernel))⟩)
theorem hX:∀k,cj.contains k=true→∀(j:Nat),bI.idxOf? k=some j→XcK (KK P) (cs k):=by
 intro k hk j hj
 rcases aAG k hk j hj with ⟨rfl,rfl⟩|⟨rfl,rfl⟩
 ·rw[DG];exact⟨by kernel_rfl,by kernel_rfl,by kernel_rfl,by kernel_rfl,by kernel_rfl,by kernel_rfl,by kernel_rfl⟩
 ·rw[oS];exact⟨by kernel_rfl,by kernel_rfl,by kernel_rfl,by kernel_rfl,by kernel_rfl,by kernel_rfl,by kernel_rfl⟩
theorem hv:∀k,cj.contains k=true→∀(j:Nat),bI.idxOf? k=some j→kitOne (KK P) (.ref (cs k)) (.type "ValueError")=some true:=by
 intro k hk j hj
 rcases aAG k hk j hj with ⟨rfl,rfl⟩|⟨rfl,rfl⟩
 ·exact(by kernel_rfl:kitOne (KK P) (.ref (cs "Ajar")) (.type "ValueError")=some true)
 ·exact(by kernel_rfl:kitOne (KK P) (.ref (cs "NoPlace")) (.type "ValueError")=some true)
theorem hkt:∀k,cj.contains k=true→∀(j:Nat),bI.idxOf? k=some j→∀(i:Nat) (y:Str),bI[i]?=some y→kitOne (KK P) (.ref (cs k)) (.ref (cs y))=some (decide (i=j)):=by
 intro k hk j hj i y hy;have hi:i<8:=(q8.mp hy).1
 have hi8:i=0∨i=1∨i=2∨i=3∨i=4∨i=5∨i=6∨i=7:=by lia
 rcases aAG k hk j hj with ⟨rfl,rfl⟩|⟨rfl,rfl⟩
 ·rcases hi8 with rfl|rfl|rfl|rfl|rfl|rfl|rfl|rfl
  ·cases hy;exact(by kernel_rfl:kitOne (KK P) (.ref (cs "Ajar")) (.ref (cs "NoSheet"))=some (decide (0=3)))
  ·cases hy;exact(by kernel_rfl:kitOne (KK P) (.ref (cs "Ajar")) (.ref (cs "NoFold"))=some (decide (1=3)))
  ·cases hy;exact(by kernel_rfl:kitOne (KK P) (.ref (cs "Ajar")) (.ref (cs "NoPlace"))=some (decide (2=3)))
  ·cases hy;exact(by kernel_rfl:kitOne (KK P) (.ref (cs "Ajar")) (.ref (cs "Ajar"))=some (decide (3=3)))
  ·cases hy;exact(by kernel_rfl:kitOne (KK P) (.ref (cs "Ajar")) (.ref (cs "Severed"))=some (decide (4=3)))
  ·cases hy;exact(by kernel_rfl:kitOne (KK P) (.ref (cs "Ajar")) (.ref (cs "Bolted"))=some (decide (5=3)))
  ·cases hy;exact(by kernel_rfl:kitOne (KK P) (.ref (cs "Ajar")) (.ref (cs "Loose"))=some (decide (6=3)))
  ·cases hy;exact(by kernel_rfl:kitOne (KK P) (.ref (cs "Ajar")) (.ref (cs "NoWord"))=some (decide (7=3)))
 ·rcases hi8 with rfl|rfl|rfl|rfl|rfl|rfl|rfl|rfl
  ·cases hy;exact(by kernel_rfl:kitOne (KK P) (.ref (cs "NoPlace")) (.ref (cs "NoSheet"))=some (decide (0=2)))
  ·cases hy;exact(by kernel_rfl:kitOne (KK P) (.ref (cs "NoPlace")) (.ref (cs "NoFold"))=some (decide (1=2)))
  ·cases hy;exact(by kernel_rfl:kitOne (KK P) (.ref (cs "NoPlace")) (.ref (cs "NoPlace"))=some (decide (2=2)))
  ·cases hy;exact(by kernel_rfl:kitOne (KK P) (.ref (cs "NoPlace")) (.ref (cs "Ajar"))=some (decide (3=2)))
  ·cases hy;exact(by kernel_rfl:kitOne (KK P) (.ref (cs "NoPlace")) (.ref (cs "Severed"))=some (decide (4=2)))
  ·cases hy;exact(by kernel_rfl:kitOne (KK P) (.ref (cs "NoPlace")) (.ref (cs "Bolted"))=some (decide (5=2)))
  ·cases hy;exact(by kernel_rfl:kitOne (KK P) (.ref (cs "NoPlace")) (.ref (cs "Loose"))=some (decide (6=2)))
  ·cases hy;exact(by kernel_rfl:kitOne (KK P) (.ref (cs "NoPlace")) (.ref (cs "NoWord"))=some (decide (7=2)))
variable {h:Heap}{mg:vo}(X:(KK P).In h)(G:h.Ns mainGlobals mg)
include X G
theorem mx:∀y,(["LeafError","NoSheet","NoFold","NoPlace","Ajar","Severed","Bolted","Loose","NoWord"]:List Str).contains y=true→mg y=some (.ref (cs y)):=by
 intro y hy;have bY:y∈(["LeafError","NoSheet","NoFold","NoPlace","Ajar","Severed","Bolted","Loose","NoWord"]:List Str):=by simpa using hy
 simp only[sv,uz,or_false]at bY
 rcases bY with rfl|rfl|rfl|rfl|rfl|rfl|rfl|rfl|rfl
 ·rw[uC];exact mg_of X G (by kernel_rfl)
 ·rw[zJ];exact mg_of X G (by kernel_rfl)
 ·rw[GI];exact mg_of X G (by kernel_rfl)
 ·rw[oS];exact mg_of X G (by kernel_rfl)
 ·rw[DG];exact mg_of X G (by kernel_rfl)
 ·rw[zI];exact mg_of X G (by kernel_rfl)
 ·rw[GJ];exact mg_of X G (by kernel_rfl)
 ·rw[MC];exact mg_of X G (by kernel_rfl)
 ·rw[GH];exact mg_of X G (by kernel_rfl)
theorem hxg:∀k,cj.contains k=true→mg k=some (.ref (cs k)):=fun k hk=>mx X G k (by
 rcases ig k hk with rfl|rfl|rfl<;>decide +kernel)
theorem hmx:∀y∈bI,mg y=some (.ref (cs y)):=fun y hy=>mx X G y (by
 have:bI.all (fun y=>(["LeafError","NoSheet","NoFold","NoPlace","Ajar","Severed","Bolted","Loose","NoWord"]:List Str).contains y)=true:=by decide +kernel
 exact all_eq_true.mp this y hy)
end
set_option maxHeartbeats 0 in
theorem all_mk{l:PySem.W.OpenLaw}{w:World}{h:Heap}{mg:vo}{fa:Addr}(X:(KK w.params).In h)(G:h.Ns mainGlobals mg)(hfa:mg "law" = some (.ref fa)) :
  ∃fd:vj,(∀(s:Shared) (v:Value),BindsTo s fd ⟨[v],[]⟩ [("script",v)])∧∀base:Heap,(KK w.params).In base→base.Ns mainGlobals mg→FnOk l.prog w (KK w.params) mg base k7 60 fa fd ["script"] (uY (KK w.params)):=by
 have e:=hfa.symm.trans (WS X G).at_
 cases e;refine⟨oI,fun s v=>.of_eq rfl,fun base _ _=>?_⟩
 have m:=mk1 (mk0 (P:=l.prog) (w:=w) (base:=base) (cs:=cs) (aFk X G) (MK _) (JO _) (aAH X G) (hxg X G) ox mT (aGT (aIA X G) (aAH X G _ (by decide +kernel)) (aAH X G _ (by decide +kernel)) (hmx X G) hX hkt hv) (aIh X G)) (mg_of X G (by kernel_rfl)) (aAF _) (aFN _) (WA _) (MK _) (JO _)
 replace m:MO _ _ _ _ _ _ _ m2 g2 4:=mkM aFu aCD aEe aDk m (aGv _);replace m:MO _ _ _ _ _ _ _ m3 g3 5:=b0 aCH aEi aDo m (aGz X G);replace m:MO _ _ _ _ _ _ _ m4 g4 6:=b0 aCB aEc aDi m (aGt X G);replace m:MO _ _ _ _ _ _ _ m5 g5 7:=b0 aCG aEh aDn m (aGy X G);replace m:MO _ _ _ _ _ _ _ m6 g6 8:=b0 aHp aHT aHB m (aIE X G);replace m:MO _ _ _ _ _ _ _ m7 g7 9:=b0 aCV aEx aDC m (aGN X G);replace m:MO _ _ _ _ _ _ _ m8 g8 10:=b0 aCT aEv aDA m (aGL X G);replace m:MO _ _ _ _ _ _ _ m9 g9 11:=b0 aHn aHR aHz m (aIC X G);replace m:MO _ _ _ _ _ _ _ m10 qb 12:=b0 aCI aEj aDp m (aGA X G);replace m:MO _ _ _ _ _ _ _ m11 mG 13:=b0 aCN aEp aDu m (aGF X G);replace m:MO _ _ _ _ _ _ _ m12 g12 14:=b0 aHo aHS aHA m (aID X G);replace m:MO _ _ _ _ _ _ _ m13 g13 15:=b0 aCO aEq aDv m (aGG X G);replace m:MO _ _ _ _ _ _ _ m14 kn 16:=b0 aHt aHX aHF m (aII X G);replace m:MO _ _ _ _ _ _ _ m15 mz 17:=b0 aCF aEg aDm m (aGx X G);replace m:MO _ _ _ _ _ _ _ m16 g16 18:=b0 aCS aEu aDz m (aGK X G);replace m:MO _ _ _ _ _ _ _ m17 my 19:=b0 aCM aEo aDt m (aGE X G);replace m:MO _ _ _ _ _ _ _ m18 qa 20:=b0 aCQ aEs aDx m (aGI X G);replace m:MO _ _ _ _ _ _ _ m19 p9 21:=b0 aCE aEf aDl m (aGw X G);replace m:MO _ _ _ _ _ _ _ m20 g20 22:=b0 aCz aEa aDg m (aGs X G);replace m:MO _ _ _ _ _ _ _ m21 p8 23:=b0 aHs aHW aHE m (aIH X G);replace m:MO _ _ _ _ _ _ _ m22 mw 24:=b0 aHr aHV aHD m (aIG X G);replace m:MO _ _ _ _ _ _ _ m23 g23 25:=mkT aCC aEd aDj m (aGu X G);replace m:MO _ _ _ _ _ _ _ m24 g24 26:=b0 aHm aHQ aHy m (aIB X G);replace m:MO _ _ _ _ _ _ _ m25 g25 27:=b0 aCR aEt aDy m (aGJ X G);replace m:MO _ _ _ _ _ _ _ m26 p7 28:=b0 aHq aHU aHC m (aIF X G);replace m:MO _ _ _ _ _ _ _ m27 jg 29:=b0 aHl aHP aHx m (aIz X G);replace m:MO _ _ _ _ _ _ _ m28 mq 30:=b0 aCJ aEk aDq m (aGB X G);replace m:MO _ _ _ _ _ _ _ m29 g29 31:=b0 aCU aEw aDB m (aGM X G);replace m:MO _ _ _ _ _ _ _ m30 p6 32:=b0 aCL aEn aDs m (aGD X G);replace m:MO _ _ _ _ _ _ _ m31 p0 33:=b0 aCK aEm aDr m (aGC X G);replace m:MO _ _ _ _ _ _ _ oq fu 34:=b0 aCP aEr aDw m (aGH X G);exact aAs (aAq m (WS X G)) (by decide)
theorem walk{l:PySem.W.OpenLaw}{q:vk}{loose:List Str}{XP:(vo)→Heap→Prop}{YP:World→Heap→Prop}{d:DefRec}{K:Params→vi}(hn:l.most=some 63)(ph:d.params.defaults=[])
  (hY:∀(w:World) (h:Heap),YP w h→(K w.params).In h)
  (F:∀(w:World) (mg:vo) (fa:Addr) (h:Heap),(K w.params).In h→h.Ns mainGlobals mg→mg d.name=some (.ref fa) →
   ∃fd:vj,(∀(s:Shared) (u:Value),BindsTo s fd ⟨[u],[]⟩ [("script",u)])∧∀base:Heap,(K w.params).In base→base.Ns mainGlobals mg→FnOk l.prog w (K w.params) mg base k7 60 fa fd ["script"] (uY (K w.params))) :
  PySem.W.WalkO q loose XP YP l.row.toRowW d [] (fun f vs=>PySem.call f vs):=
 L2.OK (n:=63) (k:=60) (x:="script") (CX:=fun _=>k7) (sp:=fun w=>uY (K w.params)) hn (by decide) ph ⟨rfl,by decide,by decide⟩ hY F (fun _ _ a ns hl _ hS=>⟨a,ns,rfl,hS,hl,fun _=>rfl⟩) fun _ _ _ _ _ z=>z
end Toy
open PySem PySem.W PyProof.Rows
set_option maxRecDepth 100000 in
set_option maxHeartbeats 0 in
theorem PySem.Challenge.cw_leaffold_k09_plan_holds : PySem.Challenge.rw_leaffold_k09_plan.Holds := by
 w_on;o_law
 refine holds_open (q:=Toy.vw) (loose:=(["SPINE_LINES"]:List Str)) (Xt:=Toy.Xt) (XP:=XL Toy.vw []) (Yf:=Hook.obs Toy.HH) (Ya:=Hook.val Toy.HH) (YP:=Hook.says Toy.HH) (N:=6766) Toy.left (Hook.of Toy.HH) (Hook.keeps Toy.HH) (fun s e=>xl_of s (Bool.and_eq_true_iff.mp e).1) XL.keeps (by rfl) (by rfl) (by rfl) (fun s e=>recFacts_of (Bool.and_eq_true_iff.mp e).2) (by rfl) (by first|assumption|decide +kernel) (by decide +kernel) ⟨rfl,rfl,rfl,rfl,rfl,by decide +kernel⟩ ?hw ?hc
 case hw=>w_witness2
 case hc=>exact Toy.walk (l:=Toy.lw) (K:=Toy.KK) rfl rfl (fun w h Y=>PySem.W.kIn_of Y) fun w mg fa h KX G iq=>Toy.all_mk KX G iq
